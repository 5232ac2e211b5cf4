/- What runs are, in plain words: a run, when it is right, when two stand apart, what is covered. Nothing of a program is in here. -/
import Derived.Calls
namespace Go.Proofs.YtfjaeohfigcciaaDoor

structure Rn where
  (r lo hi : Int)
  deriving DecidableEq, Inhabited, Repr

/-- a run is right by itself -/
def rrB (x : Rn) : Bool := decide (x.r < 8 ∧ 1 ≤ x.lo ∧ x.lo ≤ x.hi)
/-- a pair is one of a run's -/
def covB (x : Rn) (p n : Int) : Bool := decide (x.r = p ∧ x.lo ≤ n ∧ n ≤ x.hi)
/-- y may stand behind x as a run of its own -/
def apB (x y : Rn) : Bool := decide (x.r < y.r ∨ (x.r = y.r ∧ x.hi + 1 < y.lo))
/-- within what the types hold -/
def Rn.ok (x : Rn) : Prop := (0 ≤ x.r ∧ x.r ≤ 255) ∧ (0 ≤ x.lo ∧ x.lo ≤ 4294967295) ∧ (0 ≤ x.hi ∧ x.hi ≤ 4294967295)

end Go.Proofs.YtfjaeohfigcciaaDoor

