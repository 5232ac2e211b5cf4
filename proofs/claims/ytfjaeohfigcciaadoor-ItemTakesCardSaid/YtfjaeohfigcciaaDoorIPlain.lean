/- What versions and entries are, in plain words: when they are right, which version is less, what is in a filter, what a ghost is. Nothing of a program is in here. -/
import Derived.Calls
namespace Go.Proofs.YtfjaeohfigcciaaDoor

structure Vr where
  (rep seq stamp : Int)
  deriving DecidableEq, Inhabited, Repr
structure En where
  (id rep seq stamp kind cls val : Int)
  deriving DecidableEq, Inhabited, Repr

def En.ver (x : En) : Vr := ⟨x.rep, x.seq, x.stamp⟩
/-- a version is right -/
def rvB (v : Vr) : Bool := decide (v.rep < 8 ∧ 1 ≤ v.seq ∧ 1 ≤ v.stamp)
/-- a version is less than another one -/
def ltV (a b : Vr) : Bool := decide (a.stamp < b.stamp ∨ (a.stamp = b.stamp ∧ (a.rep < b.rep ∨ (a.rep = b.rep ∧ a.seq < b.seq))))
def cmpV (a b : Vr) : Int := if ltV a b = true then -1 else if ltV b a = true then 1 else 0
/-- what a kind asks -/
def rkB (x : En) : Bool := decide ((x.kind = 1 ∧ x.cls = x.val % 8) ∨ (x.kind = 2 ∧ x.cls < 8 ∧ x.val = 0) ∨ (x.kind = 3 ∧ x.cls = 0 ∧ x.val = 0))
/-- an entry is right -/
def reB (x : En) : Bool := rvB x.ver && (decide (x.id < 64) && rkB x)
/-- an entry comes instead of what is held -/
def repB (e x : En) : Bool := ltV x.ver e.ver || (decide (x.ver = e.ver) && (decide (x.kind = 2) && decide (e.kind ≠ 2)))
/-- its ghost -/
def fadeE (x : En) : En := if x.kind = 1 then ⟨x.id, x.rep, x.seq, x.stamp, 2, x.cls, 0⟩ else x

/-- within what the types hold -/
def Vr.ok (v : Vr) : Prop := (0 ≤ v.rep ∧ v.rep ≤ 255) ∧ (0 ≤ v.seq ∧ v.seq ≤ 4294967295) ∧ (0 ≤ v.stamp ∧ v.stamp ≤ 4294967295)
def En.ok (x : En) : Prop := (0 ≤ x.id ∧ x.id ≤ 255) ∧ x.ver.ok ∧ (-9223372036854775808 ≤ x.kind ∧ x.kind ≤ 9223372036854775807) ∧ (0 ≤ x.cls ∧ x.cls ≤ 255) ∧ (0 ≤ x.val ∧ x.val ≤ 4294967295)

theorem cmpV_neg (a b : Vr) : cmpV a b < 0 ↔ ltV a b = true := by
  unfold cmpV
  split
  · simp [*]
  · split <;> simp [*]
theorem cmpV_zero (a b : Vr) : cmpV a b = 0 ↔ a = b := by
  obtain ⟨r, q, t⟩ := a
  obtain ⟨r', q', t'⟩ := b
  simp only [cmpV, ltV, Vr.mk.injEq, decide_eq_true_eq]
  split
  · constructor
    · intro h; omega
    · intro h; omega
  · split
    · constructor
      · intro h; omega
      · intro h; omega
    · constructor
      · intro h; omega
      · intro h; omega
theorem ltV_irrefl (a : Vr) : ltV a a = false := by
  simp [ltV]
theorem ltV_trans {a b c : Vr} (h : ltV a b = true) (k : ltV b c = true) : ltV a c = true := by
  simp only [ltV, decide_eq_true_eq] at *
  omega
theorem ltV_total (a b : Vr) : ltV a b = true ∨ a = b ∨ ltV b a = true := by
  obtain ⟨r, q, t⟩ := a
  obtain ⟨r', q', t'⟩ := b
  simp only [ltV, Vr.mk.injEq, decide_eq_true_eq]
  omega
theorem ltV_asymm {a b : Vr} (h : ltV a b = true) : ltV b a = false := by
  simp only [ltV, decide_eq_true_eq, decide_eq_false_iff_not] at *
  omega

end Go.Proofs.YtfjaeohfigcciaaDoor
