/- Texts in one: PRep. -/
import Derived.Test.YtfjaeohfigcciabGreatDoorQB03
import Derived.Test.YtfjaeohfigcciabGreatDoorQB04
set_option linter.unusedVariables false
set_option linter.unusedSimpArgs false
set_option linter.unusedSectionVars false
set_option linter.unnecessarySimpa false
namespace Go.Proofs.YtfjaeohfigcciabGreatDoor

structure Ss where
  on : Bool
  (num src cur epoch : Int)
  offer : List Rn
  last : Int
  deriving Inhabited
structure Rp where
  (rep flt epoch seq : Int)
  know : List Rn
  held : List En
  ses : Ss
  deriving Inhabited

def Ss.ok (s : Ss) : Prop := (0 ≤ s.num ∧ s.num ≤ 4294967295) ∧ (0 ≤ s.src ∧ s.src ≤ 255) ∧ (0 ≤ s.cur ∧ s.cur ≤ 255) ∧ (0 ≤ s.epoch ∧ s.epoch ≤ 4294967295) ∧ (∀ x ∈ s.offer, x.ok) ∧ (0 ≤ s.last ∧ s.last ≤ 4294967295)
def Rp.ok (r : Rp) : Prop := (0 ≤ r.rep ∧ r.rep ≤ 255) ∧ (0 ≤ r.flt ∧ r.flt ≤ 255) ∧ (0 ≤ r.epoch ∧ r.epoch ≤ 4294967295) ∧ (0 ≤ r.seq ∧ r.seq ≤ 4294967295) ∧ (∀ x ∈ r.know, x.ok) ∧ (∀ x ∈ r.held, x.ok) ∧ r.ses.ok

/-- a session is right -/
def sesB (s : Ss) (rep : Int) : Bool :=
  if s.on = true then rightB s.offer && decide (1 ≤ s.num ∧ s.num ≤ s.last ∧ s.src ≤ 7 ∧ s.src ≠ rep ∧ s.cur ≤ 63 ∧ (0 < s.cur ∨ (s.epoch = 0 ∧ s.offer = [])))
  else decide (s.num = 0 ∧ s.src = 0 ∧ s.cur = 0 ∧ s.epoch = 0 ∧ s.offer = [])
/-- no run of that replica's goes above its number -/
def topB (rep seq : Int) (l : List Rn) : Bool := l.all fun x => !(decide (x.r = rep) && decide (seq < x.hi))
/-- what is asked of one that is held, and of those ahead of it -/
def heldAt (r : Rp) (i : Nat) : Bool :=
  !(decide (r.held[i]!.rep = r.rep) && decide (r.seq < r.held[i]!.seq)) && ((List.range i).all (fun k => !(decide (r.held[k]!.rep = r.held[i]!.rep) && decide (r.held[k]!.seq = r.held[i]!.seq))) &&
    (!(decide (r.held[i]!.kind = 1) && !inB r.held[i]! r.flt) && !(decide (r.held[i]!.kind ≠ 2) && !hasB r.know r.held[i]!.rep r.held[i]!.seq)))
def headR (r : Rp) : Bool := decide (r.rep ≤ 7) && (rightB r.know && (erightB r.held && sesB r.ses r.rep))
/-- a replica is right -/
def rpB (r : Rp) : Bool := headR r && (topB r.rep r.seq r.know && (topB r.rep r.seq r.ses.offer && (List.range r.held.length).all (heldAt r)))

theorem rp_parts {r : Rp} (h : rpB r = true) : r.rep ≤ 7 ∧ rightB r.know = true ∧ erightB r.held = true ∧ sesB r.ses r.rep = true := by
  simp only [rpB, headR, Bool.and_eq_true, decide_eq_true_eq] at h
  exact ⟨h.1.1, h.1.2.1, h.1.2.2.1, h.1.2.2.2⟩

/-! what is due, and what is answered -/
/-- as it is, if it is in the filter, else its ghost -/
def fitE (f : Int) (e : En) : En := if inB e f = true then e else fadeE e
theorem fade_re {x : En} (h : reB x = true) : reB (fadeE x) = true := by
  unfold fadeE
  split
  · rename_i hk
    simp only [reB, rvB, rkB, En.ver, Bool.and_eq_true, decide_eq_true_eq] at h ⊢
    obtain ⟨h1, h2, h3⟩ := h
    refine ⟨h1, h2, ?_⟩
    right
    left
    refine ⟨by simp, ?_, by simp⟩
    omega
  · exact h
theorem fit_re {f : Int} {x : En} (h : reB x = true) : reB (fitE f x) = true := by
  unfold fitE
  split
  · exact h
  · exact fade_re h
theorem fade_same (x : En) : (fadeE x).id = x.id ∧ (fadeE x).rep = x.rep ∧ (fadeE x).seq = x.seq ∧ (fadeE x).stamp = x.stamp := by
  unfold fadeE
  split <;> exact ⟨rfl, rfl, rfl, rfl⟩
theorem fit_same (f : Int) (x : En) : (fitE f x).id = x.id ∧ (fitE f x).rep = x.rep ∧ (fitE f x).seq = x.seq ∧ (fitE f x).stamp = x.stamp := by
  unfold fitE
  split
  · exact ⟨rfl, rfl, rfl, rfl⟩
  · exact fade_same x
theorem fade_ok {x : En} (h : x.ok) : (fadeE x).ok := by
  unfold fadeE
  split
  · obtain ⟨h1, h2, h3, h4, h5⟩ := h
    exact ⟨h1, h2, ⟨by simp, by simp⟩, h4, ⟨by simp, by simp⟩⟩
  · exact h
theorem fit_ok {f : Int} {x : En} (h : x.ok) : (fitE f x).ok := by
  unfold fitE
  split
  · exact h
  · exact fade_ok h

end Go.Proofs.YtfjaeohfigcciabGreatDoor

