/- The contracts of the reference's Known and Short (layers 4 and 5). -/
import Derived.Test.YtfjaeohfigcciabPRef1
namespace Go.Proofs.Ytfjaeohfigcciab
open Go.RowKit

theorem short_three (a b c : Nat) : decide (a ≤ 300 ∧ b ≤ 300 ∧ c ≤ 300) = (decide ((a : Int) ≤ 300) && (decide ((b : Int) ≤ 300) && decide ((c : Int) ≤ 300))) := by
  rw [Bool.eq_iff_iff]
  simp only [decide_eq_true_eq, Bool.and_eq_true]
  omega

set_option maxHeartbeats 2000000 in
set_option maxRecDepth 100000 in
theorem q5Short_any (v : Value) (r : Rp) (w : World) (hv : RpV w w.heap.size v r) :
    Calls Try.prog 5 #[v] w fun en w' => en = .returned (.bool (decide (r.know.length ≤ 300 ∧ r.held.length ≤ 300 ∧ r.ses.offer.length ≤ 300))) ∧ Below w.heap.size w w' := by
  obtain ⟨vk, vh, vo, rfl, hk, hh, ho, hok⟩ := hv
  obtain ⟨Ak, ck, rfl, _⟩ := hk
  obtain ⟨Ah, ch, rfl, _⟩ := hh
  obtain ⟨Ao, co, rfl, _⟩ := ho
  clear hok
  unfold Rp.cells
  have HS := Lib.hid (short_three r.know.length r.held.length r.ses.offer.length)
  generalize decide (r.know.length ≤ 300 ∧ r.held.length ≤ 300 ∧ r.ses.offer.length ≤ 300) = P at HS ⊢
  obtain ⟨q1, hq1⟩ : ∃ q : Bool, decide ((r.know.length : Int) ≤ 300) = q := ⟨_, rfl⟩
  obtain ⟨q2, hq2⟩ : ∃ q : Bool, decide ((r.held.length : Int) ≤ 300) = q := ⟨_, rfl⟩
  obtain ⟨q3, hq3⟩ : ∃ q : Bool, decide ((r.ses.offer.length : Int) ≤ 300) = q := ⟨_, rfl⟩
  rw [hq1, hq2, hq3] at HS
  cases q1 <;> cases q2 <;> cases q3 <;>
    (simp at HS
     have hE := HS.out
     go_enter Try.func5, Try.ntmps5
     go_wp2_with fail
     go_ret
     refine ⟨?_, al1 w _⟩
     rw [hE]; rfl)

set_option maxHeartbeats 2000000 in
set_option maxRecDepth 100000 in
theorem q4Short_any (v : Value) (n : Nt) (w : World) (hv : NtV w w.heap.size v n) :
    Calls Try.prog 6 #[v] w fun en w' => en = .returned (.bool (decide (n.know.length ≤ 300 ∧ n.ents.length ≤ 300 ∧ n.offer.length ≤ 300))) ∧ Below w.heap.size w w' := by
  obtain ⟨vk, vh, vo, rfl, hk, hh, ho, hok⟩ := hv
  obtain ⟨Ak, ck, rfl, _⟩ := hk
  obtain ⟨Ah, ch, rfl, _⟩ := hh
  obtain ⟨Ao, co, rfl, _⟩ := ho
  clear hok
  unfold Nt.cells
  have HS := Lib.hid (short_three n.know.length n.ents.length n.offer.length)
  generalize decide (n.know.length ≤ 300 ∧ n.ents.length ≤ 300 ∧ n.offer.length ≤ 300) = P at HS ⊢
  obtain ⟨q1, hq1⟩ : ∃ q : Bool, decide ((n.know.length : Int) ≤ 300) = q := ⟨_, rfl⟩
  obtain ⟨q2, hq2⟩ : ∃ q : Bool, decide ((n.ents.length : Int) ≤ 300) = q := ⟨_, rfl⟩
  obtain ⟨q3, hq3⟩ : ∃ q : Bool, decide ((n.offer.length : Int) ≤ 300) = q := ⟨_, rfl⟩
  rw [hq1, hq2, hq3] at HS
  cases q1 <;> cases q2 <;> cases q3 <;>
    (simp at HS
     have hE := HS.out
     go_enter Try.func6, Try.ntmps6
     go_wp2_with fail
     go_ret
     refine ⟨?_, al1 w _⟩
     rw [hE]; rfl)
end Go.Proofs.Ytfjaeohfigcciab

