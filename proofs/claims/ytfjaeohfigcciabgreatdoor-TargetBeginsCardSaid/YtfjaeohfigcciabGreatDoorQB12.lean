/- Texts in one: PRef1. -/
import Derived.Test.YtfjaeohfigcciabGreatDoorQB09
import Derived.Test.YtfjaeohfigcciabGreatDoorQB06
import Derived.Test.YtfjaeohfigcciabGreatDoorQB10
import Derived.Test.YtfjaeohfigcciabGreatDoorQB11
set_option linter.unusedVariables false
set_option linter.unusedSimpArgs false
set_option linter.unusedSectionVars false
set_option linter.unnecessarySimpa false
namespace Go.Proofs.YtfjaeohfigcciabGreatDoor
open Go.RowKit

def Ss.cells (s : Ss) (vo : Value) : Array Value := #[.bool s.on, .int .u32 s.num, .int .u8 s.src, .int .u8 s.cur, .int .u32 s.epoch, vo, .int .u32 s.last]
/-- a block of one's own, read behind whatever came later -/
theorem box_cells {w w1 : World} {cs : Array Value} {t : TypeId} (hb : Below (w.alloc (.cells cs t)).heap.size (w.alloc (.cells cs t)) w1) (j : Nat) (u : Value) (hu : cs[j]? = some u) : w1.cell? ⟨w.heap.size, j, none⟩ = some u :=
  (hb.cell (p := ⟨w.heap.size, j, none⟩) (by simp)).trans ((World.cell?_alloc_mark w _ t (0, 0) j).trans hu)

theorem ses_on {s : Ss} {rep : Int} (h : s.on = true) : sesB s rep = (rightB s.offer && decide (1 ≤ s.num ∧ s.num ≤ s.last ∧ s.src ≤ 7 ∧ s.src ≠ rep ∧ s.cur ≤ 63 ∧ (0 < s.cur ∨ (s.epoch = 0 ∧ s.offer.length = 0)))) := by
  unfold sesB
  rw [if_pos h]
  simp only [List.length_eq_zero_iff]
theorem ses_off {s : Ss} {rep : Int} (h : s.on = false) : sesB s rep = decide (s.num = 0 ∧ s.src = 0 ∧ s.cur = 0 ∧ s.epoch = 0 ∧ s.offer.length = 0) := by
  unfold sesB
  rw [if_neg (by simp [h])]
  simp only [List.length_eq_zero_iff]

set_option maxHeartbeats 8000000 in
set_option maxRecDepth 100000 in
theorem q5session_any (vo : Value) (s : Ss) (rep : Int) (w : World) (ho : Sl w w.heap.size vo s.offer) (hl : s.offer.length ≤ 1000) (hok : s.ok) (hrep : 0 ≤ rep ∧ rep ≤ 255) :
    Calls Tryz.prog 58 #[.agg (s.cells vo), .int .u8 rep] w fun e w' => e = .returned (.bool (sesB s rep)) ∧ Below w.heap.size w w' := by
  obtain ⟨k1, k2, k3, k4, k5, k6⟩ := hok
  have NC := fun w1 => box_cells (w := w) (w1 := w1) (cs := s.cells vo) (t := 26)
  have hrr := fun w1 (hb : Below w.heap.size w w1) => refRight_any vo s.offer w1 ((ho.below hb).more hb.size) hl
  have HB0 := Lib.hid (al1 w (.cells (s.cells vo) 26))
  obtain ⟨Ao, co, rfl, _⟩ := ho
  unfold Ss.cells at NC HB0 ⊢
  clear k5
  cases hon : s.on
  · rw [hon] at NC HB0
    have hp := ses_off (rep := rep) hon; clear hon NC hrr
    have HPE := Lib.hid (show sesB s rep = ((s.num == 0) && ((s.src == 0) && ((s.cur == 0) && ((s.epoch == 0) && ((s.offer.length : Int) == 0))))) by
      rw [hp, len_zero, Bool.eq_iff_iff]
      simp only [decide_eq_true_eq, beq_iff_eq, Bool.and_eq_true])
    clear hp
    generalize sesB s rep = P at HPE ⊢
    obtain ⟨q1, hq1⟩ : ∃ q : Bool, (s.num == 0) = q := ⟨_, rfl⟩
    obtain ⟨q2, hq2⟩ : ∃ q : Bool, (s.src == 0) = q := ⟨_, rfl⟩
    obtain ⟨q3, hq3⟩ : ∃ q : Bool, (s.cur == 0) = q := ⟨_, rfl⟩
    obtain ⟨q4, hq4⟩ : ∃ q : Bool, (s.epoch == 0) = q := ⟨_, rfl⟩
    obtain ⟨q5, hq5⟩ : ∃ q : Bool, ((s.offer.length : Int) == 0) = q := ⟨_, rfl⟩
    cases q1
    case false =>
      go_enter Tryz.func58, Tryz.ntmps58
      go_wp2_with fail
      go_ret
      exact ⟨by rw [HPE.out]; simp_all, HB0.out⟩
    cases q2
    case false =>
      go_enter Tryz.func58, Tryz.ntmps58
      go_wp2_with fail
      go_ret
      exact ⟨by rw [HPE.out]; simp_all, HB0.out⟩
    cases q3
    case false =>
      go_enter Tryz.func58, Tryz.ntmps58
      go_wp2_with fail
      go_ret
      exact ⟨by rw [HPE.out]; simp_all, HB0.out⟩
    cases q4
    case false =>
      go_enter Tryz.func58, Tryz.ntmps58
      go_wp2_with fail
      go_ret
      exact ⟨by rw [HPE.out]; simp_all, HB0.out⟩
    go_enter Tryz.func58, Tryz.ntmps58
    go_wp2_with fail
    go_ret
    exact ⟨by rw [HPE.out]; simp_all, HB0.out⟩
  · rw [hon] at NC HB0
    have hp := ses_on (rep := rep) hon; clear hon
    generalize sesB s rep = P at hp ⊢
    generalize rightB s.offer = b at hp hrr
    have HRR := Lib.hid hrr; clear hrr
    have NC := Lib.hid NC
    have HPE := Lib.hid (show P = (b && decide (1 ≤ s.num ∧ s.num ≤ s.last ∧ s.src ≤ 7 ∧ s.src ≠ rep ∧ s.cur ≤ 63 ∧ (0 < s.cur ∨ ((s.epoch == 0) = true ∧ ((s.offer.length : Int) == 0) = true)))) by
      rw [hp, len_zero]
      simp only [decide_eq_true_eq, beq_iff_eq])
    clear hp
    obtain ⟨q4, hq4⟩ : ∃ q : Bool, (s.epoch == 0) = q := ⟨_, rfl⟩
    obtain ⟨q5, hq5⟩ : ∃ q : Bool, ((s.offer.length : Int) == 0) = q := ⟨_, rfl⟩
    obtain ⟨q6, hq6⟩ : ∃ q : Bool, (s.src != rep) = q := ⟨_, rfl⟩
    have HQ6 := Lib.hid hq6
    rw [hq4, hq5] at HPE
    cases q4 <;> cases q5 <;> cases q6 <;>
    (go_enter Tryz.func58, Tryz.ntmps58
     go_wp2_with fail
     all_goals
       refine (HRR.out _ (al1 w _)).mono ?_
       rintro e w1 ⟨rfl, hb1⟩
       have m1 := NC.out w1 hb1 1 _ rfl
       have m2 := NC.out w1 hb1 2 _ rfl
       have m3 := NC.out w1 hb1 3 _ rfl
       have m6 := NC.out w1 hb1 6 _ rfl
       have HB1 := Lib.hid (HB0.out.trans (hb1.mono (by simp))); clear hb1
       cases b
     all_goals
       go_wp2_with fail
     all_goals
       go_ret
       refine ⟨ret_bool ?_, HB1.out⟩
       rw [HPE.out]
       have hne := HQ6.out
       simp at hne
       first
         | (simp; done)
         | (rw [Bool.true_and]; symm; rw [decide_eq_false_iff_not]; simp; omega)
         | (rw [Bool.true_and]; symm; rw [decide_eq_true_eq]; simp; omega)
         | (rw [Bool.true_and, Bool.eq_iff_iff]; simp; omega))
end Go.Proofs.YtfjaeohfigcciabGreatDoor

