/- Texts in one: NMem. -/
import Derived.Outline
import Derived.Test.YtfjaeohfigcciabGreatDoorQF02
import Derived.Test.YtfjaeohfigcciabGreatDoorQF05
import Derived.Test.YtfjaeohfigcciabGreatDoorQF06
set_option linter.unusedVariables false
set_option linter.unusedSimpArgs false
set_option linter.unusedSectionVars false
set_option linter.unnecessarySimpa false
namespace Go.Proofs.YtfjaeohfigcciabGreatDoor
open Go.RowKit

/-- the cells of a note whose lists are those values -/
def Nt.cells (n : Nt) (vk ve vo : Value) : Array Value := #[.int .i64 n.kind, .int .u8 n.src, .int .u8 n.dst, .int .u32 n.num, .int .u8 n.cur, .int .u8 n.flt, vk, .int .u32 n.epoch, ve, .int .u8 n.next, .bool n.done, vo]
/-- a value is a note -/
def NtV (w : World) (B : Nat) (v : Value) (n : Nt) : Prop := ∃ vk ve vo, v = .agg (n.cells vk ve vo) ∧ Sl w B vk n.know ∧ ESl w B ve n.ents ∧ Sl w B vo n.offer ∧ n.ok
theorem NtV.below {w w' : World} {B : Nat} {v : Value} {n : Nt} (h : NtV w B v n) (hb : Below B w w') : NtV w' B v n := by
  obtain ⟨vk, ve, vo, hv, h1, h2, h3, ho⟩ := h
  exact ⟨vk, ve, vo, hv, h1.below hb, h2.below hb, h3.below hb, ho⟩
theorem NtV.more {w : World} {B B' : Nat} {v : Value} {n : Nt} (h : NtV w B v n) (hB : B ≤ B') : NtV w B' v n := by
  obtain ⟨vk, ve, vo, hv, h1, h2, h3, ho⟩ := h
  exact ⟨vk, ve, vo, hv, h1.more hB, h2.more hB, h3.more hB, ho⟩
theorem NtV.later {w w' : World} {v : Value} {n : Nt} (h : NtV w w.heap.size v n) (hb : Below w.heap.size w w') : NtV w' w'.heap.size v n := (h.below hb).more hb.size

set_option maxHeartbeats 4000000 in

theorem ret_bool {a b : Bool} (h : a = b) : Ending.returned (.bool a) = .returned (.bool b) := by rw [h]
theorem note_head {n : Nt} (h : headB n = false) : noteB n = false := by unfold noteB; rw [h]; rfl
theorem note_pull {n : Nt} (h : headB n = true) (hk : n.kind = 1) : noteB n = pullB n := by unfold noteB; rw [h, if_pos hk]; rfl
theorem note_batch {n : Nt} (h : headB n = true) (hk : n.kind ≠ 1) : noteB n = batchB n := by unfold noteB; rw [h, if_neg hk]; rfl

set_option maxHeartbeats 4000000 in
set_option maxRecDepth 100000 in
theorem q4Right_head (v : Value) (n : Nt) (w : World) (hv : NtV w w.heap.size v n) (h : headB n = false) :
    Calls Tryz.prog 26 #[v] w fun e w' => e = .returned (.bool false) ∧ Below w.heap.size w w' := by
  obtain ⟨vk, ve, vo, rfl, hk, he, ho, hok⟩ := hv
  obtain ⟨k0, k1, k2, k3, k4, k5, k6, k7, k8, k9, k10⟩ := hok
  clear hk he ho k6 k8 k10
  unfold Nt.cells
  simp only [headB, decide_eq_false_iff_not] at h
  by_cases c1 : n.src ≤ 7
  · by_cases c2 : n.dst ≤ 7
    · by_cases c3 : n.src = n.dst
      · have e3 : (n.src == n.dst) = true := by simp [c3]
        clear h c3
        go_enter Tryz.func26, Tryz.ntmps26
        go_wp2_with fail
        go_ret
        exact ⟨rfl, (Below.refl _ _).alloc (Nat.le_refl _) _⟩
      · have e3 : (n.src == n.dst) = false := by simp [c3]
        by_cases c4 : 1 ≤ n.num
        · have c5 : 63 < n.cur := by omega
          clear h c3
          go_enter Tryz.func26, Tryz.ntmps26
          go_wp2_with fail
          go_ret
          exact ⟨rfl, (Below.refl _ _).alloc (Nat.le_refl _) _⟩
        · have c4' : n.num < 1 := by omega
          clear h c3
          go_enter Tryz.func26, Tryz.ntmps26
          go_wp2_with fail
          go_ret
          exact ⟨rfl, (Below.refl _ _).alloc (Nat.le_refl _) _⟩
    · have c2' : 7 < n.dst := by omega
      clear h
      go_enter Tryz.func26, Tryz.ntmps26
      go_wp2_with fail
      go_ret
      exact ⟨rfl, (Below.refl _ _).alloc (Nat.le_refl _) _⟩
  · have c1' : 7 < n.src := by omega
    clear h
    go_enter Tryz.func26, Tryz.ntmps26
    go_wp2_with fail
    go_ret
    exact ⟨rfl, (Below.refl _ _).alloc (Nat.le_refl _) _⟩

set_option maxHeartbeats 4000000 in
set_option maxRecDepth 100000 in
theorem q4Right_pull (v : Value) (n : Nt) (w : World) (hv : NtV w w.heap.size v n) (h1 : n.know.length ≤ 1000) (h2 : n.ents.length ≤ 1000) (h3 : n.offer.length ≤ 1000) (h : headB n = true) (hkind : n.kind = 1) :
    Calls Tryz.prog 26 #[v] w fun e w' => e = .returned (.bool (pullB n)) ∧ Below w.heap.size w w' := by
  obtain ⟨vk, ve, vo, rfl, hk, he, ho, hok⟩ := hv
  obtain ⟨k0, k1, k2, k3, k4, k5, k6, k7, k8, k9, k10⟩ := hok
  unfold Nt.cells
  simp only [headB, decide_eq_true_eq] at h
  obtain ⟨c1, c2, c3, c4, c5⟩ := h
  have e3 : (n.src == n.dst) = false := by simp [c3]
  have ek : (n.kind == 1) = true := by simp [hkind]
  have hrr := fun w1 (hb : Below w.heap.size w w1) => refRight_any vk n.know w1 ((hk.below hb).more hb.size) h1
  have HP : pullB n = (rightB n.know && decide (n.epoch = 0 ∧ n.ents = [] ∧ n.offer = [] ∧ n.next = 0 ∧ n.done = false)) := rfl
  generalize pullB n = P at HP
  obtain ⟨Ae, ce, rfl, _⟩ := he
  obtain ⟨Ao, co, rfl, _⟩ := ho
  have hent : n.ents.length = 0 ↔ n.ents = [] := List.length_eq_zero_iff
  have hoff : n.offer.length = 0 ↔ n.offer = [] := List.length_eq_zero_iff
  clear hk hkind c3 k6 k8 k10
  cases hr : rightB n.know
  · rw [hr] at hrr HP
    have HPF := Lib.hid (show P = false by rw [HP]; rfl)
    have HRR := Lib.hid hrr; clear hrr HP hr hent hoff
    go_enter Tryz.func26, Tryz.ntmps26
    go_wp2_with fail
    refine (HRR.out _ ((Below.refl _ _).alloc (Nat.le_refl _) _)).mono ?_
    rintro e w1 ⟨rfl, hb1⟩
    have HB1 := Lib.hid (((Below.refl _ w).alloc (Nat.le_refl _) _).trans (hb1.mono (by simp)))
    have hc := fun (j : Nat) => hb1.cell (p := ⟨w.heap.size, j, none⟩) (by simp)
    clear hb1
    go_wp2_with fail
    go_ret
    rw [HPF.out]
    exact ⟨rfl, HB1.out⟩
  · rw [hr] at hrr HP
    have HPP := Lib.hid HP
    have HRR := Lib.hid hrr; clear hrr HP hr
    have HE := Lib.hid hent; clear hent
    have HO := Lib.hid hoff; clear hoff
    go_enter Tryz.func26, Tryz.ntmps26
    go_wp2_with fail
    refine (HRR.out _ ((Below.refl _ _).alloc (Nat.le_refl _) _)).mono ?_
    rintro e w1 ⟨rfl, hb1⟩
    have HB1 := Lib.hid (((Below.refl _ w).alloc (Nat.le_refl _) _).trans (hb1.mono (by simp)))
    have m7 := (hb1.cell (p := ⟨w.heap.size, 7, none⟩) (by simp)).trans (World.cell?_alloc_mark w _ 30 (0, 0) 7)
    have m8 := (hb1.cell (p := ⟨w.heap.size, 8, none⟩) (by simp)).trans (World.cell?_alloc_mark w _ 30 (0, 0) 8)
    have m9 := (hb1.cell (p := ⟨w.heap.size, 9, none⟩) (by simp)).trans (World.cell?_alloc_mark w _ 30 (0, 0) 9)
    have m10 := (hb1.cell (p := ⟨w.heap.size, 10, none⟩) (by simp)).trans (World.cell?_alloc_mark w _ 30 (0, 0) 10)
    have m11 := (hb1.cell (p := ⟨w.heap.size, 11, none⟩) (by simp)).trans (World.cell?_alloc_mark w _ 30 (0, 0) 11)
    simp at m7 m8 m9 m10 m11
    clear hb1
    go_wp2_with fail
    all_goals go_ret
    · refine ⟨ret_bool ?_, HB1.out⟩
      rw [HPP.out, Bool.eq_iff_iff]
      simp only [Bool.true_and, decide_eq_true_eq, Bool.not_eq_true', ← HE.out, ← HO.out]
      exact ⟨fun hd => ⟨by assumption, by omega, by omega, by assumption, hd⟩, fun hd => hd.2.2.2.2⟩
    all_goals
      refine ⟨ret_bool ?_, HB1.out⟩
      rw [HPP.out]
      symm
      simp only [Bool.true_and, decide_eq_false_iff_not, ← HE.out, ← HO.out]
      rintro ⟨q1, q2, q3, q4, q5⟩
      omega
end Go.Proofs.YtfjaeohfigcciabGreatDoor

