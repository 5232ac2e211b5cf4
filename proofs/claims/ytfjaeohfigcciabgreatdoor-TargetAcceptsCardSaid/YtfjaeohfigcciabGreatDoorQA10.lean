/- Texts in one: NCRight. -/
import Derived.Test.YtfjaeohfigcciabGreatDoorQA05
import Derived.Test.YtfjaeohfigcciabGreatDoorQA00
import Derived.Test.YtfjaeohfigcciabGreatDoorQA02
set_option linter.all false
namespace Go.Proofs.YtfjaeohfigcciabGreatDoor
open Go.RowKit

theorem note_cells {w w1 : World} {n : Nt} {vk ve vo : Value} (hb : Below (w.alloc (.cells (n.cells vk ve vo) 30)).heap.size (w.alloc (.cells (n.cells vk ve vo) 30)) w1) (j : Nat) (u : Value) (hu : (n.cells vk ve vo)[j]? = some u) : w1.cell? ⟨w.heap.size,j,none⟩ = some u :=
  (hb.cell (p := ⟨w.heap.size,j,none⟩) (by simp)).trans ((World.cell?_alloc_mark w _ 30 (0,0) j).trans hu)

theorem len_zero (k : Nat) : ((k : Int) == 0) = decide (k = 0) := by rw [Bool.eq_iff_iff]; simp
theorem pull_split (n : Nt) : pullB n = (rightB n.know && ((n.epoch == 0) && (((n.ents.length : Int) == 0) && ((n.next == 0) && (!n.done && ((n.offer.length : Int) == 0)))))) := by
  unfold pullB
  rw [len_zero,len_zero,Bool.eq_iff_iff]
  simp only [Bool.and_eq_true,decide_eq_true_eq,beq_iff_eq,Bool.not_eq_true',List.length_eq_zero_iff]
  constructor
  · rintro ⟨h0,h1,h2,h3,h4,h5⟩; exact ⟨h0,h1,h2,h4,h5,h3⟩
  · rintro ⟨h0,h1,h2,h4,h5,h3⟩; exact ⟨h0,h1,h2,h3,h4,h5⟩
theorem offer_split (n : Nt) (b : Bool) : (b && decide (n.cur = 0 ∨ n.offer = [])) = (b && ((n.cur == 0) || ((n.offer.length : Int) == 0))) := by
  rw [len_zero,Bool.eq_iff_iff]
  simp only [Bool.and_eq_true,Bool.or_eq_true,decide_eq_true_eq,beq_iff_eq,List.length_eq_zero_iff]
theorem done_split (n : Nt) : decide (n.done = true ∨ (n.ents.length = 4 ∧ n.next ≤ 63)) = (n.done || (((n.ents.length : Int) == 4) && decide (n.next < 64))) := by
  rw [Bool.eq_iff_iff]
  simp only [Bool.and_eq_true,Bool.or_eq_true,decide_eq_true_eq,beq_iff_eq]
  constructor
  · rintro (h | h)
    · exact .inl h
    · exact .inr ⟨by omega,by omega⟩
  · rintro (h | h)
    · exact .inl h
    · exact .inr ⟨by omega,by omega⟩

set_option maxHeartbeats 4000000 in
set_option maxRecDepth 100000 in
theorem nrightPull_any (v : Value) (n : Nt) (w : World) (hv : NtV w w.heap.size v n) :
    Calls Tryz.prog 47 #[v] w fun e w' => e = .returned (.bool (pullB n)) ∧ Below w.heap.size w w' := by
  obtain ⟨vk,ve,vo,rfl,hk,he,ho,hok⟩ := hv
  obtain ⟨k0,k1,k2,k3,k4,k5,k6,k7,k8,k9,k10⟩ := hok
  have hrr := fun w1 (hb : Below w.heap.size w w1) => Right_any w1 vk n.know ((hk.below hb).more hb.size)
  have NC := fun w1 => note_cells (w := w) (w1 := w1) (n := n) (vk := vk) (ve := ve) (vo := vo)
  have HP := pull_split n
  unfold Nt.cells at NC ⊢
  obtain ⟨Ae,ce,rfl,_⟩ := he
  obtain ⟨Ao,co,rfl,_⟩ := ho
  clear hk k6 k8 k10
  generalize pullB n = P at HP ⊢
  generalize rightB n.know = b at hrr HP
  generalize n.done = q5 at NC HP ⊢
  have NC := Lib.hid NC
  have HRR := Lib.hid hrr; clear hrr
  have HPE := Lib.hid HP; clear HP
  obtain ⟨q1,hq1⟩ : ∃ q : Bool,(n.epoch == 0) = q := ⟨_,rfl⟩
  obtain ⟨q2,hq2⟩ : ∃ q : Bool,((n.ents.length : Int) == 0) = q := ⟨_,rfl⟩
  obtain ⟨q3,hq3⟩ : ∃ q : Bool,(n.next == 0) = q := ⟨_,rfl⟩
  go_enter Tryz.func47,Tryz.ntmps47
  go_wp2_with fail
  refine (HRR.out _ ((Below.refl _ _).alloc (Nat.le_refl _) _)).mono ?_
  rintro e w1 ⟨rfl,hb1⟩
  have HB1 := Lib.hid (((Below.refl _ w).alloc (Nat.le_refl _) _).trans (hb1.mono (by simp)))
  have m7 := NC.out w1 hb1 7 _ rfl
  have m8 := NC.out w1 hb1 8 _ rfl
  have m9 := NC.out w1 hb1 9 _ rfl
  have m10 := NC.out w1 hb1 10 _ rfl
  have m11 := NC.out w1 hb1 11 _ rfl
  clear hb1 NC
  cases b <;> cases q1 <;> cases q2 <;> cases q3 <;> cases q5 <;> (go_wp2_with fail; go_ret; exact ⟨by rw [HPE.out]; simp_all,HB1.out⟩)

set_option maxHeartbeats 4000000 in
set_option maxRecDepth 100000 in
theorem nrightOffer_any (v : Value) (n : Nt) (w : World) (hv : NtV w w.heap.size v n) :
    Calls Tryz.prog 86 #[v] w fun e w' => e = .returned (.bool (rightB n.offer && decide (n.cur = 0 ∨ n.offer = []))) ∧ Below w.heap.size w w' := by
  obtain ⟨vk,ve,vo,rfl,hk,he,ho,hok⟩ := hv
  obtain ⟨k0,k1,k2,k3,k4,k5,k6,k7,k8,k9,k10⟩ := hok
  have hrr := fun w1 (hb : Below w.heap.size w w1) => Right_any w1 vo n.offer ((ho.below hb).more hb.size)
  have NC := Lib.hid (fun w1 => note_cells (w := w) (w1 := w1) (n := n) (vk := vk) (ve := ve) (vo := vo))
  unfold Nt.cells at NC ⊢
  obtain ⟨Ao,co,rfl,_⟩ := ho
  clear hk he k6 k8 k10
  have HPE := Lib.hid (offer_split n)
  obtain ⟨b,hbb⟩ : ∃ b,b = rightB n.offer := ⟨_,rfl⟩
  rw [← hbb] at hrr ⊢
  clear hbb
  have HRR := Lib.hid hrr; clear hrr
  obtain ⟨q1,hq1⟩ : ∃ q : Bool,(n.cur == 0) = q := ⟨_,rfl⟩
  go_enter Tryz.func86,Tryz.ntmps86
  go_wp2_with fail
  refine (HRR.out _ ((Below.refl _ _).alloc (Nat.le_refl _) _)).mono ?_
  rintro e w1 ⟨rfl,hb1⟩
  have HB1 := Lib.hid (((Below.refl _ w).alloc (Nat.le_refl _) _).trans (hb1.mono (by simp)))
  have m4 := NC.out w1 hb1 4 _ rfl
  have m11 := NC.out w1 hb1 11 _ rfl
  clear hb1
  cases b <;> cases q1 <;> (go_wp2_with fail; go_ret; exact ⟨by rw [HPE.out]; simp_all,HB1.out⟩)

set_option maxHeartbeats 4000000 in
set_option maxRecDepth 100000 in
theorem nrightDone_any (v : Value) (n : Nt) (w : World) (hv : NtV w w.heap.size v n) :
    Calls Tryz.prog 85 #[v] w fun e w' => e = .returned (.bool (decide (n.done = true ∨ (n.ents.length = 4 ∧ n.next ≤ 63)))) ∧ Below w.heap.size w w' := by
  obtain ⟨vk,ve,vo,rfl,hk,he,ho,hok⟩ := hv
  obtain ⟨k0,k1,k2,k3,k4,k5,k6,k7,k8,k9,k10⟩ := hok
  unfold Nt.cells
  obtain ⟨Ae,ce,rfl,_⟩ := he
  clear hk ho k6 k8 k10
  have HPE := done_split n
  generalize decide (n.done = true ∨ (n.ents.length = 4 ∧ n.next ≤ 63)) = P at HPE ⊢
  generalize n.done = q1 at HPE ⊢
  have HPE := Lib.hid HPE
  obtain ⟨q2,hq2⟩ : ∃ q : Bool,((n.ents.length : Int) == 4) = q := ⟨_,rfl⟩
  obtain ⟨q3,hq3⟩ : ∃ q : Bool,decide (n.next < 64) = q := ⟨_,rfl⟩
  cases q1 <;> cases q2 <;> cases q3 <;>
    (go_enter Tryz.func85,Tryz.ntmps85
     go_wp2_with fail
     go_ret
     exact ⟨by rw [HPE.out]; simp_all,(Below.refl _ _).alloc (Nat.le_refl _) _⟩)
end Go.Proofs.YtfjaeohfigcciabGreatDoor

