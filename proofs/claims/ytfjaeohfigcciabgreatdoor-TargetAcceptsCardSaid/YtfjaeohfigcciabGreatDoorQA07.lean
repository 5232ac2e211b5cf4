/- Texts in one: NRight. -/
import Derived.Deep.QuietTactic
import Derived.BigQuiet
import Derived.Test.YtfjaeohfigcciabGreatDoorQA05
import Derived.Test.YtfjaeohfigcciabGreatDoorQA06
set_option linter.all false
namespace Go.Proofs.YtfjaeohfigcciabGreatDoor
open Go.RowKit

def tailB (n : Nt) : Bool := nextB n && (decide (n.done = true ∨ (n.ents.length = 4 ∧ n.next ≤ 63)) && decide (n.cur = 0 ∨ n.offer = []))

theorem tail_no {n : Nt} (h : nextB n = false) : tailB n = false := by unfold tailB; rw [h]; rfl
theorem tail_yes {n : Nt} (h : nextB n = true) : tailB n = (decide (n.done = true ∨ (n.ents.length = 4 ∧ n.next ≤ 63)) && (n.cur == 0 || ((n.offer.length : Int) == 0))) := by
  unfold tailB
  rw [h,Bool.true_and]
  congr 1
  rw [Bool.eq_iff_iff]
  simp

set_option maxHeartbeats 4000000 in
set_option maxRecDepth 100000 in
theorem q4Right_batch0 (v : Value) (n : Nt) (w : World) (hv : NtV w w.heap.size v n) (h1 : n.know.length ≤ 1000) (h2 : n.ents.length ≤ 1000) (h : headB n = true) (hkind : n.kind ≠ 1)
    (hno : n.kind ≠ 2 ∨ n.flt ≠ 0 ∨ n.know ≠ [] ∨ 4 < n.ents.length) :
    Calls Tryz.prog 26 #[v] w fun e w' => e = .returned (.bool false) ∧ Below w.heap.size w w' := by
  obtain ⟨vk,ve,vo,rfl,hk,he,ho,hok⟩ := hv
  obtain ⟨k0,k1,k2,k3,k4,k5,k6,k7,k8,k9,k10⟩ := hok
  unfold Nt.cells
  simp only [headB,decide_eq_true_eq] at h
  obtain ⟨c1,c2,c3,c4,c5⟩ := h
  have e3 : (n.src == n.dst) = false := by simp [c3]
  have ek : (n.kind == 1) = false := by simp [hkind]
  obtain ⟨Ae,ce,rfl,_⟩ := he
  obtain ⟨Ak,ck,rfl,_⟩ := hk
  clear ho k6 k8 k10 c3 hkind
  by_cases d1 : n.kind = 2
  · have d1' : (n.kind != 2) = false := by simp [d1]
    by_cases d2 : n.flt = 0
    · have d2' : (n.flt != 0) = false := by simp [d2]
      by_cases d3 : n.know = []
      · have d3' : decide (0 < n.know.length) = false := by simp [d3]
        have d3'' : decide ((0 : Int) < (n.know.length : Int)) = false := by simp [d3]
        have d4 : 4 < n.ents.length := by
          rcases hno with h | h | h | h
          · exact absurd d1 h
          · exact absurd d2 h
          · exact absurd d3 h
          · exact h
        clear hno d1 d2 d3
        go_enter Tryz.func26,Tryz.ntmps26
        go_wp2_with fail
        go_ret
        exact ⟨rfl,(Below.refl _ _).alloc (Nat.le_refl _) _⟩
      · have d3' : 0 < n.know.length := List.length_pos_iff.2 d3
        clear hno d1 d2 d3
        go_enter Tryz.func26,Tryz.ntmps26
        go_wp2_with fail
        go_ret
        exact ⟨rfl,(Below.refl _ _).alloc (Nat.le_refl _) _⟩
    · have d2' : (n.flt != 0) = true := by simp [d2]
      clear hno d1 d2
      go_enter Tryz.func26,Tryz.ntmps26
      go_wp2_with fail
      go_ret
      exact ⟨rfl,(Below.refl _ _).alloc (Nat.le_refl _) _⟩
  · have d1' : (n.kind != 2) = true := by simp [d1]
    clear hno d1
    go_enter Tryz.func26,Tryz.ntmps26
    go_wp2_with fail
    go_ret
    exact ⟨rfl,(Below.refl _ _).alloc (Nat.le_refl _) _⟩

set_option maxHeartbeats 8000000 in
set_option maxRecDepth 100000 in
theorem q4Right_batch1 (v : Value) (n : Nt) (w : World) (hv : NtV w w.heap.size v n) (h3 : n.offer.length ≤ 1000) (h : headB n = true)
    (d1 : n.kind = 2) (d2 : n.flt = 0) (d3 : n.know = []) (d4 : n.ents.length ≤ 4) (hno : erightB n.ents = false ∨ rightB n.offer = false) :
    Calls Tryz.prog 26 #[v] w fun e w' => e = .returned (.bool false) ∧ Below w.heap.size w w' := by
  obtain ⟨vk,ve,vo,rfl,hk,he,ho,hok⟩ := hv
  obtain ⟨k0,k1,k2,k3,k4,k5,k6,k7,k8,k9,k10⟩ := hok
  unfold Nt.cells
  simp only [headB,decide_eq_true_eq] at h
  obtain ⟨c1,c2,c3,c4,c5⟩ := h
  have e3 : (n.src == n.dst) = false := by simp [c3]
  have ek : (n.kind == 1) = false := by simp [d1]
  have d1' : (n.kind != 2) = false := by simp [d1]
  have d2' : (n.flt != 0) = false := by simp [d2]
  have d3' : decide (0 < n.know.length) = false := by simp [d3]
  have d3'' : decide ((0 : Int) < (n.know.length : Int)) = false := by simp [d3]
  have hr1 := fun w1 (hb : Below w.heap.size w w1) => rRight_any w1 ve n.ents ((he.below hb).more hb.size) (by omega)
  have hr2 := fun w1 (hb : Below w.heap.size w w1) => refRight_any vo n.offer w1 ((ho.below hb).more hb.size) h3
  have TR : ∀ w1 w2 : World,Below w.heap.size w w1 → Below w1.heap.size w1 w2 → Below w.heap.size w w2 := fun _ _ h1 h2 => h1.trans (h2.mono h1.size)
  have TR := Lib.hid TR
  have HE := Lib.hid he
  have HO := Lib.hid ho
  obtain ⟨Ae,ce,rfl,_⟩ := he
  obtain ⟨Ao,co,rfl,_⟩ := ho
  obtain ⟨Ak,ck,rfl,_⟩ := hk
  clear k6 k8 k10 c3 d1 d2 d3
  cases hb1 : erightB n.ents
  · rw [hb1] at hr1
    have HR1 := Lib.hid hr1; clear hr1 hr2 hb1
    go_enter Tryz.func26,Tryz.ntmps26
    go_wp2_with fail
    refine (HR1.out _ ((Below.refl _ _).alloc (Nat.le_refl _) _)).mono ?_
    rintro e w1 ⟨rfl,hb1⟩
    have HB1 := Lib.hid (((Below.refl _ w).alloc (Nat.le_refl _) _).trans (hb1.mono (by simp)))
    have m11 := (hb1.cell (p := ⟨w.heap.size,11,none⟩) (by simp)).trans (World.cell?_alloc_mark w _ 30 (0,0) 11)
    simp at m11
    clear hb1
    go_wp2_with fail
    go_ret
    exact ⟨rfl,HB1.out⟩
  · rw [hb1] at hr1
    cases hb2 : rightB n.offer
    · rw [hb2] at hr2
      have HR1 := Lib.hid hr1; clear hr1 hb1
      have HR2 := Lib.hid hr2; clear hr2 hb2
      go_enter Tryz.func26,Tryz.ntmps26
      go_wp2_with fail
      refine (HR1.out _ ((Below.refl _ _).alloc (Nat.le_refl _) _)).mono ?_
      rintro e w1 ⟨rfl,hb1⟩
      have HB1 := Lib.hid (((Below.refl _ w).alloc (Nat.le_refl _) _).trans (hb1.mono (by simp)))
      have m11 := (hb1.cell (p := ⟨w.heap.size,11,none⟩) (by simp)).trans (World.cell?_alloc_mark w _ 30 (0,0) 11)
      simp at m11
      clear hb1
      go_wp2_with fail
      refine (HR2.out _ HB1.out).mono ?_
      rintro e w2 ⟨rfl,hb2⟩
      have HB2 := Lib.hid (TR.out _ _ HB1.out hb2); clear hb2
      go_wp2_with fail
      go_ret
      exact ⟨rfl,HB2.out⟩
    · rcases hno with h | h
      · rw [h] at hb1; cases hb1
      · rw [h] at hb2; cases hb2

set_option maxHeartbeats 8000000 in
set_option maxRecDepth 100000 in
theorem q4Right_e1 (v : Value) (n : Nt) (w : World) (hv : NtV w w.heap.size v n) (h3 : n.offer.length ≤ 1000) (h : headB n = true)
    (d1 : n.kind = 2) (d2 : n.flt = 0) (d3 : n.know = []) (d4 : n.ents.length ≤ 4) (hb1 : erightB n.ents = true) (hb2 : rightB n.offer = true) (hent : n.ents.length = 0) (hnx : n.next ≠ n.cur) :
    Calls Tryz.prog 26 #[v] w fun e w' => e = .returned (.bool (tailB n)) ∧ Below w.heap.size w w' := by
  obtain ⟨vk,ve,vo,rfl,hk,he,ho,hok⟩ := hv
  obtain ⟨k0,k1,k2,k3,k4,k5,k6,k7,k8,k9,k10⟩ := hok
  unfold Nt.cells
  simp only [headB,decide_eq_true_eq] at h
  obtain ⟨c1,c2,c3,c4,c5⟩ := h
  have e3 : (n.src == n.dst) = false := by simp [c3]
  have ek : (n.kind == 1) = false := by simp [d1]
  have d1' : (n.kind != 2) = false := by simp [d1]
  have d2' : (n.flt != 0) = false := by simp [d2]
  have d3' : decide (0 < n.know.length) = false := by simp [d3]
  have d3'' : decide ((0 : Int) < (n.know.length : Int)) = false := by simp [d3]
  have hr1 := fun w1 (hb : Below w.heap.size w w1) => rRight_any w1 ve n.ents ((he.below hb).more hb.size) (by omega)
  have hr2 := fun w1 (hb : Below w.heap.size w w1) => refRight_any vo n.offer w1 ((ho.below hb).more hb.size) h3
  rw [hb1] at hr1
  rw [hb2] at hr2
  have TR : ∀ w1 w2 : World,Below w.heap.size w w1 → Below w1.heap.size w1 w2 → Below w.heap.size w w2 := fun _ _ h1 h2 => h1.trans (h2.mono h1.size)
  have TR := Lib.hid TR
  obtain ⟨Ae,ce,rfl,_,_,hAe⟩ := he
  obtain ⟨Ao,co,rfl,_⟩ := ho
  obtain ⟨Ak,ck,rfl,_⟩ := hk
  have hoff : n.offer.length = 0 ↔ n.offer = [] := List.length_eq_zero_iff
  have HO := Lib.hid hoff; clear hoff
  clear k6 k8 k10 c3 d1 d2 d3 hb1 hb2
  have HR1 := Lib.hid hr1; clear hr1
  have HR2 := Lib.hid hr2; clear hr2
  have hAe := Lib.hid hAe
  have z1 : ((n.ents.length : Int) == 0) = true := by simp [hent]
  have z2 : decide ((0 : Int) < (n.ents.length : Int)) = false := by simp [hent]
  have z3 : decide (0 < n.ents.length) = false := by simp [hent]
  have z4 : (n.next != n.cur) = true := by simp [hnx]
  have HT := Lib.hid (show tailB n = false by unfold tailB nextB; rw [List.length_eq_zero_iff.1 hent]; simp [hnx])
  clear hent hnx
  go_enter Tryz.func26,Tryz.ntmps26
  go_wp2_with fail
  refine (HR1.out _ ((Below.refl _ _).alloc (Nat.le_refl _) _)).mono ?_
  rintro e w1 ⟨rfl,hb1⟩
  have HB1 := Lib.hid (((Below.refl _ w).alloc (Nat.le_refl _) _).trans (hb1.mono (by simp)))
  have hsz1 : w.heap.size < w1.heap.size := by have := hb1.size; simp at this; omega
  have m11 := (hb1.cell (p := ⟨w.heap.size,11,none⟩) (by simp)).trans (World.cell?_alloc_mark w _ 30 (0,0) 11)
  have m4 := (hb1.cell (p := ⟨w.heap.size,4,none⟩) (by simp)).trans (World.cell?_alloc_mark w _ 30 (0,0) 4)
  have m8 := (hb1.cell (p := ⟨w.heap.size,8,none⟩) (by simp)).trans (World.cell?_alloc_mark w _ 30 (0,0) 8)
  have m9 := (hb1.cell (p := ⟨w.heap.size,9,none⟩) (by simp)).trans (World.cell?_alloc_mark w _ 30 (0,0) 9)
  have m10 := (hb1.cell (p := ⟨w.heap.size,10,none⟩) (by simp)).trans (World.cell?_alloc_mark w _ 30 (0,0) 10)
  simp at m11 m4 m8 m9 m10
  clear hb1
  go_wp2_with fail
  refine (HR2.out _ HB1.out).mono ?_
  rintro e w2 ⟨rfl,hb2⟩
  have n4 := (hb2.cell (p := ⟨w.heap.size,4,none⟩) hsz1).trans m4
  have n8 := (hb2.cell (p := ⟨w.heap.size,8,none⟩) hsz1).trans m8
  have n9 := (hb2.cell (p := ⟨w.heap.size,9,none⟩) hsz1).trans m9
  have n10 := (hb2.cell (p := ⟨w.heap.size,10,none⟩) hsz1).trans m10
  have n11 := (hb2.cell (p := ⟨w.heap.size,11,none⟩) hsz1).trans m11
  have HB2 := Lib.hid (TR.out _ _ HB1.out hb2); clear hb2 m4 m8 m9 m10 m11
  go_wp2_with fail
  go_quiet (fail)
  go_wp2_with fail
  go_ret
  exact ⟨ret_bool HT.out.symm,bel_drewN HB2.out _⟩

set_option maxHeartbeats 8000000 in
set_option maxRecDepth 100000 in
theorem q4Right_e2 (v : Value) (n : Nt) (w : World) (hv : NtV w w.heap.size v n) (h3 : n.offer.length ≤ 1000) (h : headB n = true)
    (d1 : n.kind = 2) (d2 : n.flt = 0) (d3 : n.know = []) (d4 : n.ents.length ≤ 4) (hb1 : erightB n.ents = true) (hb2 : rightB n.offer = true) (hent : n.ents.length = 0) (hnx : n.next = n.cur) :
    Calls Tryz.prog 26 #[v] w fun e w' => e = .returned (.bool (tailB n)) ∧ Below w.heap.size w w' := by
  obtain ⟨vk,ve,vo,rfl,hk,he,ho,hok⟩ := hv
  obtain ⟨k0,k1,k2,k3,k4,k5,k6,k7,k8,k9,k10⟩ := hok
  unfold Nt.cells
  simp only [headB,decide_eq_true_eq] at h
  obtain ⟨c1,c2,c3,c4,c5⟩ := h
  have e3 : (n.src == n.dst) = false := by simp [c3]
  have ek : (n.kind == 1) = false := by simp [d1]
  have d1' : (n.kind != 2) = false := by simp [d1]
  have d2' : (n.flt != 0) = false := by simp [d2]
  have d3' : decide (0 < n.know.length) = false := by simp [d3]
  have d3'' : decide ((0 : Int) < (n.know.length : Int)) = false := by simp [d3]
  have hr1 := fun w1 (hb : Below w.heap.size w w1) => rRight_any w1 ve n.ents ((he.below hb).more hb.size) (by omega)
  have hr2 := fun w1 (hb : Below w.heap.size w w1) => refRight_any vo n.offer w1 ((ho.below hb).more hb.size) h3
  rw [hb1] at hr1
  rw [hb2] at hr2
  have TR : ∀ w1 w2 : World,Below w.heap.size w w1 → Below w1.heap.size w1 w2 → Below w.heap.size w w2 := fun _ _ h1 h2 => h1.trans (h2.mono h1.size)
  have TR := Lib.hid TR
  obtain ⟨Ae,ce,rfl,_,_,hAe⟩ := he
  obtain ⟨Ao,co,rfl,_⟩ := ho
  obtain ⟨Ak,ck,rfl,_⟩ := hk
  have hoff : n.offer.length = 0 ↔ n.offer = [] := List.length_eq_zero_iff
  have HO := Lib.hid hoff; clear hoff
  clear k6 k8 k10 c3 d1 d2 d3 hb1 hb2
  have HR1 := Lib.hid hr1; clear hr1
  have HR2 := Lib.hid hr2; clear hr2
  have hAe := Lib.hid hAe
  have z1 : ((n.ents.length : Int) == 0) = true := by simp [hent]
  have z2 : decide ((0 : Int) < (n.ents.length : Int)) = false := by simp [hent]
  have z3 : decide (0 < n.ents.length) = false := by simp [hent]
  have z4 : (n.next != n.cur) = false := by simp [hnx]
  have HT := Lib.hid (tail_yes (n := n) (by unfold nextB; rw [List.length_eq_zero_iff.1 hent]; simp [hnx]))
  have hen0 : n.ents.length < 1 := by omega
  clear hent hnx
  go_enter Tryz.func26,Tryz.ntmps26
  go_wp2_with fail
  refine (HR1.out _ ((Below.refl _ _).alloc (Nat.le_refl _) _)).mono ?_
  rintro e w1 ⟨rfl,hb1⟩
  have HB1 := Lib.hid (((Below.refl _ w).alloc (Nat.le_refl _) _).trans (hb1.mono (by simp)))
  have hsz1 : w.heap.size < w1.heap.size := by have := hb1.size; simp at this; omega
  have m11 := (hb1.cell (p := ⟨w.heap.size,11,none⟩) (by simp)).trans (World.cell?_alloc_mark w _ 30 (0,0) 11)
  have m4 := (hb1.cell (p := ⟨w.heap.size,4,none⟩) (by simp)).trans (World.cell?_alloc_mark w _ 30 (0,0) 4)
  have m8 := (hb1.cell (p := ⟨w.heap.size,8,none⟩) (by simp)).trans (World.cell?_alloc_mark w _ 30 (0,0) 8)
  have m9 := (hb1.cell (p := ⟨w.heap.size,9,none⟩) (by simp)).trans (World.cell?_alloc_mark w _ 30 (0,0) 9)
  have m10 := (hb1.cell (p := ⟨w.heap.size,10,none⟩) (by simp)).trans (World.cell?_alloc_mark w _ 30 (0,0) 10)
  simp at m11 m4 m8 m9 m10
  clear hb1
  go_wp2_with fail
  refine (HR2.out _ HB1.out).mono ?_
  rintro e w2 ⟨rfl,hb2⟩
  have n4 := (hb2.cell (p := ⟨w.heap.size,4,none⟩) hsz1).trans m4
  have n8 := (hb2.cell (p := ⟨w.heap.size,8,none⟩) hsz1).trans m8
  have n9 := (hb2.cell (p := ⟨w.heap.size,9,none⟩) hsz1).trans m9
  have n10 := (hb2.cell (p := ⟨w.heap.size,10,none⟩) hsz1).trans m10
  have n11 := (hb2.cell (p := ⟨w.heap.size,11,none⟩) hsz1).trans m11
  have HB2 := Lib.hid (TR.out _ _ HB1.out hb2); clear hb2 m4 m8 m9 m10 m11
  go_wp2_with fail
  go_quiet (fail)
  go_wp2_with fail
  all_goals
    go_ret
    refine ⟨ret_bool ?_,bel_drewN HB2.out _⟩
    rw [HT.out]
    clear HT HO HR1 HR2 TR HB2 HB1 n4 n8 n9 n10 n11
    first
      | (exfalso; omega)
      | (have hD : n.done = true ∨ (n.ents.length = 4 ∧ n.next ≤ 63) := by first | exact .inl (by assumption) | exact .inr ⟨by omega,by omega⟩
         rw [decide_eq_true hD]
         first | (rw [Bool.true_and]; done) | (simp [*]; done))
      | (have hD : ¬ (n.done = true ∨ (n.ents.length = 4 ∧ n.next ≤ 63)) := fun h => h.elim (fun h => absurd h (by assumption)) (fun h => by omega)
         rw [decide_eq_false hD,Bool.false_and])
end Go.Proofs.YtfjaeohfigcciabGreatDoor

