/- Texts in one: NRight2. -/
import Derived.Test.YtfjaeohfigcciabGreatDoorQF09
set_option linter.unusedVariables false
set_option linter.unusedSimpArgs false
set_option linter.unusedSectionVars false
set_option linter.unnecessarySimpa false
namespace Go.Proofs.YtfjaeohfigcciabGreatDoor
open Go.RowKit

theorem next_cons {n : Nt} {m : Nat} {e0 el : En} (hm : n.ents.length = m + 1) (g0 : n.ents[0]? = some e0) (gl : n.ents[m]? = some el) : nextB n = decide (n.cur ≤ e0.id ∧ n.next = el.id + 1) := by
  unfold nextB
  match h : n.ents, hm, g0, gl with
  | e :: r, hm, g0, gl =>
    simp at g0
    subst g0
    have hl : (e :: r).getLast (by simp) = el := by
      rw [List.getLast_eq_getElem]
      have hm' : (e :: r).length - 1 = m := by rw [hm]; rfl
      have := List.getElem?_eq_getElem (l := e :: r) (i := m) (by omega)
      rw [gl] at this
      simp only [hm']
      exact (Option.some.inj this).symm
    show decide (n.cur ≤ e.id ∧ n.next = ((e :: r).getLast (by simp)).id + 1) = _
    rw [hl]

set_option maxHeartbeats 8000000 in
set_option maxRecDepth 100000 in
theorem q4Right_n1 (v : Value) (n : Nt) (w : World) (hv : NtV w w.heap.size v n) (h3 : n.offer.length ≤ 1000) (h : headB n = true)
    (d1 : n.kind = 2) (d2 : n.flt = 0) (d3 : n.know = []) (d4 : n.ents.length ≤ 4) (hb1 : erightB n.ents = true) (hb2 : rightB n.offer = true) (m : Nat) (e0 el : En) (hm : n.ents.length = m + 1) (g0 : n.ents[0]? = some e0) (gl : n.ents[m]? = some el) (hx : e0.id < n.cur) :
    Calls Tryz.prog 26 #[v] w fun e w' => e = .returned (.bool (tailB n)) ∧ Below w.heap.size w w' := by
  obtain ⟨vk, ve, vo, rfl, hk, he, ho, hok⟩ := hv
  obtain ⟨k0, k1, k2, k3, k4, k5, k6, k7, k8, k9, k10⟩ := hok
  unfold Nt.cells
  simp only [headB, decide_eq_true_eq] at h
  obtain ⟨c1, c2, c3, c4, c5⟩ := h
  have e3 : (n.src == n.dst) = false := by simp [c3]
  have ek : (n.kind == 1) = false := by simp [d1]
  have d1' : (n.kind != 2) = false := by simp [d1]
  have d2' : (n.flt != 0) = false := by simp [d2]
  have d3' : decide (0 < n.know.length) = false := by simp [d3]
  have d3'' : decide ((0 : Int) < (n.know.length : Int)) = false := by simp [d3]
  have hr1 := fun w1 (hb : Below w.heap.size w w1) => rRight_any w1 ve n.ents ((he.below hb).more hb.size) (by omega)
  have hr2 := fun w1 (hb : Below w.heap.size w w1) => refRight_any vo n.offer w1 ((ho.below hb).more hb.size) h3
  rw [hb1] at hr1
  rw [hb2] at hr2
  have TR : ∀ w1 w2 : World, Below w.heap.size w w1 → Below w1.heap.size w1 w2 → Below w.heap.size w w2 := fun _ _ h1 h2 => h1.trans (h2.mono h1.size)
  have TR := Lib.hid TR
  obtain ⟨Ae, ce, rfl, _, _, hAe⟩ := he
  obtain ⟨Ao, co, rfl, _⟩ := ho
  obtain ⟨Ak, ck, rfl, _⟩ := hk
  have hoff : n.offer.length = 0 ↔ n.offer = [] := List.length_eq_zero_iff
  have HO := Lib.hid hoff; clear hoff
  clear k6 k8 k10 c3 d1 d2 d3 hb1 hb2
  have HR1 := Lib.hid hr1; clear hr1
  have HR2 := Lib.hid hr2; clear hr2
  obtain ⟨b, off, rfl, hbw, hc⟩ := hAe (by intro h; rw [h] at hm; simp at hm)
  have hok0 := (‹∀ x ∈ n.ents, x.ok› e0 (List.mem_of_getElem? g0)).1
  have hokl := (‹∀ x ∈ n.ents, x.ok› el (List.mem_of_getElem? gl)).1
  have q0 : w.cell? ⟨b, off, none⟩ = some (.int .u8 e0.id) := by
    have := hc 0 e0 g0 0 _ rfl
    simpa using this
  have ql : w.cell? ⟨b, off + m * 7, none⟩ = some (.int .u8 el.id) := by
    have := hc m el gl 0 _ rfl
    simpa using this
  have HQ0 := Lib.hid q0; clear q0
  have HQL := Lib.hid ql; clear ql
  have hm3 : m ≤ 3 := by omega
  have hNX := next_cons hm g0 gl
  have HM := Lib.hid hm
  rw [hm] at d4 ⊢
  have HR1 := Lib.hid (hm ▸ HR1.out)
  clear hm g0 gl hc hAe ‹∀ x ∈ n.ents, x.ok›
  have z1 : ((m : Int) + 1 == 0) = false := by rw [beq_eq_false_iff_ne]; omega
  have z2 : decide ((0 : Int) < (m : Int) + 1) = true := decide_eq_true (by omega)
  have HT := Lib.hid (tail_no (n := n) (by rw [hNX, decide_eq_false_iff_not]; omega))
  have hxd : decide (e0.id < n.cur) = true := decide_eq_true hx
  clear hNX
  go_enter Tryz.func26, Tryz.ntmps26
  go_wp2_with fail
  refine (HR1.out _ ((Below.refl _ _).alloc (Nat.le_refl _) _)).mono ?_
  rintro e w1 ⟨rfl, hb1⟩
  have HB1 := Lib.hid (((Below.refl _ w).alloc (Nat.le_refl _) _).trans (hb1.mono (by simp)))
  have hsz1 : w.heap.size < w1.heap.size := by have := hb1.size; simp at this; omega
  have m11 := (hb1.cell (p := ⟨w.heap.size, 11, none⟩) (by simp)).trans (World.cell?_alloc_mark w _ 30 (0, 0) 11)
  have m4 := (hb1.cell (p := ⟨w.heap.size, 4, none⟩) (by simp)).trans (World.cell?_alloc_mark w _ 30 (0, 0) 4)
  have m8 := (hb1.cell (p := ⟨w.heap.size, 8, none⟩) (by simp)).trans (World.cell?_alloc_mark w _ 30 (0, 0) 8)
  have m9 := (hb1.cell (p := ⟨w.heap.size, 9, none⟩) (by simp)).trans (World.cell?_alloc_mark w _ 30 (0, 0) 9)
  have m10 := (hb1.cell (p := ⟨w.heap.size, 10, none⟩) (by simp)).trans (World.cell?_alloc_mark w _ 30 (0, 0) 10)
  simp at m11 m4 m8 m9 m10
  clear hb1
  go_wp2_with fail
  refine (HR2.out _ HB1.out).mono ?_
  rintro e w2 ⟨rfl, hb2⟩
  have n4 := (hb2.cell (p := ⟨w.heap.size, 4, none⟩) hsz1).trans m4
  have n8 := (hb2.cell (p := ⟨w.heap.size, 8, none⟩) hsz1).trans m8
  have n9 := (hb2.cell (p := ⟨w.heap.size, 9, none⟩) hsz1).trans m9
  have n10 := (hb2.cell (p := ⟨w.heap.size, 10, none⟩) hsz1).trans m10
  have n11 := (hb2.cell (p := ⟨w.heap.size, 11, none⟩) hsz1).trans m11
  have r0 := ((TR.out _ _ HB1.out hb2).cell (p := ⟨b, off, none⟩) hbw).trans HQ0.out
  have rl := ((TR.out _ _ HB1.out hb2).cell (p := ⟨b, off + m * 7, none⟩) hbw).trans HQL.out
  have HB2 := Lib.hid (TR.out _ _ HB1.out hb2); clear hb2 m4 m8 m9 m10 m11
  go_wp2_with fail
  go_quiet (fail)
  go_wp2_with fail
  go_ret
  exact ⟨ret_bool HT.out.symm, bel_drewN HB2.out _⟩

set_option maxHeartbeats 8000000 in
set_option maxRecDepth 100000 in
theorem q4Right_n2 (v : Value) (n : Nt) (w : World) (hv : NtV w w.heap.size v n) (h3 : n.offer.length ≤ 1000) (h : headB n = true)
    (d1 : n.kind = 2) (d2 : n.flt = 0) (d3 : n.know = []) (d4 : n.ents.length ≤ 4) (hb1 : erightB n.ents = true) (hb2 : rightB n.offer = true) (m : Nat) (e0 el : En) (hm : n.ents.length = m + 1) (g0 : n.ents[0]? = some e0) (gl : n.ents[m]? = some el) (hx : n.cur ≤ e0.id) (hy : n.next ≠ el.id + 1) :
    Calls Tryz.prog 26 #[v] w fun e w' => e = .returned (.bool (tailB n)) ∧ Below w.heap.size w w' := by
  obtain ⟨vk, ve, vo, rfl, hk, he, ho, hok⟩ := hv
  obtain ⟨k0, k1, k2, k3, k4, k5, k6, k7, k8, k9, k10⟩ := hok
  unfold Nt.cells
  simp only [headB, decide_eq_true_eq] at h
  obtain ⟨c1, c2, c3, c4, c5⟩ := h
  have e3 : (n.src == n.dst) = false := by simp [c3]
  have ek : (n.kind == 1) = false := by simp [d1]
  have d1' : (n.kind != 2) = false := by simp [d1]
  have d2' : (n.flt != 0) = false := by simp [d2]
  have d3' : decide (0 < n.know.length) = false := by simp [d3]
  have d3'' : decide ((0 : Int) < (n.know.length : Int)) = false := by simp [d3]
  have hr1 := fun w1 (hb : Below w.heap.size w w1) => rRight_any w1 ve n.ents ((he.below hb).more hb.size) (by omega)
  have hr2 := fun w1 (hb : Below w.heap.size w w1) => refRight_any vo n.offer w1 ((ho.below hb).more hb.size) h3
  rw [hb1] at hr1
  rw [hb2] at hr2
  have TR : ∀ w1 w2 : World, Below w.heap.size w w1 → Below w1.heap.size w1 w2 → Below w.heap.size w w2 := fun _ _ h1 h2 => h1.trans (h2.mono h1.size)
  have TR := Lib.hid TR
  obtain ⟨Ae, ce, rfl, _, _, hAe⟩ := he
  obtain ⟨Ao, co, rfl, _⟩ := ho
  obtain ⟨Ak, ck, rfl, _⟩ := hk
  have hoff : n.offer.length = 0 ↔ n.offer = [] := List.length_eq_zero_iff
  have HO := Lib.hid hoff; clear hoff
  clear k6 k8 k10 c3 d1 d2 d3 hb1 hb2
  have HR1 := Lib.hid hr1; clear hr1
  have HR2 := Lib.hid hr2; clear hr2
  obtain ⟨b, off, rfl, hbw, hc⟩ := hAe (by intro h; rw [h] at hm; simp at hm)
  have hok0 := (‹∀ x ∈ n.ents, x.ok› e0 (List.mem_of_getElem? g0)).1
  have hokl := (‹∀ x ∈ n.ents, x.ok› el (List.mem_of_getElem? gl)).1
  have q0 : w.cell? ⟨b, off, none⟩ = some (.int .u8 e0.id) := by
    have := hc 0 e0 g0 0 _ rfl
    simpa using this
  have ql : w.cell? ⟨b, off + m * 7, none⟩ = some (.int .u8 el.id) := by
    have := hc m el gl 0 _ rfl
    simpa using this
  have HQ0 := Lib.hid q0; clear q0
  have HQL := Lib.hid ql; clear ql
  have hm3 : m ≤ 3 := by omega
  have hNX := next_cons hm g0 gl
  have HM := Lib.hid hm
  rw [hm] at d4 ⊢
  have HR1 := Lib.hid (hm ▸ HR1.out)
  clear hm g0 gl hc hAe ‹∀ x ∈ n.ents, x.ok›
  have z1 : ((m : Int) + 1 == 0) = false := by rw [beq_eq_false_iff_ne]; omega
  have z2 : decide ((0 : Int) < (m : Int) + 1) = true := decide_eq_true (by omega)
  have HT := Lib.hid (tail_no (n := n) (by rw [hNX]; simp [hy]))
  have hxd : decide (e0.id < n.cur) = false := decide_eq_false (by omega)
  have z5 : (n.next != el.id + 1) = true := by simp [hy]
  clear hNX hy
  go_enter Tryz.func26, Tryz.ntmps26
  go_wp2_with fail
  refine (HR1.out _ ((Below.refl _ _).alloc (Nat.le_refl _) _)).mono ?_
  rintro e w1 ⟨rfl, hb1⟩
  have HB1 := Lib.hid (((Below.refl _ w).alloc (Nat.le_refl _) _).trans (hb1.mono (by simp)))
  have hsz1 : w.heap.size < w1.heap.size := by have := hb1.size; simp at this; omega
  have m11 := (hb1.cell (p := ⟨w.heap.size, 11, none⟩) (by simp)).trans (World.cell?_alloc_mark w _ 30 (0, 0) 11)
  have m4 := (hb1.cell (p := ⟨w.heap.size, 4, none⟩) (by simp)).trans (World.cell?_alloc_mark w _ 30 (0, 0) 4)
  have m8 := (hb1.cell (p := ⟨w.heap.size, 8, none⟩) (by simp)).trans (World.cell?_alloc_mark w _ 30 (0, 0) 8)
  have m9 := (hb1.cell (p := ⟨w.heap.size, 9, none⟩) (by simp)).trans (World.cell?_alloc_mark w _ 30 (0, 0) 9)
  have m10 := (hb1.cell (p := ⟨w.heap.size, 10, none⟩) (by simp)).trans (World.cell?_alloc_mark w _ 30 (0, 0) 10)
  simp at m11 m4 m8 m9 m10
  clear hb1
  go_wp2_with fail
  refine (HR2.out _ HB1.out).mono ?_
  rintro e w2 ⟨rfl, hb2⟩
  have n4 := (hb2.cell (p := ⟨w.heap.size, 4, none⟩) hsz1).trans m4
  have n8 := (hb2.cell (p := ⟨w.heap.size, 8, none⟩) hsz1).trans m8
  have n9 := (hb2.cell (p := ⟨w.heap.size, 9, none⟩) hsz1).trans m9
  have n10 := (hb2.cell (p := ⟨w.heap.size, 10, none⟩) hsz1).trans m10
  have n11 := (hb2.cell (p := ⟨w.heap.size, 11, none⟩) hsz1).trans m11
  have r0 := ((TR.out _ _ HB1.out hb2).cell (p := ⟨b, off, none⟩) hbw).trans HQ0.out
  have rl := ((TR.out _ _ HB1.out hb2).cell (p := ⟨b, off + m * 7, none⟩) hbw).trans HQL.out
  have HB2 := Lib.hid (TR.out _ _ HB1.out hb2); clear hb2 m4 m8 m9 m10 m11
  go_wp2_with fail
  go_quiet (fail)
  go_wp2_with fail
  go_ret
  exact ⟨ret_bool HT.out.symm, bel_drewN HB2.out _⟩

set_option maxHeartbeats 8000000 in
set_option maxRecDepth 100000 in
theorem q4Right_n3 (v : Value) (n : Nt) (w : World) (hv : NtV w w.heap.size v n) (h3 : n.offer.length ≤ 1000) (h : headB n = true)
    (d1 : n.kind = 2) (d2 : n.flt = 0) (d3 : n.know = []) (d4 : n.ents.length ≤ 4) (hb1 : erightB n.ents = true) (hb2 : rightB n.offer = true) (m : Nat) (e0 el : En) (hm : n.ents.length = m + 1) (g0 : n.ents[0]? = some e0) (gl : n.ents[m]? = some el) (hx : n.cur ≤ e0.id) (hy : n.next = el.id + 1) :
    Calls Tryz.prog 26 #[v] w fun e w' => e = .returned (.bool (tailB n)) ∧ Below w.heap.size w w' := by
  obtain ⟨vk, ve, vo, rfl, hk, he, ho, hok⟩ := hv
  obtain ⟨k0, k1, k2, k3, k4, k5, k6, k7, k8, k9, k10⟩ := hok
  unfold Nt.cells
  simp only [headB, decide_eq_true_eq] at h
  obtain ⟨c1, c2, c3, c4, c5⟩ := h
  have e3 : (n.src == n.dst) = false := by simp [c3]
  have ek : (n.kind == 1) = false := by simp [d1]
  have d1' : (n.kind != 2) = false := by simp [d1]
  have d2' : (n.flt != 0) = false := by simp [d2]
  have d3' : decide (0 < n.know.length) = false := by simp [d3]
  have d3'' : decide ((0 : Int) < (n.know.length : Int)) = false := by simp [d3]
  have hr1 := fun w1 (hb : Below w.heap.size w w1) => rRight_any w1 ve n.ents ((he.below hb).more hb.size) (by omega)
  have hr2 := fun w1 (hb : Below w.heap.size w w1) => refRight_any vo n.offer w1 ((ho.below hb).more hb.size) h3
  rw [hb1] at hr1
  rw [hb2] at hr2
  have TR : ∀ w1 w2 : World, Below w.heap.size w w1 → Below w1.heap.size w1 w2 → Below w.heap.size w w2 := fun _ _ h1 h2 => h1.trans (h2.mono h1.size)
  have TR := Lib.hid TR
  obtain ⟨Ae, ce, rfl, _, _, hAe⟩ := he
  obtain ⟨Ao, co, rfl, _⟩ := ho
  obtain ⟨Ak, ck, rfl, _⟩ := hk
  have hoff : n.offer.length = 0 ↔ n.offer = [] := List.length_eq_zero_iff
  have HO := Lib.hid hoff; clear hoff
  clear k6 k8 k10 c3 d1 d2 d3 hb1 hb2
  have HR1 := Lib.hid hr1; clear hr1
  have HR2 := Lib.hid hr2; clear hr2
  obtain ⟨b, off, rfl, hbw, hc⟩ := hAe (by intro h; rw [h] at hm; simp at hm)
  have hok0 := (‹∀ x ∈ n.ents, x.ok› e0 (List.mem_of_getElem? g0)).1
  have hokl := (‹∀ x ∈ n.ents, x.ok› el (List.mem_of_getElem? gl)).1
  have q0 : w.cell? ⟨b, off, none⟩ = some (.int .u8 e0.id) := by
    have := hc 0 e0 g0 0 _ rfl
    simpa using this
  have ql : w.cell? ⟨b, off + m * 7, none⟩ = some (.int .u8 el.id) := by
    have := hc m el gl 0 _ rfl
    simpa using this
  have HQ0 := Lib.hid q0; clear q0
  have HQL := Lib.hid ql; clear ql
  have hm3 : m ≤ 3 := by omega
  have hNX := next_cons hm g0 gl
  have HM := Lib.hid hm
  rw [hm] at d4 ⊢
  have HR1 := Lib.hid (hm ▸ HR1.out)
  clear hm g0 gl hc hAe ‹∀ x ∈ n.ents, x.ok›
  have z1 : ((m : Int) + 1 == 0) = false := by rw [beq_eq_false_iff_ne]; omega
  have z2 : decide ((0 : Int) < (m : Int) + 1) = true := decide_eq_true (by omega)
  have HT := Lib.hid (tail_yes (n := n) (by rw [hNX]; simp [hx, hy]))
  rw [HM.out] at HT
  have hxd : decide (e0.id < n.cur) = false := decide_eq_false (by omega)
  have z5 : (n.next != el.id + 1) = false := by simp [hy]
  clear hNX hy
  go_enter Tryz.func26, Tryz.ntmps26
  go_wp2_with fail
  refine (HR1.out _ ((Below.refl _ _).alloc (Nat.le_refl _) _)).mono ?_
  rintro e w1 ⟨rfl, hb1⟩
  have HB1 := Lib.hid (((Below.refl _ w).alloc (Nat.le_refl _) _).trans (hb1.mono (by simp)))
  have hsz1 : w.heap.size < w1.heap.size := by have := hb1.size; simp at this; omega
  have m11 := (hb1.cell (p := ⟨w.heap.size, 11, none⟩) (by simp)).trans (World.cell?_alloc_mark w _ 30 (0, 0) 11)
  have m4 := (hb1.cell (p := ⟨w.heap.size, 4, none⟩) (by simp)).trans (World.cell?_alloc_mark w _ 30 (0, 0) 4)
  have m8 := (hb1.cell (p := ⟨w.heap.size, 8, none⟩) (by simp)).trans (World.cell?_alloc_mark w _ 30 (0, 0) 8)
  have m9 := (hb1.cell (p := ⟨w.heap.size, 9, none⟩) (by simp)).trans (World.cell?_alloc_mark w _ 30 (0, 0) 9)
  have m10 := (hb1.cell (p := ⟨w.heap.size, 10, none⟩) (by simp)).trans (World.cell?_alloc_mark w _ 30 (0, 0) 10)
  simp at m11 m4 m8 m9 m10
  clear hb1
  go_wp2_with fail
  refine (HR2.out _ HB1.out).mono ?_
  rintro e w2 ⟨rfl, hb2⟩
  have n4 := (hb2.cell (p := ⟨w.heap.size, 4, none⟩) hsz1).trans m4
  have n8 := (hb2.cell (p := ⟨w.heap.size, 8, none⟩) hsz1).trans m8
  have n9 := (hb2.cell (p := ⟨w.heap.size, 9, none⟩) hsz1).trans m9
  have n10 := (hb2.cell (p := ⟨w.heap.size, 10, none⟩) hsz1).trans m10
  have n11 := (hb2.cell (p := ⟨w.heap.size, 11, none⟩) hsz1).trans m11
  have r0 := ((TR.out _ _ HB1.out hb2).cell (p := ⟨b, off, none⟩) hbw).trans HQ0.out
  have rl := ((TR.out _ _ HB1.out hb2).cell (p := ⟨b, off + m * 7, none⟩) hbw).trans HQL.out
  have HB2 := Lib.hid (TR.out _ _ HB1.out hb2); clear hb2 m4 m8 m9 m10 m11
  go_wp2_with fail
  go_quiet (fail)
  go_wp2_with fail
  all_goals
    go_ret
    refine ⟨ret_bool ?_, bel_drewN HB2.out _⟩
    rw [HT.out]
    clear HT HO HR1 HR2 TR HB2 HB1 n4 n8 n9 n10 n11
    first
      | (exfalso; omega)
      | (have hD : n.done = true ∨ (m + 1 = 4 ∧ n.next ≤ 63) := by first | exact .inl (by assumption) | exact .inr ⟨by omega, by omega⟩
         rw [decide_eq_true hD]
         first | (rw [Bool.true_and]; done) | (simp [*]; done))
      | (have hD : ¬ (n.done = true ∨ (m + 1 = 4 ∧ n.next ≤ 63)) := fun h => h.elim (fun h => absurd h (by assumption)) (fun h => by omega)
         rw [decide_eq_false hD, Bool.false_and])
end Go.Proofs.YtfjaeohfigcciabGreatDoor

