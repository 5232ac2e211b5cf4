/- The contracts of note.rightEntries, next, rightBatch and Right. -/
import Derived.Test.YtfjaeohfigcciabNCRight
import Derived.Test.YtfjaeohfigcciabZd
namespace Go.Proofs.Ytfjaeohfigcciab
open Go.RowKit

/-- the first entry isn't below the cursor -/
def firstB (n : Nt) : Bool := match n.ents with | [] => true | e :: _ => decide (n.cur ≤ e.id)
def entsOk (n : Nt) : Bool := decide (n.ents.length ≤ 4) && (erightB n.ents && firstB n)
def nextI (n : Nt) : Int := match n.ents.getLast? with | none => n.cur | some e => e.id + 1

set_option maxHeartbeats 4000000 in
set_option maxRecDepth 100000 in
theorem nrightEntries_any (v : Value) (n : Nt) (w : World) (hv : NtV w w.heap.size v n) :
    Calls Try.prog 29 #[v] w fun e w' => e = .returned (.bool (entsOk n)) ∧ Below w.heap.size w w' := by
  obtain ⟨vk, ve, vo, rfl, hk, he, ho, hok⟩ := hv
  obtain ⟨k0, k1, k2, k3, k4, k5, k6, k7, k8, k9, k10⟩ := hok
  have NC := fun w1 => note_cells (w := w) (w1 := w1) (n := n) (vk := vk) (ve := ve) (vo := vo)
  have hrr := fun (hl : n.ents.length ≤ 4) w1 (hb : Below w.heap.size w w1) => iRight_any w1 ve n.ents ((he.below hb).more hb.size) (by omega)
  unfold Nt.cells at NC ⊢
  obtain ⟨Ae, ce, rfl, _, _, hA⟩ := he
  clear hk ho k6 k8 k10
  have NC := Lib.hid NC
  have HRR := Lib.hid hrr; clear hrr
  have HA := Lib.hid hA; clear hA
  by_cases hl : n.ents.length ≤ 4
  · have HEQ := Lib.hid (show entsOk n = (erightB n.ents && firstB n) by unfold entsOk; rw [decide_eq_true hl]; rfl)
    have HR2 := Lib.hid (HRR.out hl); clear HRR
    cases hb : erightB n.ents
    · have HF := Lib.hid (show entsOk n = false by rw [HEQ.out, hb]; rfl)
      have hr2 := HR2.out
      rw [hb] at hr2
      have HR3 := Lib.hid hr2; clear hr2 hb HEQ
      go_enter Try.func29, Try.ntmps29
      go_wp2_with fail
      refine (HR3.out _ ((Below.refl _ _).alloc (Nat.le_refl _) _)).mono ?_
      rintro e w1 ⟨rfl, hb1⟩
      have HB1 := Lib.hid (((Below.refl _ w).alloc (Nat.le_refl _) _).trans (hb1.mono (by simp)))
      clear hb1
      go_wp2_with fail
      go_ret
      rw [HF.out]
      exact ⟨rfl, HB1.out⟩
    · have HF := Lib.hid (show entsOk n = firstB n by rw [HEQ.out, hb]; rfl)
      have hr2 := HR2.out
      rw [hb] at hr2
      have HR3 := Lib.hid hr2; clear hr2 hb HEQ
      rcases Nat.eq_zero_or_pos n.ents.length with h0 | h0
      · have HG := Lib.hid (show firstB n = true by unfold firstB; rw [List.length_eq_zero_iff.1 h0])
        rw [h0] at NC ⊢
        clear hl
        go_enter Try.func29, Try.ntmps29
        go_wp2_with fail
        rw [h0] at HR3
        refine (HR3.out _ ((Below.refl _ _).alloc (Nat.le_refl _) _)).mono ?_
        rintro e w1 ⟨rfl, hb1⟩
        have HB1 := Lib.hid (((Below.refl _ w).alloc (Nat.le_refl _) _).trans (hb1.mono (by simp)))
        have m8 := NC.out w1 hb1 8 _ rfl
        have hz1 : w.heap.size < w1.heap.size := by have := hb1.size; simp at this; omega
        clear hb1 h0
        go_wp2_with fail
        have hm : Try.prog.follows .mixedOrders = true := by kernel_rfl
        have p8 := fun p : Later w1 => (p.bel.cell (p := ⟨w.heap.size, 8, none⟩) hz1).trans m8
        refine wp_region_later hm (by kernel_rfl) ?_
        repeat (any_goals (first | go_big_quiet_step (fail) | quiet_step (fail)))
        refine wpQuiet_nil ?_
        intro wp hw'
        obtain ⟨lp, hlp⟩ := hw'
        have hbp := lp.bel
        rw [← hlp] at hbp
        clear hlp lp
        have HBN := Lib.hid (HB1.out.trans (hbp.mono (Nat.le_of_lt hz1)))
        clear p8 hbp
        go_wp2
        go_ret
        rw [HF.out, HG.out]
        exact ⟨rfl, HBN.out⟩
      · obtain ⟨b, off, rfl, hbw, hc⟩ := HA.out (by intro h; simp [h] at h0)
        obtain ⟨e0, g0⟩ : ∃ e, n.ents[0]? = some e := ⟨n.ents[0]'(by omega), List.getElem?_eq_getElem (by omega)⟩
        have HG := Lib.hid (show firstB n = decide (n.cur ≤ e0.id) by unfold firstB; cases hq : n.ents with | nil => rw [hq] at g0; simp at g0 | cons a r => rw [hq] at g0; simp at g0; rw [g0])
        go_enter Try.func29, Try.ntmps29
        go_wp2_with fail
        refine (HR3.out _ ((Below.refl _ _).alloc (Nat.le_refl _) _)).mono ?_
        rintro e w1 ⟨rfl, hb1⟩
        have HB1 := Lib.hid (((Below.refl _ w).alloc (Nat.le_refl _) _).trans (hb1.mono (by simp)))
        have m4 := NC.out w1 hb1 4 _ rfl
        have m8 := NC.out w1 hb1 8 _ rfl
        have hz1 : w.heap.size < w1.heap.size := by have := hb1.size; simp at this; omega
        have q0 : w.cell? ⟨b, off, none⟩ = some (.int .u8 e0.id) := by
          have := hc 0 e0 g0 0 _ rfl
          simpa using this
        have x0 : w1.cell? ⟨b, off, none⟩ = some (.int .u8 e0.id) := (HB1.out.cell (p := ⟨b, off, none⟩) hbw).trans q0
        have hbl : b < w1.heap.size := by omega
        obtain ⟨q, hq⟩ : ∃ q : Bool, decide (n.cur ≤ e0.id) = q := ⟨_, rfl⟩
        have HGQ := Lib.hid (HG.out.trans hq)
        have z0 : ((n.ents.length : Int) == 0) = false := by rw [beq_eq_false_iff_ne]; omega
        have hm : Try.prog.follows .mixedOrders = true := by kernel_rfl
        clear hb1 hc g0 q0
        go_wp2_with fail
        have p8 := fun p : Later w1 => (p.bel.cell (p := ⟨w.heap.size, 8, none⟩) hz1).trans m8
        have p4 := fun p : Later w1 => (p.bel.cell (p := ⟨w.heap.size, 4, none⟩) hz1).trans m4
        have p0 := fun p : Later w1 => (p.bel.cell (p := ⟨b, off, none⟩) hbl).trans x0
        refine wp_region_later hm (by kernel_rfl) ?_
        repeat (any_goals (first | go_big_quiet_step (fail) | quiet_step (fail)))
        refine wpQuiet_nil ?_
        intro wp hw'
        obtain ⟨lp, hlp⟩ := hw'
        have hbp := lp.bel
        rw [← hlp] at hbp
        clear hlp lp
        have HBN := Lib.hid (HB1.out.trans (hbp.mono (Nat.le_of_lt hz1)))
        clear p8 p4 p0 hbp
        go_wp2
        go_ret
        rw [HF.out, HGQ.out]
        exact ⟨rfl, HBN.out⟩
  · have HF := Lib.hid (show entsOk n = false by unfold entsOk; rw [decide_eq_false hl]; rfl)
    have hl4 : 4 < n.ents.length := by omega
    clear hl
    go_enter Try.func29, Try.ntmps29
    go_wp2_with fail
    go_ret
    rw [HF.out]
    exact ⟨rfl, (Below.refl _ _).alloc (Nat.le_refl _) _⟩


set_option maxHeartbeats 4000000 in
set_option maxRecDepth 100000 in
theorem nnext_any (v : Value) (n : Nt) (w : World) (hv : NtV w w.heap.size v n) (hr : erightB n.ents = true) (hl : n.ents.length ≤ 4) :
    Calls Try.prog 30 #[v] w fun e w' => e = .returned (.int .u8 (nextI n)) ∧ Below w.heap.size w w' := by
  obtain ⟨vk, ve, vo, rfl, hk, he, ho, hok⟩ := hv
  obtain ⟨k0, k1, k2, k3, k4, k5, k6, k7, k8, k9, k10⟩ := hok
  obtain ⟨Ae, ce, rfl, _, _, hA⟩ := he
  have HB := Lib.hid ((Below.refl w.heap.size w).alloc (Nat.le_refl _) (.cells (n.cells vk (.slice Ae n.ents.length ce) vo) 30))
  unfold Nt.cells at HB ⊢
  clear hk ho k6 k8 k10
  have HA := Lib.hid hA; clear hA
  rcases Nat.eq_zero_or_pos n.ents.length with h0 | h0
  · have HG := Lib.hid (show nextI n = n.cur by unfold nextI; rw [List.length_eq_zero_iff.1 h0]; rfl)
    rw [h0] at HB ⊢
    clear h0 hl hr
    go_enter Try.func30, Try.ntmps30
    go_wp2_with fail
    go_ret
    rw [HG.out]
    exact ⟨rfl, HB.out⟩
  · obtain ⟨m, hm⟩ : ∃ m, n.ents.length = m + 1 := ⟨n.ents.length - 1, by omega⟩
    obtain ⟨el, gl⟩ : ∃ e, n.ents[m]? = some e := ⟨n.ents[m]'(by omega), List.getElem?_eq_getElem (by omega)⟩
    obtain ⟨b, off, rfl, hbw, hc⟩ := HA.out (by intro h; simp [h] at h0)
    have hx := re_of_right hr el (List.mem_of_getElem? gl)
    have hok := (‹∀ x ∈ n.ents, x.ok› el (List.mem_of_getElem? gl)).1
    simp only [reB, Bool.and_eq_true, decide_eq_true_eq] at hx
    have hid63 : el.id < 64 := hx.2.1
    have ql : w.cell? ⟨b, off + m * 7, none⟩ = some (.int .u8 el.id) := by
      have := hc m el gl 0 _ rfl
      simpa using this
    have HG := Lib.hid (show nextI n = el.id + 1 by
      unfold nextI
      have : n.ents.getLast? = some el := by rw [List.getLast?_eq_getElem?, hm]; exact gl
      rw [this])
    have hwr : IntKind.u8.wrap (el.id + 1) = el.id + 1 := by
      have := hok.1
      rw [IntKind.wrap]
      simp [IntKind.bits, IntKind.signed] <;> omega
    clear hx hc gl hr h0 ‹∀ x ∈ n.ents, x.ok›
    rw [hm] at HB hl ⊢
    clear hm
    have z1 : ((m : Int) + 1 == 0) = false := by rw [beq_eq_false_iff_ne]; omega
    go_enter Try.func30, Try.ntmps30
    go_wp2_with fail
    go_ret
    rw [HG.out]
    exact ⟨rfl, HB.out⟩
end Go.Proofs.Ytfjaeohfigcciab

