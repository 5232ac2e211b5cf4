/- The law ItemOrder, walked: it answers true. -/
import Derived.Test.YtfjaeohfigcciaaIAwake
namespace Go.Proofs.Ytfjaeohfigcciaa
open Go.RowKit

/-- a version lies at a place -/
def VrAt (w : World) (b : Nat) (r q t : Int) : Prop := w.cell? ⟨b, 0, none⟩ = some (.int .u8 r) ∧ w.cell? ⟨b, 1, none⟩ = some (.int .u32 q) ∧ w.cell? ⟨b, 2, none⟩ = some (.int .u32 t)
theorem VrAt.keep {w w' : World} {B b : Nat} {r q t : Int} (h : VrAt w b r q t) (hb : Below B w w') (hB : b < B) : VrAt w' b r q t :=
  ⟨(hb.cell (p := ⟨b, 0, none⟩) hB).trans h.1, (hb.cell (p := ⟨b, 1, none⟩) hB).trans h.2.1, (hb.cell (p := ⟨b, 2, none⟩) hB).trans h.2.2⟩
theorem VrAt.later {w : World} {b : Nat} {r q t : Int} (h : VrAt w b r q t) (hB : b < w.heap.size) (p : Later w) : VrAt p.now b r q t := h.keep p.bel hB
theorem order_cells (w w1 : World) (r q t r' q' t' r'' q'' t'' : Int) (hb : Below (((w.alloc (.cells #[.int .u8 r, .int .u32 q, .int .u32 t] 35)).alloc (.cells #[.int .u8 r', .int .u32 q', .int .u32 t'] 35)).alloc (.cells #[.int .u8 r'', .int .u32 q'', .int .u32 t''] 35)).heap.size (((w.alloc (.cells #[.int .u8 r, .int .u32 q, .int .u32 t] 35)).alloc (.cells #[.int .u8 r', .int .u32 q', .int .u32 t'] 35)).alloc (.cells #[.int .u8 r'', .int .u32 q'', .int .u32 t''] 35)) w1) :
    VrAt w1 w.heap.size r q t ∧ VrAt w1 (w.heap.size + 1) r' q' t' ∧ VrAt w1 (w.heap.size + 1 + 1) r'' q'' t'' := by
  have n1 : w.heap.size < ((w.alloc (.cells #[.int .u8 r, .int .u32 q, .int .u32 t] 35)).alloc (.cells #[.int .u8 r', .int .u32 q', .int .u32 t'] 35)).heap.size := by simp; omega
  have n2 : w.heap.size + 1 < ((w.alloc (.cells #[.int .u8 r, .int .u32 q, .int .u32 t] 35)).alloc (.cells #[.int .u8 r', .int .u32 q', .int .u32 t'] 35)).heap.size := by simp
  refine ⟨VrAt.keep ?_ hb (by simp; omega), VrAt.keep ?_ hb (by simp), VrAt.keep ?_ hb (by simp)⟩
  · exact VrAt.keep (w := (w.alloc (.cells #[.int .u8 r, .int .u32 q, .int .u32 t] 35)).alloc (.cells #[.int .u8 r', .int .u32 q', .int .u32 t'] 35)) ⟨by simp, by simp, by simp⟩ (al1 _ _) n1
  · exact VrAt.keep (w := (w.alloc (.cells #[.int .u8 r, .int .u32 q, .int .u32 t] 35)).alloc (.cells #[.int .u8 r', .int .u32 q', .int .u32 t'] 35)) ⟨by simp, by simp, by simp⟩ (al1 _ _) n2
  · have e : ((w.alloc (.cells #[.int .u8 r, .int .u32 q, .int .u32 t] 35)).alloc (.cells #[.int .u8 r', .int .u32 q', .int .u32 t'] 35)).heap.size = w.heap.size + 1 + 1 := by simp
    rw [← e]
    exact ⟨World.cell?_alloc_new _ _ _ 0, World.cell?_alloc_new _ _ _ 1, World.cell?_alloc_new _ _ _ 2⟩

theorem cmpV_cases (a b : Vr) : (ltV a b = true ∧ ltV b a = false ∧ cmpV a b = -1 ∧ cmpV b a = 1 ∧ a ≠ b) ∨ (a = b ∧ cmpV a b = 0) ∨ (ltV a b = false ∧ ltV b a = true ∧ cmpV a b = 1 ∧ cmpV b a = -1 ∧ a ≠ b) := by
  rcases ltV_total a b with h | h | h
  · have h2 := ltV_asymm h
    exact .inl ⟨h, h2, by simp [cmpV, h], by simp [cmpV, h, h2], fun e => by rw [e, ltV_irrefl] at h; cases h⟩
  · subst h
    exact .inr (.inl ⟨rfl, by simp [cmpV, ltV_irrefl]⟩)
  · have h2 := ltV_asymm h
    exact .inr (.inr ⟨h2, h, by simp [cmpV, h, h2], by simp [cmpV, h], fun e => by rw [e, ltV_irrefl] at h; cases h⟩)
theorem cmpV_le_trans {a b c : Vr} (h : ltV a b = true) (k : cmpV b c ≤ 0) : cmpV a c = -1 := by
  have : ltV a c = true := by
    rcases cmpV_cases b c with ⟨h1, _⟩ | ⟨h1, _⟩ | ⟨_, _, h1, _⟩
    · exact ltV_trans h h1
    · rw [← h1]; exact h
    · omega
  simp [cmpV, this]
theorem cmpV_ge_trans {a b c : Vr} (h : ltV b a = true) (k : 0 ≤ cmpV b c) : cmpV a c = 1 := by
  have : ltV c a = true := by
    rcases cmpV_cases b c with ⟨_, _, h1, _⟩ | ⟨h1, _⟩ | ⟨_, h1, _⟩
    · omega
    · rw [← h1]; exact h
    · exact ltV_trans h1 h
  simp [cmpV, ltV_asymm this, this]
theorem vr_ne {r q t r' q' t' : Int} (h : (⟨r, q, t⟩ : Vr) ≠ ⟨r', q', t'⟩) : (r == r') = false ∨ ((r == r') = true ∧ (q == q') = false) ∨ ((r == r') = true ∧ (q == q') = true ∧ (t == t') = false) := by
  by_cases h1 : r = r'
  · by_cases h2 : q = q'
    · by_cases h3 : t = t'
      · exact absurd (by rw [h1, h2, h3]) h
      · exact .inr (.inr ⟨by simp [h1], by simp [h2], by simp [h3]⟩)
    · exact .inr (.inl ⟨by simp [h1], by simp [h2]⟩)
  · exact .inl (by simp [h1])

set_option maxHeartbeats 8000000 in
theorem order_any (r q t r' q' t' r'' q'' t'' : Int) (w : World) :
    Calls Try.prog 6 #[.agg #[.int .u8 r, .int .u32 q, .int .u32 t], .agg #[.int .u8 r', .int .u32 q', .int .u32 t'], .agg #[.int .u8 r'', .int .u32 q'', .int .u32 t'']] w fun e w' => e = .returned (.bool true) ∧ Below w.heap.size w w' := by
  have hm : Try.prog.follows .mixedOrders = true := by kernel_rfl
  have HM := Lib.hid hm; clear hm
  have HW := Lib.hid iawake_any
  have HAL := Lib.hid ((al2 w (.cells #[.int .u8 r, .int .u32 q, .int .u32 t] 35) (.cells #[.int .u8 r', .int .u32 q', .int .u32 t'] 35)).alloc (by simp; omega) (.cells #[.int .u8 r'', .int .u32 q'', .int .u32 t''] 35))
  rcases cmpV_cases ⟨r, q, t⟩ ⟨r', q', t'⟩ with ⟨hl, hl', hx, hx', hne⟩ | ⟨he, hx⟩ | ⟨hl, hl', hx, hx', hne⟩
  · by_cases hy : 0 < cmpV ⟨r', q', t'⟩ ⟨r'', q'', t''⟩
    · have hy' : decide (0 < cmpV ⟨r', q', t'⟩ ⟨r'', q'', t''⟩) = true := by simpa using hy
      clear hl' hy
      rcases vr_ne hne with e1 | ⟨e1, e2⟩ | ⟨e1, e2, e3⟩
      · clear hne
        go_enter Try.func6, Try.ntmps6
        go_wp2_with fail
        refine (HW.out _).mono ?_
        rintro e w1 ⟨rfl, hb1⟩
        have HB1 := Lib.hid (HAL.out.trans (hb1.mono (by simp; omega)))
        obtain ⟨va, vb, vc⟩ := order_cells w w1 r q t r' q' t' r'' q'' t'' hb1
        have hz1 : w.heap.size + 3 ≤ w1.heap.size := by have := hb1.size; simp at this; omega
        have m1 := fun p : Later w1 => (va.later (by omega) p).1
        have m2 := fun p : Later w1 => (va.later (by omega) p).2.1
        have m3 := fun p : Later w1 => (va.later (by omega) p).2.2
        have n1 := fun p : Later w1 => (vb.later (by omega) p).1
        have n2 := fun p : Later w1 => (vb.later (by omega) p).2.1
        have n3 := fun p : Later w1 => (vb.later (by omega) p).2.2
        have o1 := fun p : Later w1 => (vc.later (by omega) p).1
        have o2 := fun p : Later w1 => (vc.later (by omega) p).2.1
        have o3 := fun p : Later w1 => (vc.later (by omega) p).2.2
        have VA := Lib.hid va; clear va
        have VB := Lib.hid vb; clear vb
        clear vc hb1
        go_wp2_with fail
        have hm : Try.prog.follows .mixedOrders = true := HM.out
        refine wp_region_later hm (by kernel_rfl) ?_
        repeat (any_goals (first | go_big_quiet_step (first | (go_at_call 16; exact Calls.later (iCmp_any _ _ _ _ _ _ _))) | quiet_step (first | (go_at_call 16; exact Calls.later (iCmp_any _ _ _ _ _ _ _)))))
        refine wpQuiet_nil ?_
        intro wp hw'
        obtain ⟨lp, hlp⟩ := hw'
        have hbp := lp.bel
        rw [← hlp] at hbp
        clear hlp lp m1 m2 m3 n1 n2 n3 o1 o2 o3 hm
        have VA2 := Lib.hid (VA.out.keep hbp (by omega))
        have VB2 := Lib.hid (VB.out.keep hbp (by omega))
        have HB2 := Lib.hid (HB1.out.trans (hbp.mono (by omega)))
        have hz2 : w1.heap.size ≤ wp.heap.size := hbp.size
        obtain ⟨m1, m2, m3⟩ := VA2.out
        obtain ⟨n1, n2, n3⟩ := VB2.out
        clear hbp VA VB
        go_wp2_with fail
        refine (iCmp_any _ _ _ _ _ _ _).mono ?_
        rintro e w2 ⟨rfl, hb2⟩
        have HB3 := Lib.hid (HB2.out.trans (hb2.mono (by omega)))
        obtain ⟨a1, a2, a3⟩ := VA2.out.keep hb2 (by omega)
        obtain ⟨b1, b2, b3⟩ := VB2.out.keep hb2 (by omega)
        have hz3 : wp.heap.size ≤ w2.heap.size := hb2.size
        clear hb2 m1 m2 m3 n1 n2 n3
        go_wp2_with fail
        refine (rLess_any _ _ _ _ _ _ _).mono ?_
        rintro e w3 ⟨rfl, hb3⟩
        go_wp2_with fail
        go_ret
        exact ⟨rfl, HB3.out.trans (hb3.mono (by omega))⟩
      · clear hne
        go_enter Try.func6, Try.ntmps6
        go_wp2_with fail
        refine (HW.out _).mono ?_
        rintro e w1 ⟨rfl, hb1⟩
        have HB1 := Lib.hid (HAL.out.trans (hb1.mono (by simp; omega)))
        obtain ⟨va, vb, vc⟩ := order_cells w w1 r q t r' q' t' r'' q'' t'' hb1
        have hz1 : w.heap.size + 3 ≤ w1.heap.size := by have := hb1.size; simp at this; omega
        have m1 := fun p : Later w1 => (va.later (by omega) p).1
        have m2 := fun p : Later w1 => (va.later (by omega) p).2.1
        have m3 := fun p : Later w1 => (va.later (by omega) p).2.2
        have n1 := fun p : Later w1 => (vb.later (by omega) p).1
        have n2 := fun p : Later w1 => (vb.later (by omega) p).2.1
        have n3 := fun p : Later w1 => (vb.later (by omega) p).2.2
        have o1 := fun p : Later w1 => (vc.later (by omega) p).1
        have o2 := fun p : Later w1 => (vc.later (by omega) p).2.1
        have o3 := fun p : Later w1 => (vc.later (by omega) p).2.2
        have VA := Lib.hid va; clear va
        have VB := Lib.hid vb; clear vb
        clear vc hb1
        go_wp2_with fail
        have hm : Try.prog.follows .mixedOrders = true := HM.out
        refine wp_region_later hm (by kernel_rfl) ?_
        repeat (any_goals (first | go_big_quiet_step (first | (go_at_call 16; exact Calls.later (iCmp_any _ _ _ _ _ _ _))) | quiet_step (first | (go_at_call 16; exact Calls.later (iCmp_any _ _ _ _ _ _ _)))))
        refine wpQuiet_nil ?_
        intro wp hw'
        obtain ⟨lp, hlp⟩ := hw'
        have hbp := lp.bel
        rw [← hlp] at hbp
        clear hlp lp m1 m2 m3 n1 n2 n3 o1 o2 o3 hm
        have VA2 := Lib.hid (VA.out.keep hbp (by omega))
        have VB2 := Lib.hid (VB.out.keep hbp (by omega))
        have HB2 := Lib.hid (HB1.out.trans (hbp.mono (by omega)))
        have hz2 : w1.heap.size ≤ wp.heap.size := hbp.size
        obtain ⟨m1, m2, m3⟩ := VA2.out
        obtain ⟨n1, n2, n3⟩ := VB2.out
        clear hbp VA VB
        go_wp2_with fail
        refine (iCmp_any _ _ _ _ _ _ _).mono ?_
        rintro e w2 ⟨rfl, hb2⟩
        have HB3 := Lib.hid (HB2.out.trans (hb2.mono (by omega)))
        obtain ⟨a1, a2, a3⟩ := VA2.out.keep hb2 (by omega)
        obtain ⟨b1, b2, b3⟩ := VB2.out.keep hb2 (by omega)
        have hz3 : wp.heap.size ≤ w2.heap.size := hb2.size
        clear hb2 m1 m2 m3 n1 n2 n3
        go_wp2_with fail
        refine (rLess_any _ _ _ _ _ _ _).mono ?_
        rintro e w3 ⟨rfl, hb3⟩
        go_wp2_with fail
        go_ret
        exact ⟨rfl, HB3.out.trans (hb3.mono (by omega))⟩
      · clear hne
        go_enter Try.func6, Try.ntmps6
        go_wp2_with fail
        refine (HW.out _).mono ?_
        rintro e w1 ⟨rfl, hb1⟩
        have HB1 := Lib.hid (HAL.out.trans (hb1.mono (by simp; omega)))
        obtain ⟨va, vb, vc⟩ := order_cells w w1 r q t r' q' t' r'' q'' t'' hb1
        have hz1 : w.heap.size + 3 ≤ w1.heap.size := by have := hb1.size; simp at this; omega
        have m1 := fun p : Later w1 => (va.later (by omega) p).1
        have m2 := fun p : Later w1 => (va.later (by omega) p).2.1
        have m3 := fun p : Later w1 => (va.later (by omega) p).2.2
        have n1 := fun p : Later w1 => (vb.later (by omega) p).1
        have n2 := fun p : Later w1 => (vb.later (by omega) p).2.1
        have n3 := fun p : Later w1 => (vb.later (by omega) p).2.2
        have o1 := fun p : Later w1 => (vc.later (by omega) p).1
        have o2 := fun p : Later w1 => (vc.later (by omega) p).2.1
        have o3 := fun p : Later w1 => (vc.later (by omega) p).2.2
        have VA := Lib.hid va; clear va
        have VB := Lib.hid vb; clear vb
        clear vc hb1
        go_wp2_with fail
        have hm : Try.prog.follows .mixedOrders = true := HM.out
        refine wp_region_later hm (by kernel_rfl) ?_
        repeat (any_goals (first | go_big_quiet_step (first | (go_at_call 16; exact Calls.later (iCmp_any _ _ _ _ _ _ _))) | quiet_step (first | (go_at_call 16; exact Calls.later (iCmp_any _ _ _ _ _ _ _)))))
        refine wpQuiet_nil ?_
        intro wp hw'
        obtain ⟨lp, hlp⟩ := hw'
        have hbp := lp.bel
        rw [← hlp] at hbp
        clear hlp lp m1 m2 m3 n1 n2 n3 o1 o2 o3 hm
        have VA2 := Lib.hid (VA.out.keep hbp (by omega))
        have VB2 := Lib.hid (VB.out.keep hbp (by omega))
        have HB2 := Lib.hid (HB1.out.trans (hbp.mono (by omega)))
        have hz2 : w1.heap.size ≤ wp.heap.size := hbp.size
        obtain ⟨m1, m2, m3⟩ := VA2.out
        obtain ⟨n1, n2, n3⟩ := VB2.out
        clear hbp VA VB
        go_wp2_with fail
        refine (iCmp_any _ _ _ _ _ _ _).mono ?_
        rintro e w2 ⟨rfl, hb2⟩
        have HB3 := Lib.hid (HB2.out.trans (hb2.mono (by omega)))
        obtain ⟨a1, a2, a3⟩ := VA2.out.keep hb2 (by omega)
        obtain ⟨b1, b2, b3⟩ := VB2.out.keep hb2 (by omega)
        have hz3 : wp.heap.size ≤ w2.heap.size := hb2.size
        clear hb2 m1 m2 m3 n1 n2 n3
        go_wp2_with fail
        refine (rLess_any _ _ _ _ _ _ _).mono ?_
        rintro e w3 ⟨rfl, hb3⟩
        go_wp2_with fail
        go_ret
        exact ⟨rfl, HB3.out.trans (hb3.mono (by omega))⟩
    · have hz := cmpV_le_trans hl (show cmpV ⟨r', q', t'⟩ ⟨r'', q'', t''⟩ ≤ 0 by omega)
      have hy' : decide (0 < cmpV ⟨r', q', t'⟩ ⟨r'', q'', t''⟩) = false := by simpa using hy
      clear hl' hy
      rcases vr_ne hne with e1 | ⟨e1, e2⟩ | ⟨e1, e2, e3⟩
      · clear hne
        go_enter Try.func6, Try.ntmps6
        go_wp2_with fail
        refine (HW.out _).mono ?_
        rintro e w1 ⟨rfl, hb1⟩
        have HB1 := Lib.hid (HAL.out.trans (hb1.mono (by simp; omega)))
        obtain ⟨va, vb, vc⟩ := order_cells w w1 r q t r' q' t' r'' q'' t'' hb1
        have hz1 : w.heap.size + 3 ≤ w1.heap.size := by have := hb1.size; simp at this; omega
        have m1 := fun p : Later w1 => (va.later (by omega) p).1
        have m2 := fun p : Later w1 => (va.later (by omega) p).2.1
        have m3 := fun p : Later w1 => (va.later (by omega) p).2.2
        have n1 := fun p : Later w1 => (vb.later (by omega) p).1
        have n2 := fun p : Later w1 => (vb.later (by omega) p).2.1
        have n3 := fun p : Later w1 => (vb.later (by omega) p).2.2
        have o1 := fun p : Later w1 => (vc.later (by omega) p).1
        have o2 := fun p : Later w1 => (vc.later (by omega) p).2.1
        have o3 := fun p : Later w1 => (vc.later (by omega) p).2.2
        have VA := Lib.hid va; clear va
        have VB := Lib.hid vb; clear vb
        clear vc hb1
        go_wp2_with fail
        have hm : Try.prog.follows .mixedOrders = true := HM.out
        refine wp_region_later hm (by kernel_rfl) ?_
        repeat (any_goals (first | go_big_quiet_step (first | (go_at_call 16; exact Calls.later (iCmp_any _ _ _ _ _ _ _))) | quiet_step (first | (go_at_call 16; exact Calls.later (iCmp_any _ _ _ _ _ _ _)))))
        refine wpQuiet_nil ?_
        intro wp hw'
        obtain ⟨lp, hlp⟩ := hw'
        have hbp := lp.bel
        rw [← hlp] at hbp
        clear hlp lp m1 m2 m3 n1 n2 n3 o1 o2 o3 hm
        have VA2 := Lib.hid (VA.out.keep hbp (by omega))
        have VB2 := Lib.hid (VB.out.keep hbp (by omega))
        have HB2 := Lib.hid (HB1.out.trans (hbp.mono (by omega)))
        have hz2 : w1.heap.size ≤ wp.heap.size := hbp.size
        obtain ⟨m1, m2, m3⟩ := VA2.out
        obtain ⟨n1, n2, n3⟩ := VB2.out
        clear hbp VA VB
        go_wp2_with fail
        refine (iCmp_any _ _ _ _ _ _ _).mono ?_
        rintro e w2 ⟨rfl, hb2⟩
        have HB3 := Lib.hid (HB2.out.trans (hb2.mono (by omega)))
        obtain ⟨a1, a2, a3⟩ := VA2.out.keep hb2 (by omega)
        obtain ⟨b1, b2, b3⟩ := VB2.out.keep hb2 (by omega)
        have hz3 : wp.heap.size ≤ w2.heap.size := hb2.size
        clear hb2 m1 m2 m3 n1 n2 n3
        go_wp2_with fail
        refine (rLess_any _ _ _ _ _ _ _).mono ?_
        rintro e w3 ⟨rfl, hb3⟩
        go_wp2_with fail
        go_ret
        exact ⟨rfl, HB3.out.trans (hb3.mono (by omega))⟩
      · clear hne
        go_enter Try.func6, Try.ntmps6
        go_wp2_with fail
        refine (HW.out _).mono ?_
        rintro e w1 ⟨rfl, hb1⟩
        have HB1 := Lib.hid (HAL.out.trans (hb1.mono (by simp; omega)))
        obtain ⟨va, vb, vc⟩ := order_cells w w1 r q t r' q' t' r'' q'' t'' hb1
        have hz1 : w.heap.size + 3 ≤ w1.heap.size := by have := hb1.size; simp at this; omega
        have m1 := fun p : Later w1 => (va.later (by omega) p).1
        have m2 := fun p : Later w1 => (va.later (by omega) p).2.1
        have m3 := fun p : Later w1 => (va.later (by omega) p).2.2
        have n1 := fun p : Later w1 => (vb.later (by omega) p).1
        have n2 := fun p : Later w1 => (vb.later (by omega) p).2.1
        have n3 := fun p : Later w1 => (vb.later (by omega) p).2.2
        have o1 := fun p : Later w1 => (vc.later (by omega) p).1
        have o2 := fun p : Later w1 => (vc.later (by omega) p).2.1
        have o3 := fun p : Later w1 => (vc.later (by omega) p).2.2
        have VA := Lib.hid va; clear va
        have VB := Lib.hid vb; clear vb
        clear vc hb1
        go_wp2_with fail
        have hm : Try.prog.follows .mixedOrders = true := HM.out
        refine wp_region_later hm (by kernel_rfl) ?_
        repeat (any_goals (first | go_big_quiet_step (first | (go_at_call 16; exact Calls.later (iCmp_any _ _ _ _ _ _ _))) | quiet_step (first | (go_at_call 16; exact Calls.later (iCmp_any _ _ _ _ _ _ _)))))
        refine wpQuiet_nil ?_
        intro wp hw'
        obtain ⟨lp, hlp⟩ := hw'
        have hbp := lp.bel
        rw [← hlp] at hbp
        clear hlp lp m1 m2 m3 n1 n2 n3 o1 o2 o3 hm
        have VA2 := Lib.hid (VA.out.keep hbp (by omega))
        have VB2 := Lib.hid (VB.out.keep hbp (by omega))
        have HB2 := Lib.hid (HB1.out.trans (hbp.mono (by omega)))
        have hz2 : w1.heap.size ≤ wp.heap.size := hbp.size
        obtain ⟨m1, m2, m3⟩ := VA2.out
        obtain ⟨n1, n2, n3⟩ := VB2.out
        clear hbp VA VB
        go_wp2_with fail
        refine (iCmp_any _ _ _ _ _ _ _).mono ?_
        rintro e w2 ⟨rfl, hb2⟩
        have HB3 := Lib.hid (HB2.out.trans (hb2.mono (by omega)))
        obtain ⟨a1, a2, a3⟩ := VA2.out.keep hb2 (by omega)
        obtain ⟨b1, b2, b3⟩ := VB2.out.keep hb2 (by omega)
        have hz3 : wp.heap.size ≤ w2.heap.size := hb2.size
        clear hb2 m1 m2 m3 n1 n2 n3
        go_wp2_with fail
        refine (rLess_any _ _ _ _ _ _ _).mono ?_
        rintro e w3 ⟨rfl, hb3⟩
        go_wp2_with fail
        go_ret
        exact ⟨rfl, HB3.out.trans (hb3.mono (by omega))⟩
      · clear hne
        go_enter Try.func6, Try.ntmps6
        go_wp2_with fail
        refine (HW.out _).mono ?_
        rintro e w1 ⟨rfl, hb1⟩
        have HB1 := Lib.hid (HAL.out.trans (hb1.mono (by simp; omega)))
        obtain ⟨va, vb, vc⟩ := order_cells w w1 r q t r' q' t' r'' q'' t'' hb1
        have hz1 : w.heap.size + 3 ≤ w1.heap.size := by have := hb1.size; simp at this; omega
        have m1 := fun p : Later w1 => (va.later (by omega) p).1
        have m2 := fun p : Later w1 => (va.later (by omega) p).2.1
        have m3 := fun p : Later w1 => (va.later (by omega) p).2.2
        have n1 := fun p : Later w1 => (vb.later (by omega) p).1
        have n2 := fun p : Later w1 => (vb.later (by omega) p).2.1
        have n3 := fun p : Later w1 => (vb.later (by omega) p).2.2
        have o1 := fun p : Later w1 => (vc.later (by omega) p).1
        have o2 := fun p : Later w1 => (vc.later (by omega) p).2.1
        have o3 := fun p : Later w1 => (vc.later (by omega) p).2.2
        have VA := Lib.hid va; clear va
        have VB := Lib.hid vb; clear vb
        clear vc hb1
        go_wp2_with fail
        have hm : Try.prog.follows .mixedOrders = true := HM.out
        refine wp_region_later hm (by kernel_rfl) ?_
        repeat (any_goals (first | go_big_quiet_step (first | (go_at_call 16; exact Calls.later (iCmp_any _ _ _ _ _ _ _))) | quiet_step (first | (go_at_call 16; exact Calls.later (iCmp_any _ _ _ _ _ _ _)))))
        refine wpQuiet_nil ?_
        intro wp hw'
        obtain ⟨lp, hlp⟩ := hw'
        have hbp := lp.bel
        rw [← hlp] at hbp
        clear hlp lp m1 m2 m3 n1 n2 n3 o1 o2 o3 hm
        have VA2 := Lib.hid (VA.out.keep hbp (by omega))
        have VB2 := Lib.hid (VB.out.keep hbp (by omega))
        have HB2 := Lib.hid (HB1.out.trans (hbp.mono (by omega)))
        have hz2 : w1.heap.size ≤ wp.heap.size := hbp.size
        obtain ⟨m1, m2, m3⟩ := VA2.out
        obtain ⟨n1, n2, n3⟩ := VB2.out
        clear hbp VA VB
        go_wp2_with fail
        refine (iCmp_any _ _ _ _ _ _ _).mono ?_
        rintro e w2 ⟨rfl, hb2⟩
        have HB3 := Lib.hid (HB2.out.trans (hb2.mono (by omega)))
        obtain ⟨a1, a2, a3⟩ := VA2.out.keep hb2 (by omega)
        obtain ⟨b1, b2, b3⟩ := VB2.out.keep hb2 (by omega)
        have hz3 : wp.heap.size ≤ w2.heap.size := hb2.size
        clear hb2 m1 m2 m3 n1 n2 n3
        go_wp2_with fail
        refine (rLess_any _ _ _ _ _ _ _).mono ?_
        rintro e w3 ⟨rfl, hb3⟩
        go_wp2_with fail
        go_ret
        exact ⟨rfl, HB3.out.trans (hb3.mono (by omega))⟩
  · simp only [Vr.mk.injEq] at he
    obtain ⟨rfl, rfl, rfl⟩ := he
    have hl := ltV_irrefl ⟨r, q, t⟩
    rcases cmpV_cases ⟨r, q, t⟩ ⟨r'', q'', t''⟩ with ⟨g1, g2, hy, g3, g4⟩ | ⟨g1, hy⟩ | ⟨g1, g2, hy, g3, g4⟩
    · clear g1 g2 g3 g4
      go_enter Try.func6, Try.ntmps6
      go_wp2_with fail
      refine (HW.out _).mono ?_
      rintro e w1 ⟨rfl, hb1⟩
      have HB1 := Lib.hid (HAL.out.trans (hb1.mono (by simp; omega)))
      obtain ⟨va, vb, vc⟩ := order_cells w w1 r q t r q t r'' q'' t'' hb1
      have hz1 : w.heap.size + 3 ≤ w1.heap.size := by have := hb1.size; simp at this; omega
      have m1 := fun p : Later w1 => (va.later (by omega) p).1
      have m2 := fun p : Later w1 => (va.later (by omega) p).2.1
      have m3 := fun p : Later w1 => (va.later (by omega) p).2.2
      have n1 := fun p : Later w1 => (vb.later (by omega) p).1
      have n2 := fun p : Later w1 => (vb.later (by omega) p).2.1
      have n3 := fun p : Later w1 => (vb.later (by omega) p).2.2
      have o1 := fun p : Later w1 => (vc.later (by omega) p).1
      have o2 := fun p : Later w1 => (vc.later (by omega) p).2.1
      have o3 := fun p : Later w1 => (vc.later (by omega) p).2.2
      have VA := Lib.hid va; clear va
      have VB := Lib.hid vb; clear vb
      clear vc hb1
      go_wp2_with fail
      have hm : Try.prog.follows .mixedOrders = true := HM.out
      refine wp_region_later hm (by kernel_rfl) ?_
      repeat (any_goals (first | go_big_quiet_step (first | (go_at_call 16; exact Calls.later (iCmp_any _ _ _ _ _ _ _))) | quiet_step (first | (go_at_call 16; exact Calls.later (iCmp_any _ _ _ _ _ _ _)))))
      refine wpQuiet_nil ?_
      intro wp hw'
      obtain ⟨lp, hlp⟩ := hw'
      have hbp := lp.bel
      rw [← hlp] at hbp
      clear hlp lp m1 m2 m3 n1 n2 n3 o1 o2 o3 hm
      have VA2 := Lib.hid (VA.out.keep hbp (by omega))
      have VB2 := Lib.hid (VB.out.keep hbp (by omega))
      have HB2 := Lib.hid (HB1.out.trans (hbp.mono (by omega)))
      have hz2 : w1.heap.size ≤ wp.heap.size := hbp.size
      obtain ⟨m1, m2, m3⟩ := VA2.out
      obtain ⟨n1, n2, n3⟩ := VB2.out
      clear hbp VA VB
      go_wp2_with fail
      refine (iCmp_any _ _ _ _ _ _ _).mono ?_
      rintro e w2 ⟨rfl, hb2⟩
      have HB3 := Lib.hid (HB2.out.trans (hb2.mono (by omega)))
      obtain ⟨a1, a2, a3⟩ := VA2.out.keep hb2 (by omega)
      obtain ⟨b1, b2, b3⟩ := VB2.out.keep hb2 (by omega)
      have hz3 : wp.heap.size ≤ w2.heap.size := hb2.size
      clear hb2 m1 m2 m3 n1 n2 n3
      go_wp2_with fail
      refine (rLess_any _ _ _ _ _ _ _).mono ?_
      rintro e w3 ⟨rfl, hb3⟩
      go_wp2_with fail
      go_ret
      exact ⟨rfl, HB3.out.trans (hb3.mono (by omega))⟩
    · clear g1
      go_enter Try.func6, Try.ntmps6
      go_wp2_with fail
      refine (HW.out _).mono ?_
      rintro e w1 ⟨rfl, hb1⟩
      have HB1 := Lib.hid (HAL.out.trans (hb1.mono (by simp; omega)))
      obtain ⟨va, vb, vc⟩ := order_cells w w1 r q t r q t r'' q'' t'' hb1
      have hz1 : w.heap.size + 3 ≤ w1.heap.size := by have := hb1.size; simp at this; omega
      have m1 := fun p : Later w1 => (va.later (by omega) p).1
      have m2 := fun p : Later w1 => (va.later (by omega) p).2.1
      have m3 := fun p : Later w1 => (va.later (by omega) p).2.2
      have n1 := fun p : Later w1 => (vb.later (by omega) p).1
      have n2 := fun p : Later w1 => (vb.later (by omega) p).2.1
      have n3 := fun p : Later w1 => (vb.later (by omega) p).2.2
      have o1 := fun p : Later w1 => (vc.later (by omega) p).1
      have o2 := fun p : Later w1 => (vc.later (by omega) p).2.1
      have o3 := fun p : Later w1 => (vc.later (by omega) p).2.2
      have VA := Lib.hid va; clear va
      have VB := Lib.hid vb; clear vb
      clear vc hb1
      go_wp2_with fail
      have hm : Try.prog.follows .mixedOrders = true := HM.out
      refine wp_region_later hm (by kernel_rfl) ?_
      repeat (any_goals (first | go_big_quiet_step (first | (go_at_call 16; exact Calls.later (iCmp_any _ _ _ _ _ _ _))) | quiet_step (first | (go_at_call 16; exact Calls.later (iCmp_any _ _ _ _ _ _ _)))))
      refine wpQuiet_nil ?_
      intro wp hw'
      obtain ⟨lp, hlp⟩ := hw'
      have hbp := lp.bel
      rw [← hlp] at hbp
      clear hlp lp m1 m2 m3 n1 n2 n3 o1 o2 o3 hm
      have VA2 := Lib.hid (VA.out.keep hbp (by omega))
      have VB2 := Lib.hid (VB.out.keep hbp (by omega))
      have HB2 := Lib.hid (HB1.out.trans (hbp.mono (by omega)))
      have hz2 : w1.heap.size ≤ wp.heap.size := hbp.size
      obtain ⟨m1, m2, m3⟩ := VA2.out
      obtain ⟨n1, n2, n3⟩ := VB2.out
      clear hbp VA VB
      go_wp2_with fail
      refine (iCmp_any _ _ _ _ _ _ _).mono ?_
      rintro e w2 ⟨rfl, hb2⟩
      have HB3 := Lib.hid (HB2.out.trans (hb2.mono (by omega)))
      obtain ⟨a1, a2, a3⟩ := VA2.out.keep hb2 (by omega)
      obtain ⟨b1, b2, b3⟩ := VB2.out.keep hb2 (by omega)
      have hz3 : wp.heap.size ≤ w2.heap.size := hb2.size
      clear hb2 m1 m2 m3 n1 n2 n3
      go_wp2_with fail
      refine (rLess_any _ _ _ _ _ _ _).mono ?_
      rintro e w3 ⟨rfl, hb3⟩
      go_wp2_with fail
      go_ret
      exact ⟨rfl, HB3.out.trans (hb3.mono (by omega))⟩
    · clear g1 g2 g3 g4
      go_enter Try.func6, Try.ntmps6
      go_wp2_with fail
      refine (HW.out _).mono ?_
      rintro e w1 ⟨rfl, hb1⟩
      have HB1 := Lib.hid (HAL.out.trans (hb1.mono (by simp; omega)))
      obtain ⟨va, vb, vc⟩ := order_cells w w1 r q t r q t r'' q'' t'' hb1
      have hz1 : w.heap.size + 3 ≤ w1.heap.size := by have := hb1.size; simp at this; omega
      have m1 := fun p : Later w1 => (va.later (by omega) p).1
      have m2 := fun p : Later w1 => (va.later (by omega) p).2.1
      have m3 := fun p : Later w1 => (va.later (by omega) p).2.2
      have n1 := fun p : Later w1 => (vb.later (by omega) p).1
      have n2 := fun p : Later w1 => (vb.later (by omega) p).2.1
      have n3 := fun p : Later w1 => (vb.later (by omega) p).2.2
      have o1 := fun p : Later w1 => (vc.later (by omega) p).1
      have o2 := fun p : Later w1 => (vc.later (by omega) p).2.1
      have o3 := fun p : Later w1 => (vc.later (by omega) p).2.2
      have VA := Lib.hid va; clear va
      have VB := Lib.hid vb; clear vb
      clear vc hb1
      go_wp2_with fail
      have hm : Try.prog.follows .mixedOrders = true := HM.out
      refine wp_region_later hm (by kernel_rfl) ?_
      repeat (any_goals (first | go_big_quiet_step (first | (go_at_call 16; exact Calls.later (iCmp_any _ _ _ _ _ _ _))) | quiet_step (first | (go_at_call 16; exact Calls.later (iCmp_any _ _ _ _ _ _ _)))))
      refine wpQuiet_nil ?_
      intro wp hw'
      obtain ⟨lp, hlp⟩ := hw'
      have hbp := lp.bel
      rw [← hlp] at hbp
      clear hlp lp m1 m2 m3 n1 n2 n3 o1 o2 o3 hm
      have VA2 := Lib.hid (VA.out.keep hbp (by omega))
      have VB2 := Lib.hid (VB.out.keep hbp (by omega))
      have HB2 := Lib.hid (HB1.out.trans (hbp.mono (by omega)))
      have hz2 : w1.heap.size ≤ wp.heap.size := hbp.size
      obtain ⟨m1, m2, m3⟩ := VA2.out
      obtain ⟨n1, n2, n3⟩ := VB2.out
      clear hbp VA VB
      go_wp2_with fail
      refine (iCmp_any _ _ _ _ _ _ _).mono ?_
      rintro e w2 ⟨rfl, hb2⟩
      have HB3 := Lib.hid (HB2.out.trans (hb2.mono (by omega)))
      obtain ⟨a1, a2, a3⟩ := VA2.out.keep hb2 (by omega)
      obtain ⟨b1, b2, b3⟩ := VB2.out.keep hb2 (by omega)
      have hz3 : wp.heap.size ≤ w2.heap.size := hb2.size
      clear hb2 m1 m2 m3 n1 n2 n3
      go_wp2_with fail
      refine (rLess_any _ _ _ _ _ _ _).mono ?_
      rintro e w3 ⟨rfl, hb3⟩
      go_wp2_with fail
      go_ret
      exact ⟨rfl, HB3.out.trans (hb3.mono (by omega))⟩
  · by_cases hy : cmpV ⟨r', q', t'⟩ ⟨r'', q'', t''⟩ < 0
    · have hy' : decide (cmpV ⟨r', q', t'⟩ ⟨r'', q'', t''⟩ < 0) = true := by simpa using hy
      clear hl' hy
      rcases vr_ne hne with e1 | ⟨e1, e2⟩ | ⟨e1, e2, e3⟩
      · clear hne
        go_enter Try.func6, Try.ntmps6
        go_wp2_with fail
        refine (HW.out _).mono ?_
        rintro e w1 ⟨rfl, hb1⟩
        have HB1 := Lib.hid (HAL.out.trans (hb1.mono (by simp; omega)))
        obtain ⟨va, vb, vc⟩ := order_cells w w1 r q t r' q' t' r'' q'' t'' hb1
        have hz1 : w.heap.size + 3 ≤ w1.heap.size := by have := hb1.size; simp at this; omega
        have m1 := fun p : Later w1 => (va.later (by omega) p).1
        have m2 := fun p : Later w1 => (va.later (by omega) p).2.1
        have m3 := fun p : Later w1 => (va.later (by omega) p).2.2
        have n1 := fun p : Later w1 => (vb.later (by omega) p).1
        have n2 := fun p : Later w1 => (vb.later (by omega) p).2.1
        have n3 := fun p : Later w1 => (vb.later (by omega) p).2.2
        have o1 := fun p : Later w1 => (vc.later (by omega) p).1
        have o2 := fun p : Later w1 => (vc.later (by omega) p).2.1
        have o3 := fun p : Later w1 => (vc.later (by omega) p).2.2
        have VA := Lib.hid va; clear va
        have VB := Lib.hid vb; clear vb
        clear vc hb1
        go_wp2_with fail
        have hm : Try.prog.follows .mixedOrders = true := HM.out
        refine wp_region_later hm (by kernel_rfl) ?_
        repeat (any_goals (first | go_big_quiet_step (first | (go_at_call 16; exact Calls.later (iCmp_any _ _ _ _ _ _ _))) | quiet_step (first | (go_at_call 16; exact Calls.later (iCmp_any _ _ _ _ _ _ _)))))
        refine wpQuiet_nil ?_
        intro wp hw'
        obtain ⟨lp, hlp⟩ := hw'
        have hbp := lp.bel
        rw [← hlp] at hbp
        clear hlp lp m1 m2 m3 n1 n2 n3 o1 o2 o3 hm
        have VA2 := Lib.hid (VA.out.keep hbp (by omega))
        have VB2 := Lib.hid (VB.out.keep hbp (by omega))
        have HB2 := Lib.hid (HB1.out.trans (hbp.mono (by omega)))
        have hz2 : w1.heap.size ≤ wp.heap.size := hbp.size
        obtain ⟨m1, m2, m3⟩ := VA2.out
        obtain ⟨n1, n2, n3⟩ := VB2.out
        clear hbp VA VB
        go_wp2_with fail
        refine (iCmp_any _ _ _ _ _ _ _).mono ?_
        rintro e w2 ⟨rfl, hb2⟩
        have HB3 := Lib.hid (HB2.out.trans (hb2.mono (by omega)))
        obtain ⟨a1, a2, a3⟩ := VA2.out.keep hb2 (by omega)
        obtain ⟨b1, b2, b3⟩ := VB2.out.keep hb2 (by omega)
        have hz3 : wp.heap.size ≤ w2.heap.size := hb2.size
        clear hb2 m1 m2 m3 n1 n2 n3
        go_wp2_with fail
        refine (rLess_any _ _ _ _ _ _ _).mono ?_
        rintro e w3 ⟨rfl, hb3⟩
        go_wp2_with fail
        go_ret
        exact ⟨rfl, HB3.out.trans (hb3.mono (by omega))⟩
      · clear hne
        go_enter Try.func6, Try.ntmps6
        go_wp2_with fail
        refine (HW.out _).mono ?_
        rintro e w1 ⟨rfl, hb1⟩
        have HB1 := Lib.hid (HAL.out.trans (hb1.mono (by simp; omega)))
        obtain ⟨va, vb, vc⟩ := order_cells w w1 r q t r' q' t' r'' q'' t'' hb1
        have hz1 : w.heap.size + 3 ≤ w1.heap.size := by have := hb1.size; simp at this; omega
        have m1 := fun p : Later w1 => (va.later (by omega) p).1
        have m2 := fun p : Later w1 => (va.later (by omega) p).2.1
        have m3 := fun p : Later w1 => (va.later (by omega) p).2.2
        have n1 := fun p : Later w1 => (vb.later (by omega) p).1
        have n2 := fun p : Later w1 => (vb.later (by omega) p).2.1
        have n3 := fun p : Later w1 => (vb.later (by omega) p).2.2
        have o1 := fun p : Later w1 => (vc.later (by omega) p).1
        have o2 := fun p : Later w1 => (vc.later (by omega) p).2.1
        have o3 := fun p : Later w1 => (vc.later (by omega) p).2.2
        have VA := Lib.hid va; clear va
        have VB := Lib.hid vb; clear vb
        clear vc hb1
        go_wp2_with fail
        have hm : Try.prog.follows .mixedOrders = true := HM.out
        refine wp_region_later hm (by kernel_rfl) ?_
        repeat (any_goals (first | go_big_quiet_step (first | (go_at_call 16; exact Calls.later (iCmp_any _ _ _ _ _ _ _))) | quiet_step (first | (go_at_call 16; exact Calls.later (iCmp_any _ _ _ _ _ _ _)))))
        refine wpQuiet_nil ?_
        intro wp hw'
        obtain ⟨lp, hlp⟩ := hw'
        have hbp := lp.bel
        rw [← hlp] at hbp
        clear hlp lp m1 m2 m3 n1 n2 n3 o1 o2 o3 hm
        have VA2 := Lib.hid (VA.out.keep hbp (by omega))
        have VB2 := Lib.hid (VB.out.keep hbp (by omega))
        have HB2 := Lib.hid (HB1.out.trans (hbp.mono (by omega)))
        have hz2 : w1.heap.size ≤ wp.heap.size := hbp.size
        obtain ⟨m1, m2, m3⟩ := VA2.out
        obtain ⟨n1, n2, n3⟩ := VB2.out
        clear hbp VA VB
        go_wp2_with fail
        refine (iCmp_any _ _ _ _ _ _ _).mono ?_
        rintro e w2 ⟨rfl, hb2⟩
        have HB3 := Lib.hid (HB2.out.trans (hb2.mono (by omega)))
        obtain ⟨a1, a2, a3⟩ := VA2.out.keep hb2 (by omega)
        obtain ⟨b1, b2, b3⟩ := VB2.out.keep hb2 (by omega)
        have hz3 : wp.heap.size ≤ w2.heap.size := hb2.size
        clear hb2 m1 m2 m3 n1 n2 n3
        go_wp2_with fail
        refine (rLess_any _ _ _ _ _ _ _).mono ?_
        rintro e w3 ⟨rfl, hb3⟩
        go_wp2_with fail
        go_ret
        exact ⟨rfl, HB3.out.trans (hb3.mono (by omega))⟩
      · clear hne
        go_enter Try.func6, Try.ntmps6
        go_wp2_with fail
        refine (HW.out _).mono ?_
        rintro e w1 ⟨rfl, hb1⟩
        have HB1 := Lib.hid (HAL.out.trans (hb1.mono (by simp; omega)))
        obtain ⟨va, vb, vc⟩ := order_cells w w1 r q t r' q' t' r'' q'' t'' hb1
        have hz1 : w.heap.size + 3 ≤ w1.heap.size := by have := hb1.size; simp at this; omega
        have m1 := fun p : Later w1 => (va.later (by omega) p).1
        have m2 := fun p : Later w1 => (va.later (by omega) p).2.1
        have m3 := fun p : Later w1 => (va.later (by omega) p).2.2
        have n1 := fun p : Later w1 => (vb.later (by omega) p).1
        have n2 := fun p : Later w1 => (vb.later (by omega) p).2.1
        have n3 := fun p : Later w1 => (vb.later (by omega) p).2.2
        have o1 := fun p : Later w1 => (vc.later (by omega) p).1
        have o2 := fun p : Later w1 => (vc.later (by omega) p).2.1
        have o3 := fun p : Later w1 => (vc.later (by omega) p).2.2
        have VA := Lib.hid va; clear va
        have VB := Lib.hid vb; clear vb
        clear vc hb1
        go_wp2_with fail
        have hm : Try.prog.follows .mixedOrders = true := HM.out
        refine wp_region_later hm (by kernel_rfl) ?_
        repeat (any_goals (first | go_big_quiet_step (first | (go_at_call 16; exact Calls.later (iCmp_any _ _ _ _ _ _ _))) | quiet_step (first | (go_at_call 16; exact Calls.later (iCmp_any _ _ _ _ _ _ _)))))
        refine wpQuiet_nil ?_
        intro wp hw'
        obtain ⟨lp, hlp⟩ := hw'
        have hbp := lp.bel
        rw [← hlp] at hbp
        clear hlp lp m1 m2 m3 n1 n2 n3 o1 o2 o3 hm
        have VA2 := Lib.hid (VA.out.keep hbp (by omega))
        have VB2 := Lib.hid (VB.out.keep hbp (by omega))
        have HB2 := Lib.hid (HB1.out.trans (hbp.mono (by omega)))
        have hz2 : w1.heap.size ≤ wp.heap.size := hbp.size
        obtain ⟨m1, m2, m3⟩ := VA2.out
        obtain ⟨n1, n2, n3⟩ := VB2.out
        clear hbp VA VB
        go_wp2_with fail
        refine (iCmp_any _ _ _ _ _ _ _).mono ?_
        rintro e w2 ⟨rfl, hb2⟩
        have HB3 := Lib.hid (HB2.out.trans (hb2.mono (by omega)))
        obtain ⟨a1, a2, a3⟩ := VA2.out.keep hb2 (by omega)
        obtain ⟨b1, b2, b3⟩ := VB2.out.keep hb2 (by omega)
        have hz3 : wp.heap.size ≤ w2.heap.size := hb2.size
        clear hb2 m1 m2 m3 n1 n2 n3
        go_wp2_with fail
        refine (rLess_any _ _ _ _ _ _ _).mono ?_
        rintro e w3 ⟨rfl, hb3⟩
        go_wp2_with fail
        go_ret
        exact ⟨rfl, HB3.out.trans (hb3.mono (by omega))⟩
    · have hz := cmpV_ge_trans hl' (show 0 ≤ cmpV ⟨r', q', t'⟩ ⟨r'', q'', t''⟩ by omega)
      have hy' : decide (cmpV ⟨r', q', t'⟩ ⟨r'', q'', t''⟩ < 0) = false := by simpa using hy
      clear hl' hy
      rcases vr_ne hne with e1 | ⟨e1, e2⟩ | ⟨e1, e2, e3⟩
      · clear hne
        go_enter Try.func6, Try.ntmps6
        go_wp2_with fail
        refine (HW.out _).mono ?_
        rintro e w1 ⟨rfl, hb1⟩
        have HB1 := Lib.hid (HAL.out.trans (hb1.mono (by simp; omega)))
        obtain ⟨va, vb, vc⟩ := order_cells w w1 r q t r' q' t' r'' q'' t'' hb1
        have hz1 : w.heap.size + 3 ≤ w1.heap.size := by have := hb1.size; simp at this; omega
        have m1 := fun p : Later w1 => (va.later (by omega) p).1
        have m2 := fun p : Later w1 => (va.later (by omega) p).2.1
        have m3 := fun p : Later w1 => (va.later (by omega) p).2.2
        have n1 := fun p : Later w1 => (vb.later (by omega) p).1
        have n2 := fun p : Later w1 => (vb.later (by omega) p).2.1
        have n3 := fun p : Later w1 => (vb.later (by omega) p).2.2
        have o1 := fun p : Later w1 => (vc.later (by omega) p).1
        have o2 := fun p : Later w1 => (vc.later (by omega) p).2.1
        have o3 := fun p : Later w1 => (vc.later (by omega) p).2.2
        have VA := Lib.hid va; clear va
        have VB := Lib.hid vb; clear vb
        clear vc hb1
        go_wp2_with fail
        have hm : Try.prog.follows .mixedOrders = true := HM.out
        refine wp_region_later hm (by kernel_rfl) ?_
        repeat (any_goals (first | go_big_quiet_step (first | (go_at_call 16; exact Calls.later (iCmp_any _ _ _ _ _ _ _))) | quiet_step (first | (go_at_call 16; exact Calls.later (iCmp_any _ _ _ _ _ _ _)))))
        refine wpQuiet_nil ?_
        intro wp hw'
        obtain ⟨lp, hlp⟩ := hw'
        have hbp := lp.bel
        rw [← hlp] at hbp
        clear hlp lp m1 m2 m3 n1 n2 n3 o1 o2 o3 hm
        have VA2 := Lib.hid (VA.out.keep hbp (by omega))
        have VB2 := Lib.hid (VB.out.keep hbp (by omega))
        have HB2 := Lib.hid (HB1.out.trans (hbp.mono (by omega)))
        have hz2 : w1.heap.size ≤ wp.heap.size := hbp.size
        obtain ⟨m1, m2, m3⟩ := VA2.out
        obtain ⟨n1, n2, n3⟩ := VB2.out
        clear hbp VA VB
        go_wp2_with fail
        refine (iCmp_any _ _ _ _ _ _ _).mono ?_
        rintro e w2 ⟨rfl, hb2⟩
        have HB3 := Lib.hid (HB2.out.trans (hb2.mono (by omega)))
        obtain ⟨a1, a2, a3⟩ := VA2.out.keep hb2 (by omega)
        obtain ⟨b1, b2, b3⟩ := VB2.out.keep hb2 (by omega)
        have hz3 : wp.heap.size ≤ w2.heap.size := hb2.size
        clear hb2 m1 m2 m3 n1 n2 n3
        go_wp2_with fail
        refine (rLess_any _ _ _ _ _ _ _).mono ?_
        rintro e w3 ⟨rfl, hb3⟩
        go_wp2_with fail
        go_ret
        exact ⟨rfl, HB3.out.trans (hb3.mono (by omega))⟩
      · clear hne
        go_enter Try.func6, Try.ntmps6
        go_wp2_with fail
        refine (HW.out _).mono ?_
        rintro e w1 ⟨rfl, hb1⟩
        have HB1 := Lib.hid (HAL.out.trans (hb1.mono (by simp; omega)))
        obtain ⟨va, vb, vc⟩ := order_cells w w1 r q t r' q' t' r'' q'' t'' hb1
        have hz1 : w.heap.size + 3 ≤ w1.heap.size := by have := hb1.size; simp at this; omega
        have m1 := fun p : Later w1 => (va.later (by omega) p).1
        have m2 := fun p : Later w1 => (va.later (by omega) p).2.1
        have m3 := fun p : Later w1 => (va.later (by omega) p).2.2
        have n1 := fun p : Later w1 => (vb.later (by omega) p).1
        have n2 := fun p : Later w1 => (vb.later (by omega) p).2.1
        have n3 := fun p : Later w1 => (vb.later (by omega) p).2.2
        have o1 := fun p : Later w1 => (vc.later (by omega) p).1
        have o2 := fun p : Later w1 => (vc.later (by omega) p).2.1
        have o3 := fun p : Later w1 => (vc.later (by omega) p).2.2
        have VA := Lib.hid va; clear va
        have VB := Lib.hid vb; clear vb
        clear vc hb1
        go_wp2_with fail
        have hm : Try.prog.follows .mixedOrders = true := HM.out
        refine wp_region_later hm (by kernel_rfl) ?_
        repeat (any_goals (first | go_big_quiet_step (first | (go_at_call 16; exact Calls.later (iCmp_any _ _ _ _ _ _ _))) | quiet_step (first | (go_at_call 16; exact Calls.later (iCmp_any _ _ _ _ _ _ _)))))
        refine wpQuiet_nil ?_
        intro wp hw'
        obtain ⟨lp, hlp⟩ := hw'
        have hbp := lp.bel
        rw [← hlp] at hbp
        clear hlp lp m1 m2 m3 n1 n2 n3 o1 o2 o3 hm
        have VA2 := Lib.hid (VA.out.keep hbp (by omega))
        have VB2 := Lib.hid (VB.out.keep hbp (by omega))
        have HB2 := Lib.hid (HB1.out.trans (hbp.mono (by omega)))
        have hz2 : w1.heap.size ≤ wp.heap.size := hbp.size
        obtain ⟨m1, m2, m3⟩ := VA2.out
        obtain ⟨n1, n2, n3⟩ := VB2.out
        clear hbp VA VB
        go_wp2_with fail
        refine (iCmp_any _ _ _ _ _ _ _).mono ?_
        rintro e w2 ⟨rfl, hb2⟩
        have HB3 := Lib.hid (HB2.out.trans (hb2.mono (by omega)))
        obtain ⟨a1, a2, a3⟩ := VA2.out.keep hb2 (by omega)
        obtain ⟨b1, b2, b3⟩ := VB2.out.keep hb2 (by omega)
        have hz3 : wp.heap.size ≤ w2.heap.size := hb2.size
        clear hb2 m1 m2 m3 n1 n2 n3
        go_wp2_with fail
        refine (rLess_any _ _ _ _ _ _ _).mono ?_
        rintro e w3 ⟨rfl, hb3⟩
        go_wp2_with fail
        go_ret
        exact ⟨rfl, HB3.out.trans (hb3.mono (by omega))⟩
      · clear hne
        go_enter Try.func6, Try.ntmps6
        go_wp2_with fail
        refine (HW.out _).mono ?_
        rintro e w1 ⟨rfl, hb1⟩
        have HB1 := Lib.hid (HAL.out.trans (hb1.mono (by simp; omega)))
        obtain ⟨va, vb, vc⟩ := order_cells w w1 r q t r' q' t' r'' q'' t'' hb1
        have hz1 : w.heap.size + 3 ≤ w1.heap.size := by have := hb1.size; simp at this; omega
        have m1 := fun p : Later w1 => (va.later (by omega) p).1
        have m2 := fun p : Later w1 => (va.later (by omega) p).2.1
        have m3 := fun p : Later w1 => (va.later (by omega) p).2.2
        have n1 := fun p : Later w1 => (vb.later (by omega) p).1
        have n2 := fun p : Later w1 => (vb.later (by omega) p).2.1
        have n3 := fun p : Later w1 => (vb.later (by omega) p).2.2
        have o1 := fun p : Later w1 => (vc.later (by omega) p).1
        have o2 := fun p : Later w1 => (vc.later (by omega) p).2.1
        have o3 := fun p : Later w1 => (vc.later (by omega) p).2.2
        have VA := Lib.hid va; clear va
        have VB := Lib.hid vb; clear vb
        clear vc hb1
        go_wp2_with fail
        have hm : Try.prog.follows .mixedOrders = true := HM.out
        refine wp_region_later hm (by kernel_rfl) ?_
        repeat (any_goals (first | go_big_quiet_step (first | (go_at_call 16; exact Calls.later (iCmp_any _ _ _ _ _ _ _))) | quiet_step (first | (go_at_call 16; exact Calls.later (iCmp_any _ _ _ _ _ _ _)))))
        refine wpQuiet_nil ?_
        intro wp hw'
        obtain ⟨lp, hlp⟩ := hw'
        have hbp := lp.bel
        rw [← hlp] at hbp
        clear hlp lp m1 m2 m3 n1 n2 n3 o1 o2 o3 hm
        have VA2 := Lib.hid (VA.out.keep hbp (by omega))
        have VB2 := Lib.hid (VB.out.keep hbp (by omega))
        have HB2 := Lib.hid (HB1.out.trans (hbp.mono (by omega)))
        have hz2 : w1.heap.size ≤ wp.heap.size := hbp.size
        obtain ⟨m1, m2, m3⟩ := VA2.out
        obtain ⟨n1, n2, n3⟩ := VB2.out
        clear hbp VA VB
        go_wp2_with fail
        refine (iCmp_any _ _ _ _ _ _ _).mono ?_
        rintro e w2 ⟨rfl, hb2⟩
        have HB3 := Lib.hid (HB2.out.trans (hb2.mono (by omega)))
        obtain ⟨a1, a2, a3⟩ := VA2.out.keep hb2 (by omega)
        obtain ⟨b1, b2, b3⟩ := VB2.out.keep hb2 (by omega)
        have hz3 : wp.heap.size ≤ w2.heap.size := hb2.size
        clear hb2 m1 m2 m3 n1 n2 n3
        go_wp2_with fail
        refine (rLess_any _ _ _ _ _ _ _).mono ?_
        rintro e w3 ⟨rfl, hb3⟩
        go_wp2_with fail
        go_ret
        exact ⟨rfl, HB3.out.trans (hb3.mono (by omega))⟩
end Go.Proofs.Ytfjaeohfigcciaa
