/- The law ItemTells, walked: it answers true. -/
import Derived.Test.YtfjaeohfigcciaaIAwake
import Derived.Test.YtfjaeohfigcciaaIRefRight
namespace Go.Proofs.Ytfjaeohfigcciaa
open Go.RowKit

set_option maxRecDepth 100000 in
set_option maxHeartbeats 8000000 in
theorem tells_any (v : Value) (zs : List En) (a b : En) (f : Int) (w : World) (h : ESl w w.heap.size v zs) (hl : zs.length ≤ 9223372036854775807) (ha : a.ok) (hf : 0 ≤ f ∧ f ≤ 255) :
    Calls Try.prog 4 #[v, a.agg, b.agg, .int .u8 f] w fun e w' => e = .returned (.bool true) ∧ Below w.heap.size w w' := by
  have hm : Try.prog.follows .mixedOrders = true := by kernel_rfl
  have HM := Lib.hid hm; clear hm
  have HW := Lib.hid iawake_any
  have HH := Lib.hid h
  have HAL := Lib.hid (al2 w (.cells #[.int .u8 a.id, .int .u8 a.rep, .int .u32 a.seq, .int .u32 a.stamp, .int .i64 a.kind, .int .u8 a.cls, .int .u32 a.val] 37) (.cells #[.int .u8 b.id, .int .u8 b.rep, .int .u32 b.seq, .int .u32 b.stamp, .int .i64 b.kind, .int .u8 b.cls, .int .u32 b.val] 37))
  have HNA := Lib.hid ((new_entry w a 37).keep (al1 _ (.cells #[.int .u8 b.id, .int .u8 b.rep, .int .u32 b.seq, .int .u32 b.stamp, .int .i64 b.kind, .int .u8 b.cls, .int .u32 b.val] 37)) (by simp))
  have HNB := Lib.hid (new_entry (w.alloc (.cells #[.int .u8 a.id, .int .u8 a.rep, .int .u32 a.seq, .int .u32 a.stamp, .int .i64 a.kind, .int .u8 a.cls, .int .u32 a.val] 37)) b 37)
  simp only [World.size_alloc] at HNB
  obtain ⟨A, c, rfl, _, _, _⟩ := h
  simp only [En.agg]
  by_cases h300 : 300 < zs.length
  · go_enter Try.func4, Try.ntmps4
    go_wp2_with fail
    refine (HW.out _).mono ?_
    rintro e w1 ⟨rfl, hb1⟩
    have HB1 := Lib.hid (HAL.out.trans (hb1.mono (by simp; omega)))
    clear hb1
    go_wp2_with fail
    go_ret
    exact ⟨rfl, HB1.out⟩
  · have r1 := fun W => iRightVer_any a.rep a.seq a.stamp W
    have r2 := fun W => rRightVer_any a.rep a.seq a.stamp W
    have r3 := fun W => iCmp_any a.rep a.seq a.stamp b.rep b.seq b.stamp W
    have r4 := fun W => rCmp_any a.rep a.seq a.stamp b.rep b.seq b.stamp W
    have r7 := fun W => iFade_any a W
    have r8 := fun W => rFade_any a W
    have n1 := fun W => iIn_any a f W ha hf
    have n2 := fun W => rIn_any a f W ha hf
    have f1 := fun W (h : ESl W W.heap.size (.slice A zs.length c) zs) => iFind_any W _ zs a.id h hl
    have f2 := fun W (h : ESl W W.heap.size (.slice A zs.length c) zs) => rFind_any W _ zs a.id h hl
    have r5 := fun W (h : ESl W W.heap.size (.slice A zs.length c) zs) => iRight_any W _ zs h hl
    have r6 := fun W (h : ESl W W.heap.size (.slice A zs.length c) zs) => rRight_any W _ zs h hl
    generalize rvB ⟨a.rep, a.seq, a.stamp⟩ = x1 at r1 r2
    generalize cmpV ⟨a.rep, a.seq, a.stamp⟩ ⟨b.rep, b.seq, b.stamp⟩ = x2 at r3 r4
    generalize erightB zs = x3 at r5 r6
    generalize fadeE a = x4 at r7 r8
    generalize inB a f = x5 at n1 n2
    generalize findE zs a.id = x6 at f1 f2
    obtain ⟨x6, x7⟩ := x6
    simp only [En.agg] at r7 r8 n1 n2 f1 f2
    have R1 := Lib.hid r1; clear r1
    have R2 := Lib.hid r2; clear r2
    have R3 := Lib.hid r3; clear r3
    have R4 := Lib.hid r4; clear r4
    have R7 := Lib.hid r7; clear r7
    have R8 := Lib.hid r8; clear r8
    have N1 := Lib.hid n1; clear n1
    have N2 := Lib.hid n2; clear n2
    have F1 := Lib.hid f1; clear f1
    have F2 := Lib.hid f2; clear f2
    go_enter Try.func4, Try.ntmps4
    go_wp2_with fail
    refine (HW.out _).mono ?_
    rintro e w1 ⟨rfl, hb1⟩
    have HB1 := Lib.hid (HAL.out.trans (hb1.mono (by simp; omega)))
    have HA1 := Lib.hid (HNA.out.keep hb1 (by simp; omega))
    have HBB1 := Lib.hid (HNB.out.keep hb1 (by simp))
    have hz1 : w.heap.size + 2 ≤ w1.heap.size := by have := hb1.size; simp at this; omega
    have R5 := Lib.hid (fun p : Later w1 => r5 p.now ((HH.out.later HB1.out).later p.bel)); clear r5
    have R6 := Lib.hid (fun p : Later w1 => r6 p.now ((HH.out.later HB1.out).later p.bel)); clear r6
    clear hb1 HAL HNA HNB
    have s1 : w.heap.size < w1.heap.size := by omega
    have s2 : w.heap.size + 1 < w1.heap.size := by omega
    have m0 := fun p : Later w1 => (HA1.out.later s1 p).all0.1
    have m1 := fun p : Later w1 => (HA1.out.later s1 p).all0.2.1
    have m2 := fun p : Later w1 => (HA1.out.later s1 p).all0.2.2.1
    have m3 := fun p : Later w1 => (HA1.out.later s1 p).all0.2.2.2.1
    have m4 := fun p : Later w1 => (HA1.out.later s1 p).all0.2.2.2.2.1
    have m5 := fun p : Later w1 => (HA1.out.later s1 p).all0.2.2.2.2.2.1
    have m6 := fun p : Later w1 => (HA1.out.later s1 p).all0.2.2.2.2.2.2
    have n0 := fun p : Later w1 => (HBB1.out.later s2 p).all0.1
    have n1 := fun p : Later w1 => (HBB1.out.later s2 p).all0.2.1
    have n2 := fun p : Later w1 => (HBB1.out.later s2 p).all0.2.2.1
    have n3 := fun p : Later w1 => (HBB1.out.later s2 p).all0.2.2.2.1
    have n4 := fun p : Later w1 => (HBB1.out.later s2 p).all0.2.2.2.2.1
    have n5 := fun p : Later w1 => (HBB1.out.later s2 p).all0.2.2.2.2.2.1
    have n6 := fun p : Later w1 => (HBB1.out.later s2 p).all0.2.2.2.2.2.2
    go_wp2_with fail
    have hm : Try.prog.follows .mixedOrders = true := HM.out
    refine wp_region_later hm (by kernel_rfl) ?_
    repeat (any_goals (first | go_big_quiet_step (first | (go_at_call 14; exact Calls.later (R1.out _)) | (go_at_call 15; exact Calls.later (R2.out _)) | (go_at_call 16; exact Calls.later (R3.out _)) | (go_at_call 17; exact Calls.later (R4.out _)) | (go_at_call 20; exact Calls.later (R7.out _)) | (go_at_call 21; exact Calls.later (R8.out _)) | (go_at_call 18; exact Calls.later (R5.out _)) | (go_at_call 19; exact Calls.later (R6.out _))) | quiet_step (first | (go_at_call 14; exact Calls.later (R1.out _)) | (go_at_call 15; exact Calls.later (R2.out _)) | (go_at_call 16; exact Calls.later (R3.out _)) | (go_at_call 17; exact Calls.later (R4.out _)) | (go_at_call 20; exact Calls.later (R7.out _)) | (go_at_call 21; exact Calls.later (R8.out _)) | (go_at_call 18; exact Calls.later (R5.out _)) | (go_at_call 19; exact Calls.later (R6.out _)))))
    refine wpQuiet_nil ?_
    intro w2 hw'
    obtain ⟨lp, hlp⟩ := hw'
    have hbp := lp.bel
    rw [← hlp] at hbp
    clear hlp lp hm m0 m1 m2 m3 m4 m5 m6 n0 n1 n2 n3 n4 n5 n6 R1 R2 R3 R4 R5 R6 R7 R8
    have HB2 := Lib.hid (HB1.out.trans (hbp.mono (by omega)))
    have HA2 := Lib.hid (HA1.out.keep hbp s1)
    have hz2 : w1.heap.size ≤ w2.heap.size := hbp.size
    clear hbp HBB1 HA1
    obtain ⟨m0, m1, m2, m3, m4, m5, m6⟩ := HA2.out.all0
    have HF1 := Lib.hid (F1.out w2 (HH.out.later HB2.out)); clear F1
    go_wp2_with fail
    refine (HF1.out).mono ?_
    rintro e w3 ⟨rfl, hb3⟩
    have HB3 := Lib.hid (HB2.out.trans (hb3.mono (by omega)))
    have HA3 := Lib.hid (HA2.out.keep hb3 (by omega))
    have hz3 : w2.heap.size ≤ w3.heap.size := hb3.size
    clear hb3 HF1 HA2 m0 m1 m2 m3 m4 m5 m6
    have HB4 := Lib.hid (HB3.out.alloc HB3.out.size (.cells #[.int .u8 x6.id, .int .u8 x6.rep, .int .u32 x6.seq, .int .u32 x6.stamp, .int .i64 x6.kind, .int .u8 x6.cls, .int .u32 x6.val] 37))
    have HA4 := Lib.hid (HA3.out.keep (al1 w3 (.cells #[.int .u8 x6.id, .int .u8 x6.rep, .int .u32 x6.seq, .int .u32 x6.stamp, .int .i64 x6.kind, .int .u8 x6.cls, .int .u32 x6.val] 37)) (by omega))
    have HX4 := Lib.hid (new_entry w3 x6 37)
    obtain ⟨m0, m1, m2, m3, m4, m5, m6⟩ := HA4.out.all0
    have HF2 := Lib.hid (F2.out (w3.alloc (.cells #[.int .u8 x6.id, .int .u8 x6.rep, .int .u32 x6.seq, .int .u32 x6.stamp, .int .i64 x6.kind, .int .u8 x6.cls, .int .u32 x6.val] 37)) (HH.out.later HB4.out)); clear F2
    have hq3 : w.heap.size < w3.heap.size := by omega
    go_wp2_with fail
    refine (HF2.out).mono ?_
    rintro e w5 ⟨rfl, hb5⟩
    have HB5 := Lib.hid (HB4.out.trans (hb5.mono HB4.out.size))
    have HA5 := Lib.hid (HA4.out.keep hb5 (by simp; omega))
    have HX5 := Lib.hid (HX4.out.keep hb5 (by simp))
    have hz5 : w3.heap.size + 1 ≤ w5.heap.size := by have := hb5.size; simpa using this
    clear hb5 HF2 HA4 HX4 HB4 m0 m1 m2 m3 m4 m5 m6
    have HB6 := Lib.hid (HB5.out.alloc HB5.out.size (.cells #[.int .u8 x6.id, .int .u8 x6.rep, .int .u32 x6.seq, .int .u32 x6.stamp, .int .i64 x6.kind, .int .u8 x6.cls, .int .u32 x6.val] 37))
    have HA6 := Lib.hid (HA5.out.keep (al1 w5 (.cells #[.int .u8 x6.id, .int .u8 x6.rep, .int .u32 x6.seq, .int .u32 x6.stamp, .int .i64 x6.kind, .int .u8 x6.cls, .int .u32 x6.val] 37)) (by omega))
    have HX6 := Lib.hid (HX5.out.keep (al1 w5 (.cells #[.int .u8 x6.id, .int .u8 x6.rep, .int .u32 x6.seq, .int .u32 x6.stamp, .int .i64 x6.kind, .int .u8 x6.cls, .int .u32 x6.val] 37)) (by omega))
    have HY6 := Lib.hid (new_entry w5 x6 37)
    have hs6 : (w5.alloc (.cells #[.int .u8 x6.id, .int .u8 x6.rep, .int .u32 x6.seq, .int .u32 x6.stamp, .int .i64 x6.kind, .int .u8 x6.cls, .int .u32 x6.val] 37)).heap.size = w5.heap.size + 1 := by simp
    go_wp2_with fail
    generalize w5.alloc (.cells #[.int .u8 x6.id, .int .u8 x6.rep, .int .u32 x6.seq, .int .u32 x6.stamp, .int .i64 x6.kind, .int .u8 x6.cls, .int .u32 x6.val] 37) = w6 at HB6 HA6 HX6 HY6 hs6 ⊢
    have k1 : w.heap.size < w6.heap.size := by omega
    have k2 : w3.heap.size < w6.heap.size := by omega
    have k3 : w5.heap.size < w6.heap.size := by omega
    clear hs6
    have m0 := fun p : Later w6 => (HA6.out.later k1 p).all0.1
    have m1 := fun p : Later w6 => (HA6.out.later k1 p).all0.2.1
    have m2 := fun p : Later w6 => (HA6.out.later k1 p).all0.2.2.1
    have m3 := fun p : Later w6 => (HA6.out.later k1 p).all0.2.2.2.1
    have m4 := fun p : Later w6 => (HA6.out.later k1 p).all0.2.2.2.2.1
    have m5 := fun p : Later w6 => (HA6.out.later k1 p).all0.2.2.2.2.2.1
    have m6 := fun p : Later w6 => (HA6.out.later k1 p).all0.2.2.2.2.2.2
    have x0 := fun p : Later w6 => (HX6.out.later k2 p).all0.1
    have x1' := fun p : Later w6 => (HX6.out.later k2 p).all0.2.1
    have x2' := fun p : Later w6 => (HX6.out.later k2 p).all0.2.2.1
    have x3' := fun p : Later w6 => (HX6.out.later k2 p).all0.2.2.2.1
    have x4' := fun p : Later w6 => (HX6.out.later k2 p).all0.2.2.2.2.1
    have x5' := fun p : Later w6 => (HX6.out.later k2 p).all0.2.2.2.2.2.1
    have x6' := fun p : Later w6 => (HX6.out.later k2 p).all0.2.2.2.2.2.2
    have y0 := fun p : Later w6 => (HY6.out.later k3 p).all0.1
    have y1 := fun p : Later w6 => (HY6.out.later k3 p).all0.2.1
    have y2 := fun p : Later w6 => (HY6.out.later k3 p).all0.2.2.1
    have y3 := fun p : Later w6 => (HY6.out.later k3 p).all0.2.2.2.1
    have y4 := fun p : Later w6 => (HY6.out.later k3 p).all0.2.2.2.2.1
    have y5 := fun p : Later w6 => (HY6.out.later k3 p).all0.2.2.2.2.2.1
    have y6 := fun p : Later w6 => (HY6.out.later k3 p).all0.2.2.2.2.2.2
    have hm : Try.prog.follows .mixedOrders = true := HM.out
    refine wp_region_later hm (by kernel_rfl) ?_
    repeat (any_goals (first | go_big_quiet_step (first | (go_at_call 24; exact Calls.later (N1.out _)) | (go_at_call 25; exact Calls.later (N2.out _))) | quiet_step (first | (go_at_call 24; exact Calls.later (N1.out _)) | (go_at_call 25; exact Calls.later (N2.out _)))))
    refine wpQuiet_nil ?_
    intro w7 hw'
    obtain ⟨lp, hlp⟩ := hw'
    have hbp := lp.bel
    rw [← hlp] at hbp
    clear hlp lp hm m0 m1 m2 m3 m4 m5 m6 x0 x1' x2' x3' x4' x5' x6' y0 y1 y2 y3 y4 y5 y6
    go_wp2
    go_ret
    exact ⟨rfl, HB6.out.trans (hbp.mono (by omega))⟩
end Go.Proofs.Ytfjaeohfigcciaa
