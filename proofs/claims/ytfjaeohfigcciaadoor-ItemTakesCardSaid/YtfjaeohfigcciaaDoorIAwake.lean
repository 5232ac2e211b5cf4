/- The contract of the law's awake: it answers true. -/
import Derived.Test.YtfjaeohfigcciaaDoorIFind
namespace Go.Proofs.YtfjaeohfigcciaaDoor
open Go.RowKit

def awA : En := ⟨3, 0, 1, 2, 1, 1, 9⟩
def awB : En := ⟨3, 1, 1, 2, 3, 0, 0⟩
theorem aw1 : takeR [awA] awB = some [awB] := by decide +kernel
theorem aw2 : takeR [awB] awA = some [awB] := by decide +kernel
theorem awA_ok : awA.ok := ⟨by decide, ⟨by decide, by decide, by decide⟩, by decide, by decide, by decide⟩
theorem awB_ok : awB.ok := ⟨by decide, ⟨by decide, by decide, by decide⟩, by decide, by decide, by decide⟩

def awIn (f : Int) : Bool := inB awA f

/-- a slice of one entry, just built -/
theorem one_esl (w : World) (x : En) (hx : x.ok) : ESl (w.alloc (.cells #[.int .u8 x.id, .int .u8 x.rep, .int .u32 x.seq, .int .u32 x.stamp, .int .i64 x.kind, .int .u8 x.cls, .int .u32 x.val] 42)) (w.heap.size + 1) (.slice (some ⟨w.heap.size, 0, none⟩) 1 1) [x] := by
  refine ⟨some ⟨w.heap.size, 0, none⟩, 1, rfl, (fun h => by simp at h), by simpa using hx, fun _ => ⟨w.heap.size, 0, rfl, by omega, fun j y hj => ?_⟩⟩
  match j, hj with
  | 0, hj => simp at hj; subst hj; exact new_entry w x _
  | j + 1, hj => simp at hj

theorem run_field_kind (a b c d e f g : Value) (w : World) : (Instr.field 42 (.agg #[a, b, c, d, e, f, g]) 2).run Tryd.prog w = .ok e w := by
  have u := run_underlying Tryd.underlying42
  have h1 := Tryd.isAgg3
  have h2 := Tryd.sizeOf3
  unfold Instr.field
  simp [go_sem, u, h1, h2, asAgg]

set_option maxRecDepth 100000 in
set_option maxHeartbeats 4000000 in
theorem iawake_any (w : World) : Calls Tryd.prog 20 #[] w fun e w' => e = .returned (.bool true) ∧ Below w.heap.size w w' := by
  have hm : Tryd.prog.follows .mixedOrders = true := by kernel_rfl
  have HM := Lib.hid hm; clear hm
  have t1 := fun (W : World) (g : Nat) (h : ESl W W.heap.size (.slice (some ⟨g, 0, none⟩) 1 1) [awA]) => Take_any _ [awA] awB W h (by simp) awB_ok
  have t2 := fun (W : World) (g : Nat) (h : ESl W W.heap.size (.slice (some ⟨g, 0, none⟩) 1 1) [awB]) => Take_any _ [awB] awA W h (by simp) awA_ok
  rw [aw1] at t1
  rw [aw2] at t2
  simp only [En.agg, awA, awB] at t1 t2
  have HT1 := Lib.hid t1; clear t1
  have HT2 := Lib.hid t2; clear t2
  have i1 := fun W (f : Int) (hf : 0 ≤ f ∧ f ≤ 255) => iIn_any awA f W awA_ok hf
  have q2 : awIn 2 = true := by decide +kernel
  have q1 : awIn 1 = false := by decide +kernel
  have fd := fun W => iFade_any awA W
  simp only [show ∀ f, inB awA f = awIn f from fun _ => rfl] at i1
  rw [show fadeE awA = ⟨3, 0, 1, 2, 2, 1, 0⟩ by decide +kernel] at fd
  simp only [En.agg, awA] at i1 fd
  have I1 := Lib.hid i1; clear i1
  have FD := Lib.hid fd; clear fd
  have HA := Lib.hid (new_entry w awA 42)
  have HAB := Lib.hid (new_entry (w.alloc (.cells #[.int .u8 3, .int .u8 0, .int .u32 1, .int .u32 2, .int .i64 1, .int .u8 1, .int .u32 9] 42)) awB 42)
  have HAL := Lib.hid (al2 w (.cells #[.int .u8 3, .int .u8 0, .int .u32 1, .int .u32 2, .int .i64 1, .int .u8 1, .int .u32 9] 42) (.cells #[.int .u8 3, .int .u8 1, .int .u32 1, .int .u32 2, .int .i64 3, .int .u8 0, .int .u32 0] 42))
  have HO1 := Lib.hid (one_esl ((w.alloc (.cells #[.int .u8 3, .int .u8 0, .int .u32 1, .int .u32 2, .int .i64 1, .int .u8 1, .int .u32 9] 42)).alloc (.cells #[.int .u8 3, .int .u8 1, .int .u32 1, .int .u32 2, .int .i64 3, .int .u8 0, .int .u32 0] 42)) awA awA_ok)
  simp only [awA, awB, World.size_alloc] at HA HAB HO1
  go_enter Tryd.func20, Tryd.ntmps20
  go_wp2_with fail
  refine (HT1.out _ _ ((HO1.out).more (by simp))).mono ?_
  rintro e w1 ⟨v1, rfl, hs1, hb1⟩
  have HS1 := Lib.hid hs1
  have HB1 := Lib.hid hb1; clear hb1
  obtain ⟨A1, k1, rfl, _, _, hA1⟩ := hs1
  obtain ⟨b1, o1, rfl, hbw1, hc1⟩ := hA1 (by simp)
  have HC1 := Lib.hid (hc1 0 _ rfl)
  clear hc1 hA1
  have hz1 : w.heap.size + 3 ≤ w1.heap.size := by have := HB1.out.size; simp at this; omega
  have HWA := Lib.hid (((HA.out.keep (al1 _ (.cells #[.int .u8 3, .int .u8 1, .int .u32 1, .int .u32 2, .int .i64 3, .int .u8 0, .int .u32 0] 42)) (by simp)).keep (al1 _ (.cells #[.int .u8 3, .int .u8 0, .int .u32 1, .int .u32 2, .int .i64 1, .int .u8 1, .int .u32 9] 42)) (by first | (simp; done) | (simp; omega))).keep HB1.out (by first | (simp; done) | (simp; omega)))
  have HWB := Lib.hid ((HAB.out.keep (al1 _ (.cells #[.int .u8 3, .int .u8 0, .int .u32 1, .int .u32 2, .int .i64 1, .int .u8 1, .int .u32 9] 42)) (by simp)).keep HB1.out (by first | (simp; done) | (simp; omega)))
  have HBL1 := Lib.hid ((HAL.out.alloc (by first | (simp; done) | (simp; omega)) (.cells #[.int .u8 3, .int .u8 0, .int .u32 1, .int .u32 2, .int .i64 1, .int .u8 1, .int .u32 9] 42)).trans (HB1.out.mono (by first | (simp; done) | (simp; omega))))
  clear HA HAB HAL HO1 HB1 HT1
  obtain ⟨a0, a1, a2, a3, a4, a5, a6⟩ := HWA.out.all0
  obtain ⟨b0, b1', b2, b3, b4, b5, b6⟩ := HWB.out.all0
  have HO2 := Lib.hid (one_esl w1 awB awB_ok)
  simp only [awB] at HO2
  have HBL2 := Lib.hid (al1 w1 (.cells #[.int .u8 3, .int .u8 1, .int .u32 1, .int .u32 2, .int .i64 3, .int .u8 0, .int .u32 0] 42))
  have hl1 : w.heap.size < w1.heap.size := by omega
  have hl2 : w.heap.size + 1 < w1.heap.size := by omega
  go_wp2_with fail
  refine (HT2.out _ _ ((HO2.out).more (by simp))).mono ?_
  rintro e w2 ⟨v2, rfl, hs2, hb2⟩
  have HB2 := Lib.hid (HBL2.out.trans (hb2.mono (by simp))); clear hb2
  obtain ⟨A2, k2, rfl, _, _, hA2⟩ := hs2
  obtain ⟨g2, o2, rfl, hbw2, hc2⟩ := hA2 (by simp)
  have HC2 := Lib.hid (hc2 0 _ rfl)
  clear hc2 hA2 a0 a1 a2 a3 a4 a5 a6 b0 b1' b2 b3 b4 b5 b6 HBL2 HO2 HT2
  have hz2 : w1.heap.size ≤ w2.heap.size := HB2.out.size
  have HWA2 := Lib.hid (HWA.out.keep HB2.out hl1)
  have HWB2 := Lib.hid (HWB.out.keep HB2.out hl2)
  have HC1' := Lib.hid (HC1.out.keep HB2.out hbw1)
  have HBL := Lib.hid (HBL1.out.trans (HB2.out.mono (by omega)))
  clear HWA HWB HC1 HB2 HBL1 HS1
  rw [Nat.zero_mul, Nat.add_zero] at HC1' HC2
  have l1 : w.heap.size < w2.heap.size := by omega
  have l2 : w.heap.size + 1 < w2.heap.size := by omega
  have l3 : b1 < w2.heap.size := by omega
  have a0 := fun p : Later w2 => (HWA2.out.later l1 p).all0.1
  have a1 := fun p : Later w2 => (HWA2.out.later l1 p).all0.2.1
  have a2 := fun p : Later w2 => (HWA2.out.later l1 p).all0.2.2.1
  have a3 := fun p : Later w2 => (HWA2.out.later l1 p).all0.2.2.2.1
  have a4 := fun p : Later w2 => (HWA2.out.later l1 p).all0.2.2.2.2.1
  have a5 := fun p : Later w2 => (HWA2.out.later l1 p).all0.2.2.2.2.2.1
  have a6 := fun p : Later w2 => (HWA2.out.later l1 p).all0.2.2.2.2.2.2
  have b0 := fun p : Later w2 => (HWB2.out.later l2 p).all0.1
  have b1' := fun p : Later w2 => (HWB2.out.later l2 p).all0.2.1
  have b2 := fun p : Later w2 => (HWB2.out.later l2 p).all0.2.2.1
  have b3 := fun p : Later w2 => (HWB2.out.later l2 p).all0.2.2.2.1
  have b4 := fun p : Later w2 => (HWB2.out.later l2 p).all0.2.2.2.2.1
  have b5 := fun p : Later w2 => (HWB2.out.later l2 p).all0.2.2.2.2.2.1
  have b6 := fun p : Later w2 => (HWB2.out.later l2 p).all0.2.2.2.2.2.2
  have c0 := fun p : Later w2 => (HC1'.out.later l3 p).all.1
  have c1 := fun p : Later w2 => (HC1'.out.later l3 p).all.2.1
  have c2 := fun p : Later w2 => (HC1'.out.later l3 p).all.2.2.1
  have c3 := fun p : Later w2 => (HC1'.out.later l3 p).all.2.2.2.1
  have c4 := fun p : Later w2 => (HC1'.out.later l3 p).all.2.2.2.2.1
  have c5 := fun p : Later w2 => (HC1'.out.later l3 p).all.2.2.2.2.2.1
  have c6 := fun p : Later w2 => (HC1'.out.later l3 p).all.2.2.2.2.2.2
  have d0 := fun p : Later w2 => (HC2.out.later hbw2 p).all.1
  have d1 := fun p : Later w2 => (HC2.out.later hbw2 p).all.2.1
  have d2 := fun p : Later w2 => (HC2.out.later hbw2 p).all.2.2.1
  have d3 := fun p : Later w2 => (HC2.out.later hbw2 p).all.2.2.2.1
  have d4 := fun p : Later w2 => (HC2.out.later hbw2 p).all.2.2.2.2.1
  have d5 := fun p : Later w2 => (HC2.out.later hbw2 p).all.2.2.2.2.2.1
  have d6 := fun p : Later w2 => (HC2.out.later hbw2 p).all.2.2.2.2.2.2
  simp only [awA, awB, World.size_alloc] at a0 a1 a2 a3 a4 a5 a6 b0 b1' b2 b3 b4 b5 b6 c0 c1 c2 c3 c4 c5 c6 d0 d1 d2 d3 d4 d5 d6
  go_wp2_with fail
  have fk := run_field_kind (.int .u8 3) (.int .u8 0) (.int .u32 1) (.int .u32 2) (.int .i64 2) (.int .u8 1) (.int .u32 0)
  have hm : Tryd.prog.follows .mixedOrders = true := HM.out
  refine wp_region_later hm (by kernel_rfl) ?_
  repeat (any_goals (first | go_big_quiet_step (first | (go_at_call 38; exact Calls.later (I1.out _ _ (by decide))) | (go_at_call 39; exact Calls.later (FD.out _))) | quiet_step (first | (go_at_call 38; exact Calls.later (I1.out _ _ (by decide))) | (go_at_call 39; exact Calls.later (FD.out _)))))
  refine wpQuiet_nil ?_
  intro wp hw'
  obtain ⟨lp, hlp⟩ := hw'
  have hbp := lp.bel
  rw [← hlp] at hbp
  clear hlp lp a0 a1 a2 a3 a4 a5 a6 b0 b1' b2 b3 b4 b5 b6 c0 c1 c2 c3 c4 c5 c6 d0 d1 d2 d3 d4 d5 d6
  go_wp2
  go_ret
  exact ⟨rfl, HBL.out.trans (hbp.mono (by omega))⟩
end Go.Proofs.YtfjaeohfigcciaaDoor
