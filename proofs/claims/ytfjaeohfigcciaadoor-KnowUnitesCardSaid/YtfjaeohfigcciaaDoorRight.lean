/- The contract of know.Right: a slice of runs is right just where the plain test says so; the call leaves all that was there. -/
import Derived.Test.YtfjaeohfigcciaaDoorSmall
import Derived.Test.YtfjaeohfigcciaaDoorMem
import Derived.Shelf.SlSortCmp.QuietGrown
import Derived.Lib.Hide
namespace Go.Proofs.YtfjaeohfigcciaaDoor
open Go.RowKit Go.Sort

def okAt (zs : List Rn) (i : Nat) : Bool := rrB zs[i]! && (decide (i = 0) || apB zs[i - 1]! zs[i]!)
def rightB (zs : List Rn) : Bool := decide (zs.length ≤ 64) && (List.range zs.length).all (okAt zs)

theorem rightB_true {zs : List Rn} (h : zs.length ≤ 64) (ha : ∀ j, j < zs.length → okAt zs j = true) : rightB zs = true := by
  simp only [rightB, Bool.and_eq_true, decide_eq_true_eq, List.all_eq_true, List.mem_range]
  exact ⟨h, ha⟩
theorem rightB_false {zs : List Rn} {k : Nat} (hk : k < zs.length) (ha : okAt zs k = false) : rightB zs = false := by
  simp only [rightB, Bool.and_eq_false_iff, List.all_eq_false, List.mem_range]
  exact .inr ⟨k, hk, by simp [ha]⟩

theorem rightRun_grown (r lo hi : Int) (w : World) (n : Nat) (os : Array Obj) :
    Calls Tryd.prog 27 #[.agg #[.int .u8 r, .int .u32 lo, .int .u32 hi]] (grow (w.drewN n) os) fun e w' => e = .returned (.bool (rrB ⟨r, lo, hi⟩)) ∧ ∃ p : GrownBy, w' = grow (w.drewN p.n) p.os :=
  Calls.grown_of ((rightRun_any r lo hi _).mono fun _ _ ⟨he, hw⟩ => ⟨he, 0, _, hw.trans (alloc_eq_grow _ _)⟩)
theorem apart_grown (r lo hi r' lo' hi' : Int) (w : World) (n : Nat) (os : Array Obj) (a1 : 0 ≤ hi) (a2 : hi ≤ 4294967295) (b1 : 0 ≤ lo') (b2 : lo' ≤ 4294967295) :
    Calls Tryd.prog 32 #[.agg #[.int .u8 r, .int .u32 lo, .int .u32 hi], .agg #[.int .u8 r', .int .u32 lo', .int .u32 hi']] (grow (w.drewN n) os) fun e w' => e = .returned (.bool (apB ⟨r, lo, hi⟩ ⟨r', lo', hi'⟩)) ∧ ∃ p : GrownBy, w' = grow (w.drewN p.n) p.os :=
  Calls.grown_of ((apart_any r lo hi r' lo' hi' _ a1 a2 b1 b2).mono fun _ _ ⟨he, hw⟩ => ⟨he, 0, _, hw.trans ((alloc_eq_grow _ _).trans ((congrArg (fun u => grow u _) (alloc_eq_grow _ _)).trans (grow_grow _ _ _)))⟩)

theorem getBang_of {zs : List Rn} {k : Nat} {x : Rn} (h : zs[k]? = some x) : zs[k]! = x := by simp [List.getElem!_eq_getElem?_getD, h]

/-- a new block, and what is old, in every world that has grown from it -/
theorem new_run (wr : World) (x : Rn) (n : Nat) (os : Array Obj) : RnAt (grow ((wr.alloc (.cells #[.int .u8 x.r, .int .u32 x.lo, .int .u32 x.hi] 51)).drewN n) os) wr.heap.size 0 x := by
  refine ⟨cell_grown ?_ ?_ n os, cell_grown ?_ ?_ n os, cell_grown ?_ ?_ n os⟩ <;> simp
theorem old_run {B b o : Nat} {x : Rn} (wr : World) (ob : Obj) (n : Nat) (os : Array Obj) (h : RnAt wr b o x) (hb : b < B) (hB : B ≤ wr.heap.size) : RnAt (grow ((wr.alloc ob).drewN n) os) b o x :=
  (h.keep ((Below.refl B wr).alloc hB ob) hb).keep (below_grow (B := B) _ n os (by simp; omega)) hb

set_option maxHeartbeats 2000000 in
theorem Right_any (w : World) (v : Value) (zs : List Rn) (h : Sl w w.heap.size v zs) :
    Calls Tryd.prog 12 #[v] w fun e w' => e = .returned (.bool (rightB zs)) ∧ Below w.heap.size w w' := by
  obtain ⟨A, c, rfl, _, hok, hA⟩ := h
  by_cases h64 : 64 < zs.length
  · have e : rightB zs = false := by simp [rightB]; intro; omega
    rw [e]; clear e
    go_enter Tryd.func12, Tryd.ntmps12
    go_wp2
    go_ret
    exact ⟨rfl, Below.refl _ _⟩
  · have hm : Tryd.prog.follows .mixedOrders = true := by kernel_rfl
    have HA := Lib.hid hA; clear hA
    have HM := Lib.hid hm; clear hm
    have HK := Lib.hid hok; clear hok
    generalize hrb : rightB zs = rb
    have HR := Lib.hid hrb; clear hrb
    go_enter Tryd.func12, Tryd.ntmps12
    go_wp2
    go_loopw [10] (fun i wr => ∃ k : Nat, i = .int .i64 k ∧ k ≤ zs.length ∧ Hid (∀ j, j < k → okAt zs j = true) ∧ Below w.heap.size w wr) (fun i _ => zs.length - (intOf i).toNat)
    case atStart => exact ⟨0, rfl, by omega, Lib.hid (fun j hj => absurd hj (by omega)), Below.refl _ _⟩
    case round =>
      obtain ⟨k, rfl, hk, HO, hb⟩ := hrel
      by_cases hlt : k < zs.length
      · obtain ⟨b, off, rfl, hbw, hc⟩ := HA.out (by intro h; simp [h] at hlt)
        have hxk : zs[k]? = some zs[k] := List.getElem?_eq_getElem hlt
        generalize zs[k] = x at hxk
        have hxB := getBang_of hxk
        obtain ⟨⟨o1, o2⟩, ⟨o3, o4⟩, o5, o6⟩ := HK.out x (List.mem_of_getElem? hxk)
        have hz := hb.size
        have hnew := new_run wr x
        have hal := fun (B : Nat) (hB : B ≤ wr.heap.size) => (Below.refl B wr).alloc hB (.cells #[.int .u8 x.r, .int .u32 x.lo, .int .u32 x.hi] 51)
        have hsz : wr.heap.size ≤ (wr.alloc (.cells #[.int .u8 x.r, .int .u32 x.lo, .int .u32 x.hi] 51)).heap.size := by simp
        have hold := fun (b o : Nat) (y : Rn) (n : Nat) (os : Array Obj) (h : RnAt wr b o y) (hb : b < w.heap.size) => old_run (B := w.heap.size) wr (.cells #[.int .u8 x.r, .int .u32 x.lo, .int .u32 x.hi] 51) n os h hb hz
        obtain ⟨c0, c1, c2⟩ := (hc k x hxk).keep hb hbw
        have HX := Lib.hid hxk; clear hxk
        have HB := Lib.hid hxB; clear hxB
        have HC := Lib.hid hc; clear hc
        have HN := Lib.hid hnew; clear hnew
        have HL := Lib.hid hal; clear hal
        have HD := Lib.hid hold; clear hold
        by_cases hx : rrB x = true
        · have r1 := fun (W : World) n os => rightRun_grown x.r x.lo x.hi W n os
          rw [show rrB ⟨x.r, x.lo, x.hi⟩ = true from hx] at r1
          have HX1 := Lib.hid hx; clear hx
          have R1 := Lib.hid r1; clear r1
          by_cases hk0 : 0 < k
          ·
            obtain ⟨j, rfl⟩ : ∃ j, k = j + 1 := ⟨k - 1, by omega⟩
            have hyk : zs[j]? = some zs[j] := List.getElem?_eq_getElem (by omega)
            generalize zs[j] = y at hyk
            have hyB := getBang_of hyk
            obtain ⟨⟨p1, p2⟩, ⟨p3, p4⟩, p5, p6⟩ := HK.out y (List.mem_of_getElem? hyk)
            have hyat := (HC.out j y hyk).keep hb hbw
            have HY := Lib.hid hyk; clear hyk
            have HYB := Lib.hid hyB; clear hyB
            have HYA := Lib.hid hyat; clear hyat
            have r2 := fun (W : World) n os => apart_grown y.r y.lo y.hi x.r x.lo x.hi W n os p5 p6 o3 o4
            rw [show apB ⟨y.r, y.lo, y.hi⟩ ⟨x.r, x.lo, x.hi⟩ = apB y x from rfl] at r2
            by_cases hp : apB y x = true
            ·
              rw [hp] at r2
              have HP := Lib.hid hp; clear hp
              have R2 := Lib.hid r2; clear r2
              go_wp2_with fail
              generalize hwq : wr.alloc (.cells #[.int .u8 x.r, .int .u32 x.lo, .int .u32 x.hi] 51) = wq at HN HL HD hsz ⊢
              clear hwq
              have m0 := fun n os => (HN.out n os).1
              have m1 := fun n os => (HN.out n os).2.1
              have m2 := fun n os => (HN.out n os).2.2
              have hm : Tryd.prog.follows .mixedOrders = true := HM.out
              have y0 := fun n os => (HD.out _ _ _ n os HYA.out hbw).1
              have y1 := fun n os => (HD.out _ _ _ n os HYA.out hbw).2.1
              have y2 := fun n os => (HD.out _ _ _ n os HYA.out hbw).2.2
              have i2 : j < zs.length := by omega
              have i1 : IntKind.i64.wrap (j : Int) = (j : Int) := IntWalk.i64_in _ (by omega)
              refine wp_region_quiet_grown hm (by kernel_rfl) ?_
              repeat (any_goals (first | go_big_quiet_step (first | (go_at_call 27; exact R1.out _ _ _) | (go_at_call 32; exact R2.out _ _ _)) | quiet_step (first | (go_at_call 27; exact R1.out _ _ _) | (go_at_call 32; exact R2.out _ _ _))))
              refine wpQuiet_nil ?_
              intro _ hw'
              obtain ⟨⟨nq, osq⟩, hw''⟩ := hw'
              subst hw''
              clear i1
              have hbn : Below w.heap.size w (grow (wq.drewN nq) osq) := hb.trans ((HL.out _ hz).trans (below_grow wq nq osq (by omega)))
              have HBN := Lib.hid hbn; clear hbn
              clear HL HD HN
              go_wp2
              go_roundw
              case rel =>
                refine ⟨j + 1 + 1, by go_num, by omega, Lib.hid (fun i hi => ?_), HBN.out⟩
                rcases Nat.lt_or_ge i (j + 1) with h | h
                · exact HO.out i h
                · obtain rfl : i = j + 1 := by omega
                  simp [okAt, HB.out, HYB.out, HX1.out, HP.out]
              case measure => simp [intOf]; omega

            ·
              have hp : apB y x = false := by simpa using hp
              rw [hp] at r2
              have HP := Lib.hid hp; clear hp
              have R2 := Lib.hid r2; clear r2
              go_wp2_with fail
              generalize hwq : wr.alloc (.cells #[.int .u8 x.r, .int .u32 x.lo, .int .u32 x.hi] 51) = wq at HN HL HD hsz ⊢
              clear hwq
              have m0 := fun n os => (HN.out n os).1
              have m1 := fun n os => (HN.out n os).2.1
              have m2 := fun n os => (HN.out n os).2.2
              have hm : Tryd.prog.follows .mixedOrders = true := HM.out
              have y0 := fun n os => (HD.out _ _ _ n os HYA.out hbw).1
              have y1 := fun n os => (HD.out _ _ _ n os HYA.out hbw).2.1
              have y2 := fun n os => (HD.out _ _ _ n os HYA.out hbw).2.2
              have i2 : j < zs.length := by omega
              have i1 : IntKind.i64.wrap (j : Int) = (j : Int) := IntWalk.i64_in _ (by omega)
              refine wp_region_quiet_grown hm (by kernel_rfl) ?_
              repeat (any_goals (first | go_big_quiet_step (first | (go_at_call 27; exact R1.out _ _ _) | (go_at_call 32; exact R2.out _ _ _)) | quiet_step (first | (go_at_call 27; exact R1.out _ _ _) | (go_at_call 32; exact R2.out _ _ _))))
              refine wpQuiet_nil ?_
              intro _ hw'
              obtain ⟨⟨nq, osq⟩, hw''⟩ := hw'
              subst hw''
              clear i1
              have hbn : Below w.heap.size w (grow (wq.drewN nq) osq) := hb.trans ((HL.out _ hz).trans (below_grow wq nq osq (by omega)))
              have HBN := Lib.hid hbn; clear hbn
              clear HL HD HN
              go_wp2
              go_ret
              refine ⟨?_, HBN.out⟩
              rw [← HR.out, rightB_false (k := j + 1) hlt (by simp [okAt, HB.out, HYB.out, HX1.out, HP.out])]
              rfl

          · have hk1 : decide (0 < k) = false := by simp; omega
            have HK0 := Lib.hid hk0; clear hk0
            go_wp2_with fail
            generalize hwq : wr.alloc (.cells #[.int .u8 x.r, .int .u32 x.lo, .int .u32 x.hi] 51) = wq at HN HL HD hsz ⊢
            clear hwq
            have m0 := fun n os => (HN.out n os).1
            have m1 := fun n os => (HN.out n os).2.1
            have m2 := fun n os => (HN.out n os).2.2
            have hm : Tryd.prog.follows .mixedOrders = true := HM.out
            refine wp_region_quiet_grown hm (by kernel_rfl) ?_
            repeat (any_goals (first | go_big_quiet_step (first | (go_at_call 27; exact R1.out _ _ _)) | quiet_step (first | (go_at_call 27; exact R1.out _ _ _))))
            refine wpQuiet_nil ?_
            intro _ hw'
            obtain ⟨⟨nq, osq⟩, hw''⟩ := hw'
            subst hw''
            have hbn : Below w.heap.size w (grow (wq.drewN nq) osq) := hb.trans ((HL.out _ hz).trans (below_grow wq nq osq (by omega)))
            have HBN := Lib.hid hbn; clear hbn
            clear HL HD HN
            go_wp2
            go_roundw
            case rel =>
              refine ⟨k + 1, by go_num, by omega, Lib.hid (fun i hi => ?_), HBN.out⟩
              rcases Nat.lt_or_ge i (k) with h | h
              · exact HO.out i h
              · obtain rfl : i = k := by omega
                have := HK0.out
                simp [okAt, HB.out, HX1.out]
                omega
            case measure => simp [intOf]; omega
        · have hx : rrB x = false := by simpa using hx
          have r1 := fun (W : World) n os => rightRun_grown x.r x.lo x.hi W n os
          rw [show rrB ⟨x.r, x.lo, x.hi⟩ = false from hx] at r1
          have HX1 := Lib.hid hx; clear hx
          have R1 := Lib.hid r1; clear r1
          go_wp2_with fail
          generalize hwq : wr.alloc (.cells #[.int .u8 x.r, .int .u32 x.lo, .int .u32 x.hi] 51) = wq at HN HL HD hsz ⊢
          clear hwq
          have m0 := fun n os => (HN.out n os).1
          have m1 := fun n os => (HN.out n os).2.1
          have m2 := fun n os => (HN.out n os).2.2
          have hm : Tryd.prog.follows .mixedOrders = true := HM.out
          refine wp_region_quiet_grown hm (by kernel_rfl) ?_
          repeat (any_goals (first | go_big_quiet_step (first | (go_at_call 27; exact R1.out _ _ _)) | quiet_step (first | (go_at_call 27; exact R1.out _ _ _))))
          refine wpQuiet_nil ?_
          intro _ hw'
          obtain ⟨⟨nq, osq⟩, hw''⟩ := hw'
          subst hw''
          have hbn : Below w.heap.size w (grow (wq.drewN nq) osq) := hb.trans ((HL.out _ hz).trans (below_grow wq nq osq (by omega)))
          have HBN := Lib.hid hbn; clear hbn
          clear HL HD HN
          go_wp2
          go_ret
          refine ⟨?_, HBN.out⟩
          rw [← HR.out, rightB_false (k := k) hlt (by simp [okAt, HB.out, HX1.out])]
          rfl

      · go_wp2
        go_ret
        refine ⟨?_, hb⟩
        rw [← HR.out, rightB_true (by omega) (fun j hj => HO.out j (by omega))]
        rfl

end Go.Proofs.YtfjaeohfigcciaaDoor

