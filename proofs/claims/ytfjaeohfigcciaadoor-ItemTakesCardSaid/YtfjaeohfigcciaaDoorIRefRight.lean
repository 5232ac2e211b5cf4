/- The contract of the reference's Right. -/
import Derived.Test.YtfjaeohfigcciaaDoorIRight
namespace Go.Proofs.YtfjaeohfigcciaaDoor
open Go.RowKit

set_option maxHeartbeats 2000000 in
theorem rRight_any (w : World) (v : Value) (zs : List En) (h : ESl w w.heap.size v zs) (hl : zs.length ≤ 9223372036854775807) :
    Calls Tryd.prog 22 #[v] w fun e w' => e = .returned (.bool (erightB zs)) ∧ Below w.heap.size w w' := by
  obtain ⟨A, c, rfl, _, hok, hA⟩ := h
  have hm : Tryd.prog.follows .mixedOrders = true := by kernel_rfl
  have HA := Lib.hid hA; clear hA
  have HM := Lib.hid hm; clear hm
  have HK := Lib.hid hok; clear hok
  generalize hrb : erightB zs = rb
  have HR := Lib.hid hrb; clear hrb
  go_enter Tryd.func22, Tryd.ntmps22
  go_wp2
  go_loopw [3] (fun i wr => ∃ k : Nat, i = .int .i64 k ∧ k ≤ zs.length ∧ Hid (∀ j, j < k → eokAt zs j = true) ∧ Below w.heap.size w wr) (fun i _ => zs.length - (intOf i).toNat)
  case atStart => exact ⟨0, rfl, by omega, Lib.hid (fun j hj => absurd hj (by omega)), Below.refl _ _⟩
  case round =>
    obtain ⟨k, rfl, hk, HO, hb⟩ := hrel
    by_cases hlt : k < zs.length
    · obtain ⟨b, off, rfl, hbw, hc⟩ := HA.out (by intro h; simp [h] at hlt)
      have hxk : zs[k]? = some zs[k] := List.getElem?_eq_getElem hlt
      generalize zs[k] = x at hxk
      have hxB := egetBang_of hxk
      have hxo := HK.out x (List.mem_of_getElem? hxk)
      have hz := hb.size
      have HXA := Lib.hid ((hc k x hxk).keep hb hbw)
      have HX := Lib.hid hxk; clear hxk
      have HXO := Lib.hid hxo; clear hxo
      have HB := Lib.hid hxB; clear hxB
      have HC := Lib.hid hc; clear hc
      have HBB := Lib.hid hb; clear hb
      have hbr : b < wr.heap.size := by omega
      by_cases hx : reB x = true
      · have r1 := fun (W : World) => rRightEntry_any x W HXO.out
        rw [hx] at r1
        simp only [En.agg] at r1
        have HX1 := Lib.hid hx; clear hx
        have R1 := Lib.hid r1; clear r1
        by_cases hk0 : 0 < k
        · obtain ⟨j, rfl⟩ : ∃ j, k = j + 1 := ⟨k - 1, by omega⟩
          have hyk : zs[j]? = some zs[j] := List.getElem?_eq_getElem (by omega)
          generalize zs[j] = y at hyk
          have hyB := egetBang_of hyk
          have HYA := Lib.hid ((HC.out j y hyk).keep HBB.out hbw)
          have HY := Lib.hid hyk; clear hyk
          have HYB := Lib.hid hyB; clear hyB
          obtain ⟨q, hq⟩ : ∃ q, q = decide (x.id ≤ y.id) := ⟨_, rfl⟩
          have HQ := Lib.hid hq
          cases q
          · have hp : decide (x.id ≤ y.id) = false := hq.symm
            clear hq
            go_wp2_with fail
            have m0 := fun p : Later wr => (HXA.out.later hbr p).all.1
            have m1 := fun p : Later wr => (HXA.out.later hbr p).all.2.1
            have m2 := fun p : Later wr => (HXA.out.later hbr p).all.2.2.1
            have m3 := fun p : Later wr => (HXA.out.later hbr p).all.2.2.2.1
            have m4 := fun p : Later wr => (HXA.out.later hbr p).all.2.2.2.2.1
            have m5 := fun p : Later wr => (HXA.out.later hbr p).all.2.2.2.2.2.1
            have m6 := fun p : Later wr => (HXA.out.later hbr p).all.2.2.2.2.2.2
            have y0 := fun p : Later wr => (HYA.out.later hbr p).all.1
            have hm : Tryd.prog.follows .mixedOrders = true := HM.out
            have i2 : j < zs.length := by omega
            have i1 : IntKind.i64.wrap (j : Int) = (j : Int) := IntWalk.i64_in _ (by omega)
            refine wp_region_later hm (by kernel_rfl) ?_
            repeat (any_goals (first | go_big_quiet_step (first | (go_at_call 23; exact Calls.later (R1.out _))) | quiet_step (first | (go_at_call 23; exact Calls.later (R1.out _)))))
            refine wpQuiet_nil ?_
            intro wp hw'
            obtain ⟨lp, hlp⟩ := hw'
            have hbp := lp.bel
            rw [← hlp] at hbp
            clear hlp lp
            clear i1
            have HBN := Lib.hid (HBB.out.trans (hbp.mono hz))
            clear m0 m1 m2 m3 m4 m5 m6 y0 hbp
            go_wp2
            go_roundw
            case rel =>
              refine ⟨j + 1 + 1, by go_num, by omega, Lib.hid (fun i hi => ?_), HBN.out⟩
              rcases Nat.lt_or_ge i (j + 1) with h | h
              · exact HO.out i h
              · obtain rfl : i = j + 1 := by omega
                have hq := HQ.out
                simp at hq
                simp [eokAt, HB.out, HYB.out, HX1.out, hq]
            case measure => simp [intOf]; omega
          · have hp : decide (x.id ≤ y.id) = true := hq.symm
            clear hq
            go_wp2_with fail
            have m0 := fun p : Later wr => (HXA.out.later hbr p).all.1
            have m1 := fun p : Later wr => (HXA.out.later hbr p).all.2.1
            have m2 := fun p : Later wr => (HXA.out.later hbr p).all.2.2.1
            have m3 := fun p : Later wr => (HXA.out.later hbr p).all.2.2.2.1
            have m4 := fun p : Later wr => (HXA.out.later hbr p).all.2.2.2.2.1
            have m5 := fun p : Later wr => (HXA.out.later hbr p).all.2.2.2.2.2.1
            have m6 := fun p : Later wr => (HXA.out.later hbr p).all.2.2.2.2.2.2
            have y0 := fun p : Later wr => (HYA.out.later hbr p).all.1
            have hm : Tryd.prog.follows .mixedOrders = true := HM.out
            have i2 : j < zs.length := by omega
            have i1 : IntKind.i64.wrap (j : Int) = (j : Int) := IntWalk.i64_in _ (by omega)
            refine wp_region_later hm (by kernel_rfl) ?_
            repeat (any_goals (first | go_big_quiet_step (first | (go_at_call 23; exact Calls.later (R1.out _))) | quiet_step (first | (go_at_call 23; exact Calls.later (R1.out _)))))
            refine wpQuiet_nil ?_
            intro wp hw'
            obtain ⟨lp, hlp⟩ := hw'
            have hbp := lp.bel
            rw [← hlp] at hbp
            clear hlp lp
            clear i1
            have HBN := Lib.hid (HBB.out.trans (hbp.mono hz))
            clear m0 m1 m2 m3 m4 m5 m6 y0 hbp
            go_wp2
            go_ret
            refine ⟨?_, HBN.out⟩
            have hq := HQ.out
            simp at hq
            rw [← HR.out, erightB_false (k := j + 1) hlt (by simp [eokAt, HB.out, HYB.out]; omega)]
            rfl
        · have hk1 : decide (0 < k) = false := by simp; omega
          have HK0 := Lib.hid hk0; clear hk0
          go_wp2_with fail
          have m0 := fun p : Later wr => (HXA.out.later hbr p).all.1
          have m1 := fun p : Later wr => (HXA.out.later hbr p).all.2.1
          have m2 := fun p : Later wr => (HXA.out.later hbr p).all.2.2.1
          have m3 := fun p : Later wr => (HXA.out.later hbr p).all.2.2.2.1
          have m4 := fun p : Later wr => (HXA.out.later hbr p).all.2.2.2.2.1
          have m5 := fun p : Later wr => (HXA.out.later hbr p).all.2.2.2.2.2.1
          have m6 := fun p : Later wr => (HXA.out.later hbr p).all.2.2.2.2.2.2
          have hm : Tryd.prog.follows .mixedOrders = true := HM.out
          refine wp_region_later hm (by kernel_rfl) ?_
          repeat (any_goals (first | go_big_quiet_step (first | (go_at_call 23; exact Calls.later (R1.out _))) | quiet_step (first | (go_at_call 23; exact Calls.later (R1.out _)))))
          refine wpQuiet_nil ?_
          intro wp hw'
          obtain ⟨lp, hlp⟩ := hw'
          have hbp := lp.bel
          rw [← hlp] at hbp
          clear hlp lp
          have HBN := Lib.hid (HBB.out.trans (hbp.mono hz))
          clear m0 m1 m2 m3 m4 m5 m6 hbp
          go_wp2
          go_roundw
          case rel =>
            refine ⟨k + 1, by go_num, by omega, Lib.hid (fun i hi => ?_), HBN.out⟩
            rcases Nat.lt_or_ge i k with h | h
            · exact HO.out i h
            · obtain rfl : i = k := by omega
              have := HK0.out
              simp [eokAt, HB.out, HX1.out]
              omega
          case measure => simp [intOf]; omega
      · have hx : reB x = false := by simpa using hx
        have r1 := fun (W : World) => rRightEntry_any x W HXO.out
        rw [hx] at r1
        simp only [En.agg] at r1
        have HX1 := Lib.hid hx; clear hx
        have R1 := Lib.hid r1; clear r1
        go_wp2_with fail
        have m0 := fun p : Later wr => (HXA.out.later hbr p).all.1
        have m1 := fun p : Later wr => (HXA.out.later hbr p).all.2.1
        have m2 := fun p : Later wr => (HXA.out.later hbr p).all.2.2.1
        have m3 := fun p : Later wr => (HXA.out.later hbr p).all.2.2.2.1
        have m4 := fun p : Later wr => (HXA.out.later hbr p).all.2.2.2.2.1
        have m5 := fun p : Later wr => (HXA.out.later hbr p).all.2.2.2.2.2.1
        have m6 := fun p : Later wr => (HXA.out.later hbr p).all.2.2.2.2.2.2
        have hm : Tryd.prog.follows .mixedOrders = true := HM.out
        refine wp_region_later hm (by kernel_rfl) ?_
        repeat (any_goals (first | go_big_quiet_step (first | (go_at_call 23; exact Calls.later (R1.out _))) | quiet_step (first | (go_at_call 23; exact Calls.later (R1.out _)))))
        refine wpQuiet_nil ?_
        intro wp hw'
        obtain ⟨lp, hlp⟩ := hw'
        have hbp := lp.bel
        rw [← hlp] at hbp
        clear hlp lp
        have HBN := Lib.hid (HBB.out.trans (hbp.mono hz))
        clear m0 m1 m2 m3 m4 m5 m6 hbp
        go_wp2
        go_ret
        refine ⟨?_, HBN.out⟩
        rw [← HR.out, erightB_false (k := k) hlt (by simp [eokAt, HB.out, HX1.out])]
        rfl
    · go_wp2
      go_ret
      refine ⟨?_, hb⟩
      rw [← HR.out, erightB_true (fun j hj => HO.out j (by omega))]
      rfl
end Go.Proofs.YtfjaeohfigcciaaDoor
