/- The contract of the reference's Same: the same runs? -/
import Derived.Test.YtfjaeohfigcciaaDoorRight
namespace Go.Proofs.YtfjaeohfigcciaaDoor
open Go.RowKit Go.Sort

theorem same_take {zs ys : List Rn} (hl : zs.length = ys.length) (h : ∀ j, j < zs.length → zs[j]? = ys[j]?) : zs = ys := by
  apply List.ext_getElem?
  intro j
  rcases Nat.lt_or_ge j zs.length with hj | hj
  · exact h j hj
  · rw [List.getElem?_eq_none hj, List.getElem?_eq_none (by omega)]

set_option maxHeartbeats 2000000 in
theorem Same_any (v1 v2 : Value) (zs ys : List Rn) (w : World) (h1 : Sl w w.heap.size v1 zs) (h2 : Sl w w.heap.size v2 ys) (hz : zs.length ≤ 1000) (hy : ys.length ≤ 1000) :
    Calls Tryd.prog 17 #[v1, v2] w fun e w' => e = .returned (.bool (decide (zs = ys))) ∧ Below w.heap.size w w' := by
  obtain ⟨A, c, rfl, _, _, hA⟩ := h1
  obtain ⟨A', c', rfl, _, _, hA'⟩ := h2
  by_cases hl : zs.length = ys.length
  · generalize hR : decide (zs = ys) = R
    have HR := Lib.hid hR; clear hR
    have HA := Lib.hid hA; clear hA
    have HA' := Lib.hid hA'; clear hA'
    have HL := Lib.hid hl
    have hbn : ((zs.length : Int) != (ys.length : Int)) = false := by simp [hl]
    have hle : zs.length ≤ ys.length := by omega
    clear hl
    go_enter Tryd.func17, Tryd.ntmps17
    go_wp2
    go_loopw [5] (fun i wr => ∃ k : Nat, i = .int .i64 k ∧ k ≤ zs.length ∧ Hid (∀ j, j < k → zs[j]? = ys[j]?) ∧ Below w.heap.size w wr) (fun i _ => zs.length - (intOf i).toNat)
    case atStart => exact ⟨0, rfl, by omega, Lib.hid (fun j hj => absurd hj (by omega)), Below.refl _ _⟩
    case round =>
      obtain ⟨k, rfl, hk, HO, hb⟩ := hrel
      by_cases hlt : k < zs.length
      · obtain ⟨b, off, rfl, hbw, hc⟩ := HA.out (by intro h; simp [h] at hlt)
        obtain ⟨b', off', rfl, hbw', hc'⟩ := HA'.out (by intro h; have := congrArg List.length h; simp only [List.length_nil] at this; omega)
        have hxk : zs[k]? = some zs[k] := List.getElem?_eq_getElem hlt
        have hyk : ys[k]? = some ys[k] := List.getElem?_eq_getElem (by omega)
        generalize zs[k] = x at hxk
        generalize ys[k] = y at hyk
        obtain ⟨c0, c1, c2⟩ := (hc k x hxk).keep hb hbw
        obtain ⟨d0, d1, d2⟩ := (hc' k y hyk).keep hb hbw'
        clear hc hc'
        have HX := Lib.hid hxk; clear hxk
        have HY := Lib.hid hyk; clear hyk
        have hky : k < ys.length := by omega
        have hb' := Lib.hid hb; clear hb
        by_cases hxy : x = y
        · subst hxy
          go_wp2_with fail
          go_quiet (fail)
          go_wp2
          go_roundw
          case rel =>
            refine ⟨k + 1, by go_num, by omega, Lib.hid (fun i hi => ?_), ?_⟩
            · rcases Nat.lt_or_ge i k with h | h
              · exact HO.out i h
              · obtain rfl : i = k := by omega
                rw [HX.out, HY.out]
            · exact ⟨hb'.out.os, hb'.out.tape, hb'.out.output, hb'.out.size, hb'.out.block⟩
          case measure => simp [intOf]; omega
        · have hend : Hid (R = false) := by
            refine Lib.hid ?_
            rw [← HR.out, decide_eq_false]
            intro h
            have h1 := HX.out
            rw [h, HY.out] at h1
            exact hxy (Option.some.inj h1).symm
          by_cases e1 : x.r = y.r
          · by_cases e2 : x.lo = y.lo
            · have e3 : (x.hi == y.hi) = false := by
                simp only [beq_eq_false_iff_ne]
                intro e3
                apply hxy
                cases x; cases y
                simp only at e1 e2 e3
                subst e1 e2 e3
                rfl
              have e1' : (x.r == y.r) = true := by simp [e1]
              have e2' : (x.lo == y.lo) = true := by simp [e2]
              clear e1 e2 hxy
              go_wp2_with fail
              go_quiet (fail)
              go_wp2
              go_ret
              rw [hend.out]
              exact ⟨rfl, ⟨hb'.out.os, hb'.out.tape, hb'.out.output, hb'.out.size, hb'.out.block⟩⟩
            · have e2' : (x.lo == y.lo) = false := by simp [e2]
              have e1' : (x.r == y.r) = true := by simp [e1]
              clear e1 e2 hxy
              go_wp2_with fail
              go_quiet (fail)
              go_wp2
              go_ret
              rw [hend.out]
              exact ⟨rfl, ⟨hb'.out.os, hb'.out.tape, hb'.out.output, hb'.out.size, hb'.out.block⟩⟩
          · have e1' : (x.r == y.r) = false := by simp [e1]
            clear e1 hxy
            go_wp2_with fail
            go_quiet (fail)
            go_wp2
            go_ret
            rw [hend.out]
            exact ⟨rfl, ⟨hb'.out.os, hb'.out.tape, hb'.out.output, hb'.out.size, hb'.out.block⟩⟩
      · go_wp2
        go_ret
        refine ⟨?_, hb⟩
        rw [← HR.out, decide_eq_true (same_take HL.out (fun j hj => HO.out j (by omega)))]
        rfl
  · have e : decide (zs = ys) = false := by
      simp only [decide_eq_false_iff_not]
      rintro rfl
      exact hl rfl
    rw [e]; clear e
    have hbn : ((zs.length : Int) != (ys.length : Int)) = true := by simp; omega
    go_enter Tryd.func17, Tryd.ntmps17
    go_wp2
    go_ret
    exact ⟨rfl, Below.refl _ _⟩
end Go.Proofs.YtfjaeohfigcciaaDoor

