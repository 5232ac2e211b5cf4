/- Texts in one: Same, PRef5. -/
import Derived.Test.YtfjaeohfigcciabGreatDoorQB01
import Derived.Test.YtfjaeohfigcciabGreatDoorQB19
import Derived.Test.YtfjaeohfigcciabGreatDoorQB00
import Derived.Test.YtfjaeohfigcciabGreatDoorQB15
import Derived.Test.YtfjaeohfigcciabGreatDoorQB09
set_option linter.unusedVariables false
set_option linter.unusedSimpArgs false
set_option linter.unusedSectionVars false
set_option linter.unnecessarySimpa false
namespace Go.Proofs.YtfjaeohfigcciabGreatDoor
open Go.RowKit Go.Sort

theorem same_take {zs ys : List Rn} (hl : zs.length = ys.length) (h : ∀ j, j < zs.length → zs[j]? = ys[j]?) : zs = ys := by
  apply List.ext_getElem?
  intro j
  rcases Nat.lt_or_ge j zs.length with hj | hj
  · exact h j hj
  · rw [List.getElem?_eq_none hj, List.getElem?_eq_none (by omega)]

set_option maxHeartbeats 2000000 in
theorem Same_any (v1 v2 : Value) (zs ys : List Rn) (w : World) (h1 : Sl w w.heap.size v1 zs) (h2 : Sl w w.heap.size v2 ys) (hz : zs.length ≤ 1000) (hy : ys.length ≤ 1000) :
    Calls Tryz.prog 43 #[v1, v2] w fun e w' => e = .returned (.bool (decide (zs = ys))) ∧ Below w.heap.size w w' := by
  obtain ⟨A, c, rfl, _, _, hA⟩ := h1
  obtain ⟨A', c', rfl, _, _, hA'⟩ := h2
  by_cases hl : zs.length = ys.length
  · generalize hR : decide (zs = ys) = R
    have HR := Lib.hid hR; clear hR
    have HA := Lib.hid hA; clear hA
    have HA' := Lib.hid hA'; clear hA'
    have HL := Lib.hid hl
    have hbn : ((zs.length : Int) != (ys.length : Int)) = false := by simp [hl]
    have hle : zs.length ≤ ys.length := by omega
    clear hl
    go_enter Tryz.func43, Tryz.ntmps43
    go_wp2
    go_loopw [5] (fun i wr => ∃ k : Nat, i = .int .i64 k ∧ k ≤ zs.length ∧ Hid (∀ j, j < k → zs[j]? = ys[j]?) ∧ Below w.heap.size w wr) (fun i _ => zs.length - (intOf i).toNat)
    case atStart => exact ⟨0, rfl, by omega, Lib.hid (fun j hj => absurd hj (by omega)), Below.refl _ _⟩
    case round =>
      obtain ⟨k, rfl, hk, HO, hb⟩ := hrel
      by_cases hlt : k < zs.length
      · obtain ⟨b, off, rfl, hbw, hc⟩ := HA.out (by intro h; simp [h] at hlt)
        obtain ⟨b', off', rfl, hbw', hc'⟩ := HA'.out (by intro h; have := congrArg List.length h; simp only [List.length_nil] at this; omega)
        have hxk : zs[k]? = some zs[k] := List.getElem?_eq_getElem hlt
        have hyk : ys[k]? = some ys[k] := List.getElem?_eq_getElem (by omega)
        generalize zs[k] = x at hxk
        generalize ys[k] = y at hyk
        obtain ⟨c0, c1, c2⟩ := (hc k x hxk).keep hb hbw
        obtain ⟨d0, d1, d2⟩ := (hc' k y hyk).keep hb hbw'
        clear hc hc'
        have HX := Lib.hid hxk; clear hxk
        have HY := Lib.hid hyk; clear hyk
        have hky : k < ys.length := by omega
        have hb' := Lib.hid hb; clear hb
        by_cases hxy : x = y
        · subst hxy
          go_wp2_with fail
          go_quiet (fail)
          go_wp2
          go_roundw
          case rel =>
            refine ⟨k + 1, by go_num, by omega, Lib.hid (fun i hi => ?_), ?_⟩
            · rcases Nat.lt_or_ge i k with h | h
              · exact HO.out i h
              · obtain rfl : i = k := by omega
                rw [HX.out, HY.out]
            · exact ⟨hb'.out.os, hb'.out.tape, hb'.out.output, hb'.out.size, hb'.out.block⟩
          case measure => simp [intOf]; omega
        · have hend : Hid (R = false) := by
            refine Lib.hid ?_
            rw [← HR.out, decide_eq_false]
            intro h
            have h1 := HX.out
            rw [h, HY.out] at h1
            exact hxy (Option.some.inj h1).symm
          by_cases e1 : x.r = y.r
          · by_cases e2 : x.lo = y.lo
            · have e3 : (x.hi == y.hi) = false := by
                simp only [beq_eq_false_iff_ne]
                intro e3
                apply hxy
                cases x; cases y
                simp only at e1 e2 e3
                subst e1 e2 e3
                rfl
              have e1' : (x.r == y.r) = true := by simp [e1]
              have e2' : (x.lo == y.lo) = true := by simp [e2]
              clear e1 e2 hxy
              go_wp2_with fail
              go_quiet (fail)
              go_wp2
              go_ret
              rw [hend.out]
              exact ⟨rfl, ⟨hb'.out.os, hb'.out.tape, hb'.out.output, hb'.out.size, hb'.out.block⟩⟩
            · have e2' : (x.lo == y.lo) = false := by simp [e2]
              have e1' : (x.r == y.r) = true := by simp [e1]
              clear e1 e2 hxy
              go_wp2_with fail
              go_quiet (fail)
              go_wp2
              go_ret
              rw [hend.out]
              exact ⟨rfl, ⟨hb'.out.os, hb'.out.tape, hb'.out.output, hb'.out.size, hb'.out.block⟩⟩
          · have e1' : (x.r == y.r) = false := by simp [e1]
            clear e1 hxy
            go_wp2_with fail
            go_quiet (fail)
            go_wp2
            go_ret
            rw [hend.out]
            exact ⟨rfl, ⟨hb'.out.os, hb'.out.tape, hb'.out.output, hb'.out.size, hb'.out.block⟩⟩
      · go_wp2
        go_ret
        refine ⟨?_, hb⟩
        rw [← HR.out, decide_eq_true (same_take HL.out (fun j hj => HO.out j (by omega)))]
        rfl
  · have e : decide (zs = ys) = false := by
      simp only [decide_eq_false_iff_not]
      rintro rfl
      exact hl rfl
    rw [e]; clear e
    have hbn : ((zs.length : Int) != (ys.length : Int)) = true := by simp; omega
    go_enter Tryz.func43, Tryz.ntmps43
    go_wp2
    go_ret
    exact ⟨rfl, Below.refl _ _⟩
end Go.Proofs.YtfjaeohfigcciabGreatDoor

namespace Go.Proofs.YtfjaeohfigcciabGreatDoor
open Go.RowKit

theorem q5Right_any (v : Value) (r : Rp) (w : World) (hv : RpV w w.heap.size v r) (h1 : r.know.length ≤ 1000) (h2 : r.held.length ≤ 1000) (h3 : r.ses.offer.length ≤ 1000) :
    Calls Tryz.prog 23 #[v] w fun e w' => e = .returned (.bool (rpB r)) ∧ Below w.heap.size w w' := by
  cases h : headR r
  · exact q5Right_head v r w hv h1 h2 h3 h
  · exact q5Right_rest v r w hv h1 h2 h3 h

/-- what On tells -/
def onR (r : Rp) : Int := if rpB r = false then 9 else if r.ses.on = false then 8 else 0
set_option maxHeartbeats 2000000 in
set_option maxRecDepth 100000 in
theorem q7On_any (v : Value) (r : Rp) (w : World) (hv : RpV w w.heap.size v r) (h1 : r.know.length ≤ 1000) (h2 : r.held.length ≤ 1000) (h3 : r.ses.offer.length ≤ 1000) :
    Calls Tryz.prog 20 #[v] w fun e w' => e = .returned (.int .i64 (onR r)) ∧ Below w.heap.size w w' := by
  obtain ⟨vk, vh, vo, rfl, hk, hh, ho, hok⟩ := hv
  have HB := Lib.hid (RBox.start hk hh ho hok)
  have hr := q5Right_any _ r _ (HB.out.val (Below.refl _ _)) h1 h2 h3
  have HE := Lib.hid (show onR r = if rpB r = false then 9 else if r.ses.on = false then 8 else 0 from rfl)
  generalize onR r = P at HE ⊢
  generalize rpB r = b at HE hr
  generalize hon : r.ses.on = o at HE
  have HON := Lib.hid hon; clear hon hk hh ho hok
  unfold Rp.cells at HB hr ⊢
  rw [HON.out] at HB hr ⊢
  have HR := Lib.hid hr; clear hr
  go_enter Tryz.func20, Tryz.ntmps20
  go_wp2_with fail
  refine HR.out.mono ?_
  rintro e w1 ⟨rfl, hb1⟩
  have c6 := box_cells hb1 6 (.bool o) rfl
  have HB1 := Lib.hid hb1; clear hb1
  cases b
  · go_wp2_with fail
    go_ret
    exact ⟨by rw [HE.out]; rfl, HB.out.bel.trans (HB1.out.mono HB.out.bel.size)⟩
  · cases o
    · go_wp2_with fail
      go_ret
      exact ⟨by rw [HE.out]; rfl, HB.out.bel.trans (HB1.out.mono HB.out.bel.size)⟩
    · go_wp2_with fail
      go_ret
      exact ⟨by rw [HE.out]; rfl, HB.out.bel.trans (HB1.out.mono HB.out.bel.size)⟩

set_option maxHeartbeats 16000000 in
set_option maxRecDepth 100000 in
theorem q5Same_eq (v1 v2 : Value) (r : Rp) (w : World) (hv1 : RpV w w.heap.size v1 r) (hv2 : RpV w w.heap.size v2 r) (h1 : r.know.length ≤ 1000) (h2 : r.held.length ≤ 1000) (h3 : r.ses.offer.length ≤ 1000) :
    Calls Tryz.prog 12 #[v1, v2] w fun e w' => e = .returned (.bool true) ∧ Below w.heap.size w w' := by
  obtain ⟨ak, ae, ao, rfl, hk, he, ho, _⟩ := hv1
  obtain ⟨bk, be, bo, rfl, gk, ge, go, _⟩ := hv2
  have s1 := fun w1 (hb : Below w.heap.size w w1) => Same_any ak bk r.know r.know w1 ((hk.below hb).more hb.size) ((gk.below hb).more hb.size) h1 h1
  have s2 := fun w1 (hb : Below w.heap.size w w1) => rSame_yes ae be r.held w1 ((he.below hb).more hb.size) ((ge.below hb).more hb.size) (by omega)
  have s3 := fun w1 (hb : Below w.heap.size w w1) => Same_any ao bo r.ses.offer r.ses.offer w1 ((ho.below hb).more hb.size) ((go.below hb).more hb.size) h3 h3
  rw [decide_eq_true rfl] at s1 s3
  have S1 := Lib.hid s1; clear s1
  have S2 := Lib.hid s2; clear s2
  have S3 := Lib.hid s3; clear s3
  obtain ⟨A1, c1, rfl, _⟩ := hk
  obtain ⟨A2, c2, rfl, _⟩ := he
  obtain ⟨A3, c3, rfl, _⟩ := ho
  obtain ⟨A4, c4, rfl, _⟩ := gk
  obtain ⟨A5, c5, rfl, _⟩ := ge
  obtain ⟨A6, c6, rfl, _⟩ := go
  have B1 := Blk.new w (r.cells (.slice A1 r.know.length c1) (.slice A2 r.held.length c2) (.slice A3 r.ses.offer.length c3)) 28
  have B2 := Blk.new (w.alloc (.cells (r.cells (.slice A1 r.know.length c1) (.slice A2 r.held.length c2) (.slice A3 r.ses.offer.length c3)) 28)) (r.cells (.slice A4 r.know.length c4) (.slice A5 r.held.length c5) (.slice A6 r.ses.offer.length c6)) 28
  have B1 := B1.alloc (.cells (r.cells (.slice A4 r.know.length c4) (.slice A5 r.held.length c5) (.slice A6 r.ses.offer.length c6)) 28)
  have e1 : (w.alloc (.cells (r.cells (.slice A1 r.know.length c1) (.slice A2 r.held.length c2) (.slice A3 r.ses.offer.length c3)) 28)).heap.size = w.heap.size + 1 := by simp
  rw [e1] at B2
  have HB0 := al2 w (.cells (r.cells (.slice A1 r.know.length c1) (.slice A2 r.held.length c2) (.slice A3 r.ses.offer.length c3)) 28) (.cells (r.cells (.slice A4 r.know.length c4) (.slice A5 r.held.length c5) (.slice A6 r.ses.offer.length c6)) 28)
  unfold Rp.cells at B1 B2 HB0 ⊢
  have HB0 := Lib.hid HB0
  have B1 := Lib.hid B1
  have B2 := Lib.hid B2
  clear e1
  have hd : (r.ses.on != r.ses.on) = false := by simp
  go_enter Tryz.func12, Tryz.ntmps12
  go_wp2_with fail
  have HB3 := Lib.hid (HB0.out.trans ((al2 _ (.cells #[.bool r.ses.on, .int .u32 r.ses.num, .int .u8 r.ses.src, .int .u8 r.ses.cur, .int .u32 r.ses.epoch, (.slice A3 r.ses.offer.length c3), .int .u32 r.ses.last] 26) (.cells #[.bool r.ses.on, .int .u32 r.ses.num, .int .u8 r.ses.src, .int .u8 r.ses.cur, .int .u32 r.ses.epoch, (.slice A6 r.ses.offer.length c6), .int .u32 r.ses.last] 26)).mono HB0.out.size))
  refine (S3.out _ HB3.out).mono ?_
  rintro e w1 ⟨rfl, hb1⟩
  have b1 := Lib.hid (((B1.out.alloc (.cells #[.bool r.ses.on, .int .u32 r.ses.num, .int .u8 r.ses.src, .int .u8 r.ses.cur, .int .u32 r.ses.epoch, (.slice A3 r.ses.offer.length c3), .int .u32 r.ses.last] 26)).alloc (.cells #[.bool r.ses.on, .int .u32 r.ses.num, .int .u8 r.ses.src, .int .u8 r.ses.cur, .int .u32 r.ses.epoch, (.slice A6 r.ses.offer.length c6), .int .u32 r.ses.last] 26)).keep hb1)
  have b2 := Lib.hid (((B2.out.alloc (.cells #[.bool r.ses.on, .int .u32 r.ses.num, .int .u8 r.ses.src, .int .u8 r.ses.cur, .int .u32 r.ses.epoch, (.slice A3 r.ses.offer.length c3), .int .u32 r.ses.last] 26)).alloc (.cells #[.bool r.ses.on, .int .u32 r.ses.num, .int .u8 r.ses.src, .int .u8 r.ses.cur, .int .u32 r.ses.epoch, (.slice A6 r.ses.offer.length c6), .int .u32 r.ses.last] 26)).keep hb1)
  have HB1 := Lib.hid (HB3.out.trans (hb1.mono HB3.out.size)); clear hb1
  have x0 := b1.out.cell 0 (.int .u8 r.rep) rfl
  have x1 := b1.out.cell 1 (.int .u8 r.flt) rfl
  have x2 := b1.out.cell 2 (.int .u32 r.epoch) rfl
  have x3 := b1.out.cell 3 (.int .u32 r.seq) rfl
  have x4 := b1.out.cell 4 (.slice A1 r.know.length c1) rfl
  have y0 := b2.out.cell 0 (.int .u8 r.rep) rfl
  have y1 := b2.out.cell 1 (.int .u8 r.flt) rfl
  have y2 := b2.out.cell 2 (.int .u32 r.epoch) rfl
  have y3 := b2.out.cell 3 (.int .u32 r.seq) rfl
  have y4 := b2.out.cell 4 (.slice A4 r.know.length c4) rfl
  go_wp2_with fail
  refine (S1.out _ HB1.out).mono ?_
  rintro e w2 ⟨rfl, hb2⟩
  have b1' := b1.out.keep hb2
  have b2' := b2.out.keep hb2
  have HB2 := Lib.hid (HB1.out.trans (hb2.mono HB1.out.size)); clear hb2 x0 x1 x2 x3 x4 y0 y1 y2 y3 y4
  have x5 := b1'.cell 5 (.slice A2 r.held.length c2) rfl
  have y5 := b2'.cell 5 (.slice A5 r.held.length c5) rfl
  clear b1' b2'
  go_wp2_with fail
  refine (S2.out _ HB2.out).mono ?_
  rintro e w4 ⟨rfl, hb4⟩
  have HB4 := Lib.hid (HB2.out.trans (hb4.mono HB2.out.size)); clear hb4
  go_wp2_with fail
  go_ret
  exact ⟨rfl, HB4.out⟩
end Go.Proofs.YtfjaeohfigcciabGreatDoor

