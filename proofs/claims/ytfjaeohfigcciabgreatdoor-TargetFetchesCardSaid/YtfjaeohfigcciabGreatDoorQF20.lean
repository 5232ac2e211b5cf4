/- Texts in one: PRef4. -/
import Derived.Test.YtfjaeohfigcciabGreatDoorQF16
set_option linter.unusedVariables false
set_option linter.unusedSimpArgs false
set_option linter.unusedSectionVars false
set_option linter.unnecessarySimpa false
namespace Go.Proofs.YtfjaeohfigcciabGreatDoor
open Go.RowKit

set_option maxHeartbeats 16000000 in
set_option maxRecDepth 100000 in
theorem q5Right_rest (v : Value) (r : Rp) (w : World) (hv : RpV w w.heap.size v r) (h1 : r.know.length ≤ 1000) (h2 : r.held.length ≤ 1000) (h3 : r.ses.offer.length ≤ 1000) (hf : headR r = true) :
    Calls Tryz.prog 23 #[v] w fun e w' => e = .returned (.bool (rpB r)) ∧ Below w.heap.size w w' := by
  obtain ⟨vk, vh, vo, rfl, hk, hh, ho, hok⟩ := hv
  have HB := Lib.hid (RBox.start hk hh ho hok)
  have F2 := Lib.hid (fun h => rp_false2 (r := r) h)
  have F3 := Lib.hid (fun h => rp_false3 (r := r) h)
  have F4 := Lib.hid (fun h => rp_false4 (r := r) h)
  have F5 := Lib.hid (fun h2 h3 h4 => rp_true (r := r) hf h2 h3 h4)
  rw [head_split] at hf
  have r1 := fun w1 (hb : Below (w.alloc (.cells (r.cells vk vh vo) 28)).heap.size (w.alloc (.cells (r.cells vk vh vo) 28)) w1) => refRight_any vk r.know w1 ((hk.below (HB.out.trans hb)).more (HB.out.trans hb).size) h1
  have r2 := fun w1 (hb : Below (w.alloc (.cells (r.cells vk vh vo) 28)).heap.size (w.alloc (.cells (r.cells vk vh vo) 28)) w1) => rRight_any w1 vh r.held (hh.later (HB.out.trans hb)) (by omega)
  have r3 := fun w1 (hb : Below (w.alloc (.cells (r.cells vk vh vo) 28)).heap.size (w.alloc (.cells (r.cells vk vh vo) 28)) w1) => q5session_any vo r.ses r.rep w1 ((ho.below (HB.out.trans hb)).more (HB.out.trans hb).size) h3 hok.2.2.2.2.2.2 hok.1
  have r4 := fun (x : En) (hx : x.ok) w1 => rIn_any x r.flt w1 hx hok.2.1
  have r5 := fun (x : En) (hx : x.ok) w1 (hb : Below (w.alloc (.cells (r.cells vk vh vo) 28)).heap.size (w.alloc (.cells (r.cells vk vh vo) 28)) w1) => q5Known_any _ r x w1 (HB.out.val hb) h1 hx
  generalize rpB r = P at F2 F3 F4 F5 ⊢
  generalize rightB r.know = b1 at hf r1
  generalize erightB r.held = b2 at hf r2
  generalize sesB r.ses r.rep = b3 at hf r3
  generalize hq : decide (7 < r.rep) = q at hf
  simp only [Bool.and_eq_true, Bool.not_eq_true'] at hf
  obtain ⟨rfl, rfl, rfl, rfl⟩ := hf
  obtain ⟨Ak, ck, rfl, _, ok1, hAk⟩ := hk
  obtain ⟨Ah, ch, rfl, _, ok2, hAh⟩ := hh
  obtain ⟨Ao, co, rfl, _, ok3, hAo⟩ := ho
  have OK2 := Lib.hid ok2
  have AK := Lib.hid hAk; clear hAk ok1
  have AH := Lib.hid hAh; clear hAh ok2
  have AO := Lib.hid hAo; clear hAo ok3 hok
  unfold Ss.cells at r3
  unfold Rp.cells at HB r1 r2 r3 r5 ⊢
  have R1 := Lib.hid r1; clear r1
  have R2 := Lib.hid r2; clear r2
  have R3 := Lib.hid r3; clear r3
  have R4 := Lib.hid r4; clear r4
  have R5 := Lib.hid r5; clear r5
  go_enter Tryz.func23, Tryz.ntmps23
  go_wp2_with fail
  refine (R1.out _ (Below.refl _ _)).mono ?_
  rintro e w1 ⟨rfl, hb1⟩
  have m5 := HB.out.c5 (w1 := w1) hb1
  have HB1 := Lib.hid hb1; clear hb1
  go_wp2_with fail
  refine (R2.out _ HB1.out).mono ?_
  rintro e w2 ⟨rfl, hb2⟩
  have hb2' := HB1.out.trans (hb2.mono HB1.out.size)
  have n0 := HB.out.c0 (w1 := w2) hb2'
  have n6 := HB.out.c6 (w1 := w2) hb2'
  have n7 := HB.out.c7 (w1 := w2) hb2'
  have n8 := HB.out.c8 (w1 := w2) hb2'
  have n9 := HB.out.c9 (w1 := w2) hb2'
  have n10 := HB.out.c10 (w1 := w2) hb2'
  have n11 := HB.out.c11 (w1 := w2) hb2'
  have n12 := HB.out.c12 (w1 := w2) hb2'
  have HB2 := Lib.hid hb2'; clear hb2 hb2'
  go_wp2_with fail
  refine (R3.out _ HB2.out).mono ?_
  rintro e w3 ⟨rfl, hb3⟩
  have HB3 := Lib.hid (HB2.out.trans (hb3.mono HB2.out.size)); clear hb3 m5 n0 n6 n7 n8 n9 n10 n11 n12
  generalize w.alloc (.cells #[.int .u8 r.rep, .int .u8 r.flt, .int .u32 r.epoch, .int .u32 r.seq, .slice Ak r.know.length ck, .slice Ah r.held.length ch, .bool r.ses.on, .int .u32 r.ses.num, .int .u8 r.ses.src, .int .u8 r.ses.cur, .int .u32 r.ses.epoch, .slice Ao r.ses.offer.length co, .int .u32 r.ses.last] 28) = wz at HB HB1 HB2 HB3 R1 R2 R3 R5
  clear R1 R2 R3 HB1 HB2
  have hm : Tryz.prog.follows .mixedOrders = true := by kernel_rfl
  have HM := Lib.hid hm; clear hm
  go_wp2_with fail
  go_loopw [3] (fun i wr => ∃ k : Nat, i = .int .i64 k ∧ k ≤ r.know.length ∧ Hid (∀ (j : Nat) (x : Rn), j < k → r.know[j]? = some x → ((x.r == r.rep) && decide (r.seq < x.hi)) = false) ∧ Below wz.heap.size wz wr) (fun i _ => r.know.length - (intOf i).toNat)
  case atStart => exact ⟨0, rfl, by omega, Lib.hid (fun j x hj _ => absurd hj (by omega)), HB3.out⟩
  case round =>
    rename World => wr
    obtain ⟨k, rfl, hk, HO, hb⟩ := hrel
    have c4 := HB.out.c4 hb
    by_cases hlt : k < r.know.length
    · skip
      obtain ⟨b, off, rfl, hbw, hc⟩ := AK.out (by intro h; simp [h] at hlt)
      have hxk : r.know[k]? = some r.know[k] := List.getElem?_eq_getElem hlt
      generalize r.know[k] = x at hxk
      have hz := (HB.out.trans hb).size
      have HXA := Lib.hid ((hc k x hxk).keep (HB.out.trans hb) hbw)
      have hzw : wz.heap.size ≤ wr.heap.size := hb.size
      have HX := Lib.hid hxk; clear hxk hc
      have c0 := HB.out.c0 hb
      have c3 := HB.out.c3 hb
      have hwlt := HB.out.lt
      have HBB := Lib.hid hb; clear hb
      have hbr : b < wr.heap.size := by omega
      have hwr : w.heap.size < wr.heap.size := by omega
      obtain ⟨q1, hq1⟩ : ∃ q : Bool, (x.r == r.rep) = q := ⟨_, rfl⟩
      obtain ⟨q2, hq2⟩ : ∃ q : Bool, decide (r.seq < x.hi) = q := ⟨_, rfl⟩
      have HQ1 := Lib.hid hq1
      have HQ2 := Lib.hid hq2
      cases q1
      · skip
        go_wp2_with fail
        have p4 := fun p : Later wr => (p.bel.cell (p := ⟨w.heap.size, 4, none⟩) hwr).trans c4
        have p0 := fun p : Later wr => (p.bel.cell (p := ⟨w.heap.size, 0, none⟩) hwr).trans c0
        have x0 := fun p : Later wr => (p.bel.cell (p := ⟨b, off + k * 3, none⟩) hbr).trans HXA.out.1
        have hm : Tryz.prog.follows .mixedOrders = true := HM.out
        refine wp_region_later hm (by kernel_rfl) ?_
        repeat (any_goals (first | go_big_quiet_step (fail) | quiet_step (fail)))
        refine wpQuiet_nil ?_
        intro wp hw'
        obtain ⟨lp, hlp⟩ := hw'
        have hbp := lp.bel
        rw [← hlp] at hbp
        clear hlp lp
        have HBN := Lib.hid (HBB.out.trans (hbp.mono hzw))
        clear p4 p0 x0 hbp
        go_wp2
        go_roundw
        case rel =>
          refine ⟨k + 1, by go_num, by omega, Lib.hid (fun j y hj hy => ?_), HBN.out⟩
          rcases Nat.lt_or_ge j k with h | h
          · exact HO.out j y h hy
          · obtain rfl : j = k := by omega
            rw [HX.out] at hy
            rw [← Option.some.inj hy, HQ1.out]
            rfl
        case measure => simp [intOf]; omega
      · cases q2
        · skip
          go_wp2_with fail
          have p4 := fun p : Later wr => (p.bel.cell (p := ⟨w.heap.size, 4, none⟩) hwr).trans c4
          have p0 := fun p : Later wr => (p.bel.cell (p := ⟨w.heap.size, 0, none⟩) hwr).trans c0
          have x0 := fun p : Later wr => (p.bel.cell (p := ⟨b, off + k * 3, none⟩) hbr).trans HXA.out.1
          have p3 := fun p : Later wr => (p.bel.cell (p := ⟨w.heap.size, 3, none⟩) hwr).trans c3
          have x2 := fun p : Later wr => (p.bel.cell (p := ⟨b, off + k * 3 + 2, none⟩) hbr).trans HXA.out.2.2
          have hm : Tryz.prog.follows .mixedOrders = true := HM.out
          refine wp_region_later hm (by kernel_rfl) ?_
          repeat (any_goals (first | go_big_quiet_step (fail) | quiet_step (fail)))
          refine wpQuiet_nil ?_
          intro wp hw'
          obtain ⟨lp, hlp⟩ := hw'
          have hbp := lp.bel
          rw [← hlp] at hbp
          clear hlp lp
          have HBN := Lib.hid (HBB.out.trans (hbp.mono hzw))
          clear p4 p0 x0 p3 x2 hbp
          go_wp2
          go_roundw
          case rel =>
            refine ⟨k + 1, by go_num, by omega, Lib.hid (fun j y hj hy => ?_), HBN.out⟩
            rcases Nat.lt_or_ge j k with h | h
            · exact HO.out j y h hy
            · obtain rfl : j = k := by omega
              rw [HX.out] at hy
              rw [← Option.some.inj hy, HQ1.out, HQ2.out]
              rfl
          case measure => simp [intOf]; omega
        · skip
          go_wp2_with fail
          have p4 := fun p : Later wr => (p.bel.cell (p := ⟨w.heap.size, 4, none⟩) hwr).trans c4
          have p0 := fun p : Later wr => (p.bel.cell (p := ⟨w.heap.size, 0, none⟩) hwr).trans c0
          have x0 := fun p : Later wr => (p.bel.cell (p := ⟨b, off + k * 3, none⟩) hbr).trans HXA.out.1
          have p3 := fun p : Later wr => (p.bel.cell (p := ⟨w.heap.size, 3, none⟩) hwr).trans c3
          have x2 := fun p : Later wr => (p.bel.cell (p := ⟨b, off + k * 3 + 2, none⟩) hbr).trans HXA.out.2.2
          have hm : Tryz.prog.follows .mixedOrders = true := HM.out
          refine wp_region_later hm (by kernel_rfl) ?_
          repeat (any_goals (first | go_big_quiet_step (fail) | quiet_step (fail)))
          refine wpQuiet_nil ?_
          intro wp hw'
          obtain ⟨lp, hlp⟩ := hw'
          have hbp := lp.bel
          rw [← hlp] at hbp
          clear hlp lp
          have HBN := Lib.hid (HBB.out.trans (hbp.mono hzw))
          clear p4 p0 x0 p3 x2 hbp
          go_wp2
          go_ret
          rw [F2.out (top_false HX.out HQ1.out HQ2.out)]
          exact ⟨rfl, HB.out.trans HBN.out⟩
    · skip
      have hkk : k = r.know.length := by omega
      have T2 := Lib.hid (top_true (rep := r.rep) (seq := r.seq) (l := r.know) (fun j x hj hx => HO.out j x (by omega) hx))
      have HB4 := Lib.hid hb
      clear HO hb hkk
      go_wp2_with fail
      go_loopw [4] (fun i wr => ∃ k : Nat, i = .int .i64 k ∧ k ≤ r.ses.offer.length ∧ Hid (∀ (j : Nat) (x : Rn), j < k → r.ses.offer[j]? = some x → ((x.r == r.rep) && decide (r.seq < x.hi)) = false) ∧ Below wz.heap.size wz wr) (fun i _ => r.ses.offer.length - (intOf i).toNat)
      case atStart => exact ⟨0, rfl, by omega, Lib.hid (fun j x hj _ => absurd hj (by omega)), HB4.out⟩
      case round =>
        rename World => wr
        obtain ⟨k, rfl, hk, HO, hb⟩ := hrel
        have c4 := HB.out.c11 hb
        by_cases hlt : k < r.ses.offer.length
        · skip
          obtain ⟨b, off, rfl, hbw, hc⟩ := AO.out (by intro h; simp [h] at hlt)
          have hxk : r.ses.offer[k]? = some r.ses.offer[k] := List.getElem?_eq_getElem hlt
          generalize r.ses.offer[k] = x at hxk
          have hz := (HB.out.trans hb).size
          have HXA := Lib.hid ((hc k x hxk).keep (HB.out.trans hb) hbw)
          have hzw : wz.heap.size ≤ wr.heap.size := hb.size
          have HX := Lib.hid hxk; clear hxk hc
          have c0 := HB.out.c0 hb
          have c3 := HB.out.c3 hb
          have hwlt := HB.out.lt
          have HBB := Lib.hid hb; clear hb
          have hbr : b < wr.heap.size := by omega
          have hwr : w.heap.size < wr.heap.size := by omega
          obtain ⟨q1, hq1⟩ : ∃ q : Bool, (x.r == r.rep) = q := ⟨_, rfl⟩
          obtain ⟨q2, hq2⟩ : ∃ q : Bool, decide (r.seq < x.hi) = q := ⟨_, rfl⟩
          have HQ1 := Lib.hid hq1
          have HQ2 := Lib.hid hq2
          cases q1
          · skip
            go_wp2_with fail
            have p4 := fun p : Later wr => (p.bel.cell (p := ⟨w.heap.size, 11, none⟩) hwr).trans c4
            have p0 := fun p : Later wr => (p.bel.cell (p := ⟨w.heap.size, 0, none⟩) hwr).trans c0
            have x0 := fun p : Later wr => (p.bel.cell (p := ⟨b, off + k * 3, none⟩) hbr).trans HXA.out.1
            have hm : Tryz.prog.follows .mixedOrders = true := HM.out
            refine wp_region_later hm (by kernel_rfl) ?_
            repeat (any_goals (first | go_big_quiet_step (fail) | quiet_step (fail)))
            refine wpQuiet_nil ?_
            intro wp hw'
            obtain ⟨lp, hlp⟩ := hw'
            have hbp := lp.bel
            rw [← hlp] at hbp
            clear hlp lp
            have HBN := Lib.hid (HBB.out.trans (hbp.mono hzw))
            clear p4 p0 x0 hbp
            go_wp2
            go_roundw
            case rel =>
              refine ⟨k + 1, by go_num, by omega, Lib.hid (fun j y hj hy => ?_), HBN.out⟩
              rcases Nat.lt_or_ge j k with h | h
              · exact HO.out j y h hy
              · obtain rfl : j = k := by omega
                rw [HX.out] at hy
                rw [← Option.some.inj hy, HQ1.out]
                rfl
            case measure => simp [intOf]; omega
          · cases q2
            · skip
              go_wp2_with fail
              have p4 := fun p : Later wr => (p.bel.cell (p := ⟨w.heap.size, 11, none⟩) hwr).trans c4
              have p0 := fun p : Later wr => (p.bel.cell (p := ⟨w.heap.size, 0, none⟩) hwr).trans c0
              have x0 := fun p : Later wr => (p.bel.cell (p := ⟨b, off + k * 3, none⟩) hbr).trans HXA.out.1
              have p3 := fun p : Later wr => (p.bel.cell (p := ⟨w.heap.size, 3, none⟩) hwr).trans c3
              have x2 := fun p : Later wr => (p.bel.cell (p := ⟨b, off + k * 3 + 2, none⟩) hbr).trans HXA.out.2.2
              have hm : Tryz.prog.follows .mixedOrders = true := HM.out
              refine wp_region_later hm (by kernel_rfl) ?_
              repeat (any_goals (first | go_big_quiet_step (fail) | quiet_step (fail)))
              refine wpQuiet_nil ?_
              intro wp hw'
              obtain ⟨lp, hlp⟩ := hw'
              have hbp := lp.bel
              rw [← hlp] at hbp
              clear hlp lp
              have HBN := Lib.hid (HBB.out.trans (hbp.mono hzw))
              clear p4 p0 x0 p3 x2 hbp
              go_wp2
              go_roundw
              case rel =>
                refine ⟨k + 1, by go_num, by omega, Lib.hid (fun j y hj hy => ?_), HBN.out⟩
                rcases Nat.lt_or_ge j k with h | h
                · exact HO.out j y h hy
                · obtain rfl : j = k := by omega
                  rw [HX.out] at hy
                  rw [← Option.some.inj hy, HQ1.out, HQ2.out]
                  rfl
              case measure => simp [intOf]; omega
            · skip
              go_wp2_with fail
              have p4 := fun p : Later wr => (p.bel.cell (p := ⟨w.heap.size, 11, none⟩) hwr).trans c4
              have p0 := fun p : Later wr => (p.bel.cell (p := ⟨w.heap.size, 0, none⟩) hwr).trans c0
              have x0 := fun p : Later wr => (p.bel.cell (p := ⟨b, off + k * 3, none⟩) hbr).trans HXA.out.1
              have p3 := fun p : Later wr => (p.bel.cell (p := ⟨w.heap.size, 3, none⟩) hwr).trans c3
              have x2 := fun p : Later wr => (p.bel.cell (p := ⟨b, off + k * 3 + 2, none⟩) hbr).trans HXA.out.2.2
              have hm : Tryz.prog.follows .mixedOrders = true := HM.out
              refine wp_region_later hm (by kernel_rfl) ?_
              repeat (any_goals (first | go_big_quiet_step (fail) | quiet_step (fail)))
              refine wpQuiet_nil ?_
              intro wp hw'
              obtain ⟨lp, hlp⟩ := hw'
              have hbp := lp.bel
              rw [← hlp] at hbp
              clear hlp lp
              have HBN := Lib.hid (HBB.out.trans (hbp.mono hzw))
              clear p4 p0 x0 p3 x2 hbp
              go_wp2
              go_ret
              rw [F3.out (top_false HX.out HQ1.out HQ2.out)]
              exact ⟨rfl, HB.out.trans HBN.out⟩
        · skip
          have hkk : k = r.ses.offer.length := by omega
          have T3 := Lib.hid (top_true (rep := r.rep) (seq := r.seq) (l := r.ses.offer) (fun j x hj hx => HO.out j x (by omega) hx))
          have HB5 := Lib.hid hb
          clear HO hb hkk
          go_wp2_with fail
          go_loopw [5] (fun i wr => ∃ k : Nat, i = .int .i64 k ∧ k ≤ r.held.length ∧ Hid (∀ j : Nat, j < k → heldAt r j = true) ∧ Below wz.heap.size wz wr) (fun i _ => r.held.length - (intOf i).toNat)
          case atStart => exact ⟨0, rfl, by omega, Lib.hid (fun j hj => absurd hj (by omega)), HB5.out⟩
          case round =>
            rename World => wr
            obtain ⟨k, rfl, hk, HO, hb⟩ := hrel
            have c5 := HB.out.c5 hb
            by_cases hlt : k < r.held.length
            · skip
              obtain ⟨b, off, rfl, hbw, hc⟩ := AH.out (by intro h; simp [h] at hlt)
              have hxk : r.held[k]? = some r.held[k] := List.getElem?_eq_getElem hlt
              generalize r.held[k] = x at hxk
              have HXB := Lib.hid (egetBang_of hxk)
              have HXO := Lib.hid (OK2.out x (List.mem_of_getElem? hxk))
              have hz := (HB.out.trans hb).size
              have hxa := (hc k x hxk).keep (HB.out.trans hb) hbw
              obtain ⟨x0, x1, x2, x3, x4, x5, x6⟩ := hxa.all
              clear hxa
              have hzw : wz.heap.size ≤ wr.heap.size := hb.size
              have HC := Lib.hid hc; clear hxk hc
              have c0 := HB.out.c0 hb
              have c3 := HB.out.c3 hb
              have hwlt := HB.out.lt
              have HBB := Lib.hid hb; clear hb
              have hbr : b < wr.heap.size := by omega
              have hwr : w.heap.size < wr.heap.size := by omega
              obtain ⟨q1, hq1⟩ : ∃ q : Bool, (x.rep == r.rep) = q := ⟨_, rfl⟩
              obtain ⟨q2, hq2⟩ : ∃ q : Bool, decide (r.seq < x.seq) = q := ⟨_, rfl⟩
              have HQ1 := Lib.hid hq1
              have HQ2 := Lib.hid hq2
              have HNE := Lib.hid (new_entry wr x 62)
              have HAL := Lib.hid (al1 wr (.cells #[.int .u8 x.id, .int .u8 x.rep, .int .u32 x.seq, .int .u32 x.stamp, .int .i64 x.kind, .int .u8 x.cls, .int .u32 x.val] 62))
              have hwe : wr.heap.size < (wr.alloc (.cells #[.int .u8 x.id, .int .u8 x.rep, .int .u32 x.seq, .int .u32 x.stamp, .int .i64 x.kind, .int .u8 x.cls, .int .u32 x.val] 62)).heap.size := by simp
              have HHE := Lib.hid (held_at HXB.out)
              cases q1
              · skip
                go_wp2_with fail
                generalize wr.alloc (.cells #[.int .u8 x.id, .int .u8 x.rep, .int .u32 x.seq, .int .u32 x.stamp, .int .i64 x.kind, .int .u8 x.cls, .int .u32 x.val] 62) = we at HNE HAL hwe ⊢
                clear x0 x1 x2 x3 x4 x5 x6 c0 c3
                have HWE := Lib.hid (HBB.out.trans (HAL.out.mono hzw))
                go_loopw [7] (fun i wl => ∃ m : Nat, i = .int .i64 m ∧ m ≤ k ∧ Hid (∀ (j : Nat) (y : En), j < m → r.held[j]? = some y → ((y.rep == x.rep) && (y.seq == x.seq)) = false) ∧ Below we.heap.size we wl) (fun i _ => k - (intOf i).toNat)
                case atStart => exact ⟨0, rfl, by omega, Lib.hid (fun j y hj _ => absurd hj (by omega)), Below.refl _ _⟩
                case round =>
                  rename World => wl
                  obtain ⟨m, rfl, hmk, HOI, hbl⟩ := hrel
                  have HWL := Lib.hid (HWE.out.trans (hbl.mono HWE.out.size))
                  have d5 := HB.out.c5 HWL.out
                  have hze : we.heap.size ≤ wl.heap.size := hbl.size
                  have hzl : wz.heap.size ≤ wl.heap.size := HWL.out.size
                  have hxe := HNE.out.keep hbl hwe
                  obtain ⟨y0, y1, y2, y3, y4, y5, y6⟩ := hxe.all0
                  clear hxe
                  have HBL := Lib.hid hbl; clear hbl
                  by_cases hmt : m < k
                  · skip
                    have hyk : r.held[m]? = some r.held[m] := List.getElem?_eq_getElem (by omega)
                    generalize r.held[m] = y at hyk
                    have HYB := Lib.hid (egetBang_of hyk)
                    have hya := (HC.out m y hyk).keep (HB.out.trans HWL.out) hbw
                    have z1 := hya.all.2.1
                    have z2 := hya.all.2.2.1
                    have HY := Lib.hid hyk; clear hyk hya
                    have hb1 : b < wl.heap.size := by omega
                    have hb2 : wr.heap.size < wl.heap.size := by omega
                    have hb3 : w.heap.size < wl.heap.size := by omega
                    have hml : m < r.held.length := by omega
                    obtain ⟨s1, hs1⟩ : ∃ q : Bool, (y.rep == x.rep) = q := ⟨_, rfl⟩
                    obtain ⟨s2, hs2⟩ : ∃ q : Bool, (y.seq == x.seq) = q := ⟨_, rfl⟩
                    have HS1 := Lib.hid hs1
                    have HS2 := Lib.hid hs2
                    cases s1
                    · skip
                      go_wp2_with fail
                      have p5 := fun p : Later wl => (p.bel.cell (p := ⟨w.heap.size, 5, none⟩) hb3).trans d5
                      have g1 := fun p : Later wl => (p.bel.cell (p := ⟨b, off + m * 7 + 1, none⟩) hb1).trans z1
                      have e1 := fun p : Later wl => (p.bel.cell (p := ⟨wr.heap.size, 1, none⟩) hb2).trans y1
                      have hm : Tryz.prog.follows .mixedOrders = true := HM.out
                      refine wp_region_later hm (by kernel_rfl) ?_
                      repeat (any_goals (first | go_big_quiet_step (fail) | quiet_step (fail)))
                      refine wpQuiet_nil ?_
                      intro wp hw'
                      obtain ⟨lp, hlp⟩ := hw'
                      have hbp := lp.bel
                      rw [← hlp] at hbp
                      clear hlp lp
                      have HBN := Lib.hid (hbp.mono hze)
                      have HBZ := Lib.hid (HWL.out.trans (hbp.mono hzl))
                      clear p5 g1 e1 hbp
                      go_wp2
                      go_roundw
                      case rel =>
                        refine ⟨m + 1, by go_num, by omega, Lib.hid (fun j z hj hz => ?_), HBL.out.trans HBN.out⟩
                        rcases Nat.lt_or_ge j m with h | h
                        · exact HOI.out j z h hz
                        · obtain rfl : j = m := by omega
                          rw [HY.out] at hz
                          rw [← Option.some.inj hz, HS1.out]
                          rfl
                      case measure => simp [intOf]; omega
                    · cases s2
                      · skip
                        go_wp2_with fail
                        have p5 := fun p : Later wl => (p.bel.cell (p := ⟨w.heap.size, 5, none⟩) hb3).trans d5
                        have g1 := fun p : Later wl => (p.bel.cell (p := ⟨b, off + m * 7 + 1, none⟩) hb1).trans z1
                        have e1 := fun p : Later wl => (p.bel.cell (p := ⟨wr.heap.size, 1, none⟩) hb2).trans y1
                        have g2 := fun p : Later wl => (p.bel.cell (p := ⟨b, off + m * 7 + 2, none⟩) hb1).trans z2
                        have e2 := fun p : Later wl => (p.bel.cell (p := ⟨wr.heap.size, 2, none⟩) hb2).trans y2
                        have hm : Tryz.prog.follows .mixedOrders = true := HM.out
                        refine wp_region_later hm (by kernel_rfl) ?_
                        repeat (any_goals (first | go_big_quiet_step (fail) | quiet_step (fail)))
                        refine wpQuiet_nil ?_
                        intro wp hw'
                        obtain ⟨lp, hlp⟩ := hw'
                        have hbp := lp.bel
                        rw [← hlp] at hbp
                        clear hlp lp
                        have HBN := Lib.hid (hbp.mono hze)
                        have HBZ := Lib.hid (HWL.out.trans (hbp.mono hzl))
                        clear p5 g1 e1 g2 e2 hbp
                        go_wp2
                        go_roundw
                        case rel =>
                          refine ⟨m + 1, by go_num, by omega, Lib.hid (fun j z hj hz => ?_), HBL.out.trans HBN.out⟩
                          rcases Nat.lt_or_ge j m with h | h
                          · exact HOI.out j z h hz
                          · obtain rfl : j = m := by omega
                            rw [HY.out] at hz
                            rw [← Option.some.inj hz, HS1.out, HS2.out]
                            rfl
                        case measure => simp [intOf]; omega
                      · skip
                        go_wp2_with fail
                        have p5 := fun p : Later wl => (p.bel.cell (p := ⟨w.heap.size, 5, none⟩) hb3).trans d5
                        have g1 := fun p : Later wl => (p.bel.cell (p := ⟨b, off + m * 7 + 1, none⟩) hb1).trans z1
                        have e1 := fun p : Later wl => (p.bel.cell (p := ⟨wr.heap.size, 1, none⟩) hb2).trans y1
                        have g2 := fun p : Later wl => (p.bel.cell (p := ⟨b, off + m * 7 + 2, none⟩) hb1).trans z2
                        have e2 := fun p : Later wl => (p.bel.cell (p := ⟨wr.heap.size, 2, none⟩) hb2).trans y2
                        have hm : Tryz.prog.follows .mixedOrders = true := HM.out
                        refine wp_region_later hm (by kernel_rfl) ?_
                        repeat (any_goals (first | go_big_quiet_step (fail) | quiet_step (fail)))
                        refine wpQuiet_nil ?_
                        intro wp hw'
                        obtain ⟨lp, hlp⟩ := hw'
                        have hbp := lp.bel
                        rw [← hlp] at hbp
                        clear hlp lp
                        have HBN := Lib.hid (hbp.mono hze)
                        have HBZ := Lib.hid (HWL.out.trans (hbp.mono hzl))
                        clear p5 g1 e1 g2 e2 hbp
                        go_wp2
                        go_ret
                        rw [F4.out (held_false hlt (by rw [HHE.out, before_false hmt HYB.out (by rw [HS1.out, HS2.out]; rfl)]; simp))]
                        exact ⟨rfl, HB.out.trans HBZ.out⟩
                  · skip
                    have hmm : m = k := by omega
                    have TB := Lib.hid (before_true (r := r) (k := k) (x := x) (fun j y hj hy => HOI.out j y (by omega) hy) (by omega))
                    clear HOI hmm
                    obtain ⟨t1, ht1⟩ : ∃ q : Bool, (x.kind == 1) = q := ⟨_, rfl⟩
                    obtain ⟨t3, ht3⟩ : ∃ q : Bool, (x.kind != 2) = q := ⟨_, rfl⟩
                    have HT1 := Lib.hid ht1
                    have HT3 := Lib.hid ht3
                    obtain ⟨t2, ht2⟩ : ∃ q : Bool, inB x r.flt = q := ⟨_, rfl⟩
                    obtain ⟨t4, ht4⟩ : ∃ q : Bool, hasB r.know x.rep x.seq = q := ⟨_, rfl⟩
                    have HT2 := Lib.hid ht2
                    have HT4 := Lib.hid ht4
                    have r4 := R4.out x HXO.out
                    have r5 := R5.out x HXO.out
                    rw [ht2] at r4
                    rw [ht4] at r5
                    unfold En.agg at r4 r5
                    have R4X := Lib.hid r4
                    have R5X := Lib.hid r5
                    clear r4 r5 ht2 ht4
                    cases t1
                    · skip
                      have c0 := HB.out.c0 HWL.out
                      have c1 := HB.out.c1 HWL.out
                      have c2 := HB.out.c2 HWL.out
                      have c3 := HB.out.c3 HWL.out
                      have c4 := HB.out.c4 HWL.out
                      have c5 := HB.out.c5 HWL.out
                      have c6 := HB.out.c6 HWL.out
                      have c7 := HB.out.c7 HWL.out
                      have c8 := HB.out.c8 HWL.out
                      have c9 := HB.out.c9 HWL.out
                      have c10 := HB.out.c10 HWL.out
                      have c11 := HB.out.c11 HWL.out
                      have c12 := HB.out.c12 HWL.out
                      cases t3
                      · skip
                        go_wp2_with fail
                        go_roundw
                        case rel =>
                          refine ⟨k + 1, by go_num, by omega, Lib.hid (fun j hj => ?_), HWL.out⟩
                          rcases Nat.lt_or_ge j k with h | h
                          · exact HO.out j h
                          · obtain rfl : j = k := by omega
                            rw [HHE.out, HQ1.out, TB.out, HT1.out, HT2.out, HT3.out, HT4.out]
                            rfl
                        case measure => simp [intOf]; omega
                      · skip
                        go_wp2_with fail
                        refine (R5X.out wl HWL.out).mono ?_
                        rintro en w7 ⟨rfl, hb7⟩
                        have HB7 := Lib.hid (HWL.out.trans (hb7.mono HWL.out.size)); clear hb7
                        cases t4
                        · skip
                          go_wp2_with fail
                          go_ret
                          rw [F4.out (held_false hlt (by rw [HHE.out, TB.out, HT1.out, HT2.out, HT3.out, HT4.out]; simp))]
                          exact ⟨rfl, HB.out.trans HB7.out⟩
                        · skip
                          go_wp2_with fail
                          go_roundw
                          case rel =>
                            refine ⟨k + 1, by go_num, by omega, Lib.hid (fun j hj => ?_), HB7.out⟩
                            rcases Nat.lt_or_ge j k with h | h
                            · exact HO.out j h
                            · obtain rfl : j = k := by omega
                              rw [HHE.out, HQ1.out, TB.out, HT1.out, HT2.out, HT3.out, HT4.out]
                              rfl
                          case measure => simp [intOf]; omega
                    · skip
                      have c0 := HB.out.c0 HWL.out
                      have c1 := HB.out.c1 HWL.out
                      have c2 := HB.out.c2 HWL.out
                      have c3 := HB.out.c3 HWL.out
                      have c4 := HB.out.c4 HWL.out
                      have c5 := HB.out.c5 HWL.out
                      have c6 := HB.out.c6 HWL.out
                      have c7 := HB.out.c7 HWL.out
                      have c8 := HB.out.c8 HWL.out
                      have c9 := HB.out.c9 HWL.out
                      have c10 := HB.out.c10 HWL.out
                      have c11 := HB.out.c11 HWL.out
                      have c12 := HB.out.c12 HWL.out
                      go_wp2_with fail
                      refine (R4X.out wl).mono ?_
                      rintro en w6 ⟨rfl, hb6⟩
                      have HB6 := Lib.hid (HWL.out.trans (hb6.mono hzl))
                      have he6 := ((EnAt.mk (x := x) (b := wr.heap.size) (o := 0) y0 y1 y2 y3 y4 y5 y6).keep hb6 (by omega)).all0
                      clear y0 y1 y2 y3 y4 y5 y6 c0 c1 c2 c3 c4 c5 c6 c7 c8 c9 c10 c11 c12
                      obtain ⟨y0, y1, y2, y3, y4, y5, y6⟩ := he6
                      clear hb6
                      cases t2
                      · skip
                        go_wp2_with fail
                        go_ret
                        rw [F4.out (held_false hlt (by rw [HHE.out, TB.out, HT1.out, HT2.out, HT3.out, HT4.out]; simp))]
                        exact ⟨rfl, HB.out.trans HB6.out⟩
                      · skip
                        have c0 := HB.out.c0 HB6.out
                        have c1 := HB.out.c1 HB6.out
                        have c2 := HB.out.c2 HB6.out
                        have c3 := HB.out.c3 HB6.out
                        have c4 := HB.out.c4 HB6.out
                        have c5 := HB.out.c5 HB6.out
                        have c6 := HB.out.c6 HB6.out
                        have c7 := HB.out.c7 HB6.out
                        have c8 := HB.out.c8 HB6.out
                        have c9 := HB.out.c9 HB6.out
                        have c10 := HB.out.c10 HB6.out
                        have c11 := HB.out.c11 HB6.out
                        have c12 := HB.out.c12 HB6.out
                        cases t3
                        · skip
                          go_wp2_with fail
                          go_roundw
                          case rel =>
                            refine ⟨k + 1, by go_num, by omega, Lib.hid (fun j hj => ?_), HB6.out⟩
                            rcases Nat.lt_or_ge j k with h | h
                            · exact HO.out j h
                            · obtain rfl : j = k := by omega
                              rw [HHE.out, HQ1.out, TB.out, HT1.out, HT2.out, HT3.out, HT4.out]
                              rfl
                          case measure => simp [intOf]; omega
                        · skip
                          go_wp2_with fail
                          refine (R5X.out w6 HB6.out).mono ?_
                          rintro en w7 ⟨rfl, hb7⟩
                          have HB7 := Lib.hid (HB6.out.trans (hb7.mono HB6.out.size)); clear hb7
                          cases t4
                          · skip
                            go_wp2_with fail
                            go_ret
                            rw [F4.out (held_false hlt (by rw [HHE.out, TB.out, HT1.out, HT2.out, HT3.out, HT4.out]; simp))]
                            exact ⟨rfl, HB.out.trans HB7.out⟩
                          · skip
                            go_wp2_with fail
                            go_roundw
                            case rel =>
                              refine ⟨k + 1, by go_num, by omega, Lib.hid (fun j hj => ?_), HB7.out⟩
                              rcases Nat.lt_or_ge j k with h | h
                              · exact HO.out j h
                              · obtain rfl : j = k := by omega
                                rw [HHE.out, HQ1.out, TB.out, HT1.out, HT2.out, HT3.out, HT4.out]
                                rfl
                            case measure => simp [intOf]; omega
              · cases q2
                · skip
                  go_wp2_with fail
                  generalize wr.alloc (.cells #[.int .u8 x.id, .int .u8 x.rep, .int .u32 x.seq, .int .u32 x.stamp, .int .i64 x.kind, .int .u8 x.cls, .int .u32 x.val] 62) = we at HNE HAL hwe ⊢
                  clear x0 x1 x2 x3 x4 x5 x6 c0 c3
                  have HWE := Lib.hid (HBB.out.trans (HAL.out.mono hzw))
                  go_loopw [7] (fun i wl => ∃ m : Nat, i = .int .i64 m ∧ m ≤ k ∧ Hid (∀ (j : Nat) (y : En), j < m → r.held[j]? = some y → ((y.rep == x.rep) && (y.seq == x.seq)) = false) ∧ Below we.heap.size we wl) (fun i _ => k - (intOf i).toNat)
                  case atStart => exact ⟨0, rfl, by omega, Lib.hid (fun j y hj _ => absurd hj (by omega)), Below.refl _ _⟩
                  case round =>
                    rename World => wl
                    obtain ⟨m, rfl, hmk, HOI, hbl⟩ := hrel
                    have HWL := Lib.hid (HWE.out.trans (hbl.mono HWE.out.size))
                    have d5 := HB.out.c5 HWL.out
                    have hze : we.heap.size ≤ wl.heap.size := hbl.size
                    have hzl : wz.heap.size ≤ wl.heap.size := HWL.out.size
                    have hxe := HNE.out.keep hbl hwe
                    obtain ⟨y0, y1, y2, y3, y4, y5, y6⟩ := hxe.all0
                    clear hxe
                    have HBL := Lib.hid hbl; clear hbl
                    by_cases hmt : m < k
                    · skip
                      have hyk : r.held[m]? = some r.held[m] := List.getElem?_eq_getElem (by omega)
                      generalize r.held[m] = y at hyk
                      have HYB := Lib.hid (egetBang_of hyk)
                      have hya := (HC.out m y hyk).keep (HB.out.trans HWL.out) hbw
                      have z1 := hya.all.2.1
                      have z2 := hya.all.2.2.1
                      have HY := Lib.hid hyk; clear hyk hya
                      have hb1 : b < wl.heap.size := by omega
                      have hb2 : wr.heap.size < wl.heap.size := by omega
                      have hb3 : w.heap.size < wl.heap.size := by omega
                      have hml : m < r.held.length := by omega
                      obtain ⟨s1, hs1⟩ : ∃ q : Bool, (y.rep == x.rep) = q := ⟨_, rfl⟩
                      obtain ⟨s2, hs2⟩ : ∃ q : Bool, (y.seq == x.seq) = q := ⟨_, rfl⟩
                      have HS1 := Lib.hid hs1
                      have HS2 := Lib.hid hs2
                      cases s1
                      · skip
                        go_wp2_with fail
                        have p5 := fun p : Later wl => (p.bel.cell (p := ⟨w.heap.size, 5, none⟩) hb3).trans d5
                        have g1 := fun p : Later wl => (p.bel.cell (p := ⟨b, off + m * 7 + 1, none⟩) hb1).trans z1
                        have e1 := fun p : Later wl => (p.bel.cell (p := ⟨wr.heap.size, 1, none⟩) hb2).trans y1
                        have hm : Tryz.prog.follows .mixedOrders = true := HM.out
                        refine wp_region_later hm (by kernel_rfl) ?_
                        repeat (any_goals (first | go_big_quiet_step (fail) | quiet_step (fail)))
                        refine wpQuiet_nil ?_
                        intro wp hw'
                        obtain ⟨lp, hlp⟩ := hw'
                        have hbp := lp.bel
                        rw [← hlp] at hbp
                        clear hlp lp
                        have HBN := Lib.hid (hbp.mono hze)
                        have HBZ := Lib.hid (HWL.out.trans (hbp.mono hzl))
                        clear p5 g1 e1 hbp
                        go_wp2
                        go_roundw
                        case rel =>
                          refine ⟨m + 1, by go_num, by omega, Lib.hid (fun j z hj hz => ?_), HBL.out.trans HBN.out⟩
                          rcases Nat.lt_or_ge j m with h | h
                          · exact HOI.out j z h hz
                          · obtain rfl : j = m := by omega
                            rw [HY.out] at hz
                            rw [← Option.some.inj hz, HS1.out]
                            rfl
                        case measure => simp [intOf]; omega
                      · cases s2
                        · skip
                          go_wp2_with fail
                          have p5 := fun p : Later wl => (p.bel.cell (p := ⟨w.heap.size, 5, none⟩) hb3).trans d5
                          have g1 := fun p : Later wl => (p.bel.cell (p := ⟨b, off + m * 7 + 1, none⟩) hb1).trans z1
                          have e1 := fun p : Later wl => (p.bel.cell (p := ⟨wr.heap.size, 1, none⟩) hb2).trans y1
                          have g2 := fun p : Later wl => (p.bel.cell (p := ⟨b, off + m * 7 + 2, none⟩) hb1).trans z2
                          have e2 := fun p : Later wl => (p.bel.cell (p := ⟨wr.heap.size, 2, none⟩) hb2).trans y2
                          have hm : Tryz.prog.follows .mixedOrders = true := HM.out
                          refine wp_region_later hm (by kernel_rfl) ?_
                          repeat (any_goals (first | go_big_quiet_step (fail) | quiet_step (fail)))
                          refine wpQuiet_nil ?_
                          intro wp hw'
                          obtain ⟨lp, hlp⟩ := hw'
                          have hbp := lp.bel
                          rw [← hlp] at hbp
                          clear hlp lp
                          have HBN := Lib.hid (hbp.mono hze)
                          have HBZ := Lib.hid (HWL.out.trans (hbp.mono hzl))
                          clear p5 g1 e1 g2 e2 hbp
                          go_wp2
                          go_roundw
                          case rel =>
                            refine ⟨m + 1, by go_num, by omega, Lib.hid (fun j z hj hz => ?_), HBL.out.trans HBN.out⟩
                            rcases Nat.lt_or_ge j m with h | h
                            · exact HOI.out j z h hz
                            · obtain rfl : j = m := by omega
                              rw [HY.out] at hz
                              rw [← Option.some.inj hz, HS1.out, HS2.out]
                              rfl
                          case measure => simp [intOf]; omega
                        · skip
                          go_wp2_with fail
                          have p5 := fun p : Later wl => (p.bel.cell (p := ⟨w.heap.size, 5, none⟩) hb3).trans d5
                          have g1 := fun p : Later wl => (p.bel.cell (p := ⟨b, off + m * 7 + 1, none⟩) hb1).trans z1
                          have e1 := fun p : Later wl => (p.bel.cell (p := ⟨wr.heap.size, 1, none⟩) hb2).trans y1
                          have g2 := fun p : Later wl => (p.bel.cell (p := ⟨b, off + m * 7 + 2, none⟩) hb1).trans z2
                          have e2 := fun p : Later wl => (p.bel.cell (p := ⟨wr.heap.size, 2, none⟩) hb2).trans y2
                          have hm : Tryz.prog.follows .mixedOrders = true := HM.out
                          refine wp_region_later hm (by kernel_rfl) ?_
                          repeat (any_goals (first | go_big_quiet_step (fail) | quiet_step (fail)))
                          refine wpQuiet_nil ?_
                          intro wp hw'
                          obtain ⟨lp, hlp⟩ := hw'
                          have hbp := lp.bel
                          rw [← hlp] at hbp
                          clear hlp lp
                          have HBN := Lib.hid (hbp.mono hze)
                          have HBZ := Lib.hid (HWL.out.trans (hbp.mono hzl))
                          clear p5 g1 e1 g2 e2 hbp
                          go_wp2
                          go_ret
                          rw [F4.out (held_false hlt (by rw [HHE.out, before_false hmt HYB.out (by rw [HS1.out, HS2.out]; rfl)]; simp))]
                          exact ⟨rfl, HB.out.trans HBZ.out⟩
                    · skip
                      have hmm : m = k := by omega
                      have TB := Lib.hid (before_true (r := r) (k := k) (x := x) (fun j y hj hy => HOI.out j y (by omega) hy) (by omega))
                      clear HOI hmm
                      obtain ⟨t1, ht1⟩ : ∃ q : Bool, (x.kind == 1) = q := ⟨_, rfl⟩
                      obtain ⟨t3, ht3⟩ : ∃ q : Bool, (x.kind != 2) = q := ⟨_, rfl⟩
                      have HT1 := Lib.hid ht1
                      have HT3 := Lib.hid ht3
                      obtain ⟨t2, ht2⟩ : ∃ q : Bool, inB x r.flt = q := ⟨_, rfl⟩
                      obtain ⟨t4, ht4⟩ : ∃ q : Bool, hasB r.know x.rep x.seq = q := ⟨_, rfl⟩
                      have HT2 := Lib.hid ht2
                      have HT4 := Lib.hid ht4
                      have r4 := R4.out x HXO.out
                      have r5 := R5.out x HXO.out
                      rw [ht2] at r4
                      rw [ht4] at r5
                      unfold En.agg at r4 r5
                      have R4X := Lib.hid r4
                      have R5X := Lib.hid r5
                      clear r4 r5 ht2 ht4
                      cases t1
                      · skip
                        have c0 := HB.out.c0 HWL.out
                        have c1 := HB.out.c1 HWL.out
                        have c2 := HB.out.c2 HWL.out
                        have c3 := HB.out.c3 HWL.out
                        have c4 := HB.out.c4 HWL.out
                        have c5 := HB.out.c5 HWL.out
                        have c6 := HB.out.c6 HWL.out
                        have c7 := HB.out.c7 HWL.out
                        have c8 := HB.out.c8 HWL.out
                        have c9 := HB.out.c9 HWL.out
                        have c10 := HB.out.c10 HWL.out
                        have c11 := HB.out.c11 HWL.out
                        have c12 := HB.out.c12 HWL.out
                        cases t3
                        · skip
                          go_wp2_with fail
                          go_roundw
                          case rel =>
                            refine ⟨k + 1, by go_num, by omega, Lib.hid (fun j hj => ?_), HWL.out⟩
                            rcases Nat.lt_or_ge j k with h | h
                            · exact HO.out j h
                            · obtain rfl : j = k := by omega
                              rw [HHE.out, HQ1.out, HQ2.out, TB.out, HT1.out, HT2.out, HT3.out, HT4.out]
                              rfl
                          case measure => simp [intOf]; omega
                        · skip
                          go_wp2_with fail
                          refine (R5X.out wl HWL.out).mono ?_
                          rintro en w7 ⟨rfl, hb7⟩
                          have HB7 := Lib.hid (HWL.out.trans (hb7.mono HWL.out.size)); clear hb7
                          cases t4
                          · skip
                            go_wp2_with fail
                            go_ret
                            rw [F4.out (held_false hlt (by rw [HHE.out, TB.out, HT1.out, HT2.out, HT3.out, HT4.out]; simp))]
                            exact ⟨rfl, HB.out.trans HB7.out⟩
                          · skip
                            go_wp2_with fail
                            go_roundw
                            case rel =>
                              refine ⟨k + 1, by go_num, by omega, Lib.hid (fun j hj => ?_), HB7.out⟩
                              rcases Nat.lt_or_ge j k with h | h
                              · exact HO.out j h
                              · obtain rfl : j = k := by omega
                                rw [HHE.out, HQ1.out, HQ2.out, TB.out, HT1.out, HT2.out, HT3.out, HT4.out]
                                rfl
                            case measure => simp [intOf]; omega
                      · skip
                        have c0 := HB.out.c0 HWL.out
                        have c1 := HB.out.c1 HWL.out
                        have c2 := HB.out.c2 HWL.out
                        have c3 := HB.out.c3 HWL.out
                        have c4 := HB.out.c4 HWL.out
                        have c5 := HB.out.c5 HWL.out
                        have c6 := HB.out.c6 HWL.out
                        have c7 := HB.out.c7 HWL.out
                        have c8 := HB.out.c8 HWL.out
                        have c9 := HB.out.c9 HWL.out
                        have c10 := HB.out.c10 HWL.out
                        have c11 := HB.out.c11 HWL.out
                        have c12 := HB.out.c12 HWL.out
                        go_wp2_with fail
                        refine (R4X.out wl).mono ?_
                        rintro en w6 ⟨rfl, hb6⟩
                        have HB6 := Lib.hid (HWL.out.trans (hb6.mono hzl))
                        have he6 := ((EnAt.mk (x := x) (b := wr.heap.size) (o := 0) y0 y1 y2 y3 y4 y5 y6).keep hb6 (by omega)).all0
                        clear y0 y1 y2 y3 y4 y5 y6 c0 c1 c2 c3 c4 c5 c6 c7 c8 c9 c10 c11 c12
                        obtain ⟨y0, y1, y2, y3, y4, y5, y6⟩ := he6
                        clear hb6
                        cases t2
                        · skip
                          go_wp2_with fail
                          go_ret
                          rw [F4.out (held_false hlt (by rw [HHE.out, TB.out, HT1.out, HT2.out, HT3.out, HT4.out]; simp))]
                          exact ⟨rfl, HB.out.trans HB6.out⟩
                        · skip
                          have c0 := HB.out.c0 HB6.out
                          have c1 := HB.out.c1 HB6.out
                          have c2 := HB.out.c2 HB6.out
                          have c3 := HB.out.c3 HB6.out
                          have c4 := HB.out.c4 HB6.out
                          have c5 := HB.out.c5 HB6.out
                          have c6 := HB.out.c6 HB6.out
                          have c7 := HB.out.c7 HB6.out
                          have c8 := HB.out.c8 HB6.out
                          have c9 := HB.out.c9 HB6.out
                          have c10 := HB.out.c10 HB6.out
                          have c11 := HB.out.c11 HB6.out
                          have c12 := HB.out.c12 HB6.out
                          cases t3
                          · skip
                            go_wp2_with fail
                            go_roundw
                            case rel =>
                              refine ⟨k + 1, by go_num, by omega, Lib.hid (fun j hj => ?_), HB6.out⟩
                              rcases Nat.lt_or_ge j k with h | h
                              · exact HO.out j h
                              · obtain rfl : j = k := by omega
                                rw [HHE.out, HQ1.out, HQ2.out, TB.out, HT1.out, HT2.out, HT3.out, HT4.out]
                                rfl
                            case measure => simp [intOf]; omega
                          · skip
                            go_wp2_with fail
                            refine (R5X.out w6 HB6.out).mono ?_
                            rintro en w7 ⟨rfl, hb7⟩
                            have HB7 := Lib.hid (HB6.out.trans (hb7.mono HB6.out.size)); clear hb7
                            cases t4
                            · skip
                              go_wp2_with fail
                              go_ret
                              rw [F4.out (held_false hlt (by rw [HHE.out, TB.out, HT1.out, HT2.out, HT3.out, HT4.out]; simp))]
                              exact ⟨rfl, HB.out.trans HB7.out⟩
                            · skip
                              go_wp2_with fail
                              go_roundw
                              case rel =>
                                refine ⟨k + 1, by go_num, by omega, Lib.hid (fun j hj => ?_), HB7.out⟩
                                rcases Nat.lt_or_ge j k with h | h
                                · exact HO.out j h
                                · obtain rfl : j = k := by omega
                                  rw [HHE.out, HQ1.out, HQ2.out, TB.out, HT1.out, HT2.out, HT3.out, HT4.out]
                                  rfl
                              case measure => simp [intOf]; omega
                · skip
                  go_wp2
                  go_ret
                  rw [F4.out (held_false hlt (by rw [HHE.out, HQ1.out, HQ2.out]; rfl))]
                  exact ⟨rfl, HB.out.trans (HBB.out.trans (HAL.out.mono hzw))⟩
            · skip
              have hkk : k = r.held.length := by omega
              have T4 := Lib.hid (held_true (r := r) (fun j hj => HO.out j (by omega)))
              have HB6 := Lib.hid hb
              clear HO hb hkk
              go_wp2
              go_ret
              rw [F5.out T2.out T3.out T4.out]
              exact ⟨rfl, HB.out.trans HB6.out⟩
end Go.Proofs.YtfjaeohfigcciabGreatDoor

