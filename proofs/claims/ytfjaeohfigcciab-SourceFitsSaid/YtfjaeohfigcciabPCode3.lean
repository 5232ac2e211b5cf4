/- The contract of replica.rightHeld. -/
import Derived.Test.YtfjaeohfigcciabPCode2
import Derived.Deep.RegionWith
namespace Go.Proofs.Ytfjaeohfigcciab
open Go.RowKit

theorem ESl.take {w : World} {B : Nat} {A : Option Addr} {n c : Nat} {zs : List En} (h : ESl w B (.slice A n c) zs) {i : Nat} (hi : i ≤ zs.length) : ESl w B (.slice A i c) (zs.take i) := by
  obtain ⟨A', c', hv, hn, hok, hA⟩ := h
  injection hv with h1 h2 h3
  subst h1 h2 h3
  refine ⟨A, c, by rw [List.length_take, Nat.min_eq_left hi], ⟨hn.1, by have := hn.2; rw [List.length_take]; omega⟩, fun x hx => hok x (List.mem_of_mem_take hx), fun hne => ?_⟩
  obtain ⟨b, off, rfl, hlt, hc⟩ := hA (fun h => hne (by rw [h]; simp))
  refine ⟨b, off, rfl, hlt, fun j x hj => hc j x ?_⟩
  rw [List.getElem?_take] at hj
  split at hj
  · exact hj
  · cases hj
theorem rheld_true {r : Rp} (h1 : erightB r.held = true) (h : ∀ j, j < r.held.length → rheldAt r j = true) : rheldB r = true := by
  unfold rheldB
  rw [h1, Bool.true_and]
  exact List.all_eq_true.2 fun j hj => h j (List.mem_range.1 hj)
theorem rheld_false {r : Rp} {k : Nat} (hk : k < r.held.length) (h : rheldAt r k = false) : rheldB r = false := by
  unfold rheldB
  rw [Bool.and_eq_false_iff, List.all_eq_false]
  exact .inr ⟨k, List.mem_range.2 hk, by simp [h]⟩
theorem rheld_false0 {r : Rp} (h : erightB r.held = false) : rheldB r = false := by
  unfold rheldB
  rw [h]; rfl

set_option maxHeartbeats 16000000 in
set_option maxRecDepth 100000 in
theorem prightHeld_any (v : Value) (r : Rp) (w : World) (hv : RpV w w.heap.size v r) (h2 : r.held.length ≤ 1000) :
    Calls Try.prog 34 #[v] w fun e w' => e = .returned (.bool (rheldB r)) ∧ Below w.heap.size w w' := by
  obtain ⟨vk, vh, vo, rfl, hk, hh, ho, hok⟩ := hv
  obtain ⟨A, c, rfl, hcap, okh, hAh⟩ := hh
  have hh : ESl w w.heap.size (.slice A r.held.length c) r.held := ⟨A, c, rfl, hcap, okh, hAh⟩
  have hcc := hcap.2
  clear hcap okh hAh
  have HB := Lib.hid (RBox.start hk hh ho hok)
  have F0 := Lib.hid (fun h => rheld_false0 (r := r) h)
  have F1 := Lib.hid (fun (k : Nat) (hk : k < r.held.length) h => rheld_false (r := r) (k := k) hk h)
  have F2 := Lib.hid (fun h1 h => rheld_true (r := r) h1 h)
  have r1 := fun w1 (hb : Below (w.alloc (.cells (r.cells vk (.slice A r.held.length c) vo) 28)).heap.size (w.alloc (.cells (r.cells vk (.slice A r.held.length c) vo) 28)) w1) => iRight_any w1 (.slice A r.held.length c) r.held (hh.later (HB.out.trans hb)) (by omega)
  have r2 := fun (x : En) (hx : x.ok) w1 (hb : Below (w.alloc (.cells (r.cells vk (.slice A r.held.length c) vo) 28)).heap.size (w.alloc (.cells (r.cells vk (.slice A r.held.length c) vo) 28)) w1) => pmayHold_any _ r x w1 (HB.out.val hb) hx
  have r3 := fun (e : En) (B i : Nat) (hi : i ≤ r.held.length) w1 (hb : Below (w.alloc (.cells (r.cells vk (.slice A r.held.length c) vo) 28)).heap.size (w.alloc (.cells (r.cells vk (.slice A r.held.length c) vo) 28)) w1) (h1 : B < w1.heap.size) (he : EnAt w1 B 0 e) => same_any e B (.slice A i c) (r.held.take i) w1 ((hh.later (HB.out.trans hb)).take hi) (by rw [List.length_take]; omega) h1 he
  have R3 := Lib.hid r3; clear r3
  generalize hbz : erightB r.held = b1 at r1
  have HE := Lib.hid hbz; clear hbz
  obtain ⟨A', c', hcv, _, ok2, hA⟩ := hh
  injection hcv with e1 _ e3
  subst e1 e3
  have AH := Lib.hid hA; clear hA
  have OK2 := Lib.hid ok2; clear ok2 hk ho hok
  generalize hpp : rheldB r = P at F0 F1 F2 ⊢
  clear hpp
  unfold Rp.cells at HB r1 r2 R3 ⊢
  have R1 := Lib.hid r1; clear r1
  have R2 := Lib.hid r2; clear r2
  cases b1
  · go_enter Try.func34, Try.ntmps34
    go_wp2_with fail
    refine (R1.out _ (Below.refl _ _)).mono ?_
    rintro e w1 ⟨rfl, hb1⟩
    have HB1 := Lib.hid hb1; clear hb1
    go_wp2_with fail
    go_ret
    rw [F0.out HE.out]
    exact ⟨rfl, HB.out.trans HB1.out⟩
  · go_enter Try.func34, Try.ntmps34
    go_wp2_with fail
    refine (R1.out _ (Below.refl _ _)).mono ?_
    rintro e w1 ⟨rfl, hb1⟩
    have m5 := HB.out.c5 (w1 := w1) hb1
    have HB1 := Lib.hid hb1; clear hb1
    generalize w.alloc (.cells #[.int .u8 r.rep, .int .u8 r.flt, .int .u32 r.epoch, .int .u32 r.seq, vk, .slice A r.held.length c, .bool r.ses.on, .int .u32 r.ses.num, .int .u8 r.ses.src, .int .u8 r.ses.cur, .int .u32 r.ses.epoch, vo, .int .u32 r.ses.last] 28) = wz at HB HB1 R1 R2 R3
    clear R1
    have hm : Try.prog.follows .mixedOrders = true := by kernel_rfl
    have HM := Lib.hid hm; clear hm
    go_wp2_with fail
    go_loopw [12] (fun i wr => ∃ k : Nat, i = .int .i64 k ∧ k ≤ r.held.length ∧ Hid (∀ j : Nat, j < k → rheldAt r j = true) ∧ Below wz.heap.size wz wr) (fun i _ => r.held.length - (intOf i).toNat)
    case atStart => exact ⟨0, rfl, by omega, Lib.hid (fun j hj => absurd hj (by omega)), HB1.out⟩
    case round =>
      rename World => wr
      obtain ⟨k, rfl, hk, HO, hb⟩ := hrel
      clear m5
      by_cases hlt : k < r.held.length
      · skip
        obtain ⟨b, off, rfl, hbw, hc⟩ := AH.out (by intro h; simp [h] at hlt)
        have hxk : r.held[k]? = some r.held[k] := List.getElem?_eq_getElem hlt
        generalize r.held[k] = x at hxk
        have HXB := Lib.hid (egetBang_of hxk)
        have HXO := Lib.hid (OK2.out x (List.mem_of_getElem? hxk))
        have hxa := (hc k x hxk).keep (HB.out.trans hb) hbw
        obtain ⟨x0, x1, x2, x3, x4, x5, x6⟩ := hxa.all
        clear hxa
        have hzw : wz.heap.size ≤ wr.heap.size := hb.size
        have hwlt := HB.out.lt
        clear hxk hc
        have HBB := Lib.hid hb; clear hb
        have hbr : b < wr.heap.size := by omega
        have hwr : w.heap.size < wr.heap.size := by omega
        have HNE := Lib.hid (new_entry wr x 43)
        have HAL := Lib.hid (al1 wr (.cells #[.int .u8 x.id, .int .u8 x.rep, .int .u32 x.seq, .int .u32 x.stamp, .int .i64 x.kind, .int .u8 x.cls, .int .u32 x.val] 43))
        have hwe : wr.heap.size < (wr.alloc (.cells #[.int .u8 x.id, .int .u8 x.rep, .int .u32 x.seq, .int .u32 x.stamp, .int .i64 x.kind, .int .u8 x.cls, .int .u32 x.val] 43)).heap.size := by simp
        have hk0 : (0 : Int) ≤ (k : Int) := by omega
        have hkc : (k : Int) ≤ (c : Int) := by omega
        go_wp2_with fail
        generalize wr.alloc (.cells #[.int .u8 x.id, .int .u8 x.rep, .int .u32 x.seq, .int .u32 x.stamp, .int .i64 x.kind, .int .u8 x.cls, .int .u32 x.val] 43) = we at HNE HAL hwe ⊢
        clear x0 x1 x2 x3 x4 x5 x6
        have HWE := Lib.hid (HBB.out.trans (HAL.out.mono hzw))
        have KS := Lib.hid (fun w1 (hb : Below we.heap.size we w1) => (⟨HB.out.c0 (HWE.out.trans (hb.mono HWE.out.size)), HB.out.c1 (HWE.out.trans (hb.mono HWE.out.size)), HB.out.c2 (HWE.out.trans (hb.mono HWE.out.size)), HB.out.c3 (HWE.out.trans (hb.mono HWE.out.size)), HB.out.c4 (HWE.out.trans (hb.mono HWE.out.size)), HB.out.c5 (HWE.out.trans (hb.mono HWE.out.size)), HB.out.c6 (HWE.out.trans (hb.mono HWE.out.size)), HB.out.c7 (HWE.out.trans (hb.mono HWE.out.size)), HB.out.c8 (HWE.out.trans (hb.mono HWE.out.size)), HB.out.c9 (HWE.out.trans (hb.mono HWE.out.size)), HB.out.c10 (HWE.out.trans (hb.mono HWE.out.size)), HB.out.c11 (HWE.out.trans (hb.mono HWE.out.size)), HB.out.c12 (HWE.out.trans (hb.mono HWE.out.size)), (HNE.out.keep hb hwe).all0.1, (HNE.out.keep hb hwe).all0.2.1, (HNE.out.keep hb hwe).all0.2.2.1, (HNE.out.keep hb hwe).all0.2.2.2.1, (HNE.out.keep hb hwe).all0.2.2.2.2.1, (HNE.out.keep hb hwe).all0.2.2.2.2.2.1, (HNE.out.keep hb hwe).all0.2.2.2.2.2.2⟩ : (fun w' => w'.cell? ⟨w.heap.size, 0, none⟩ = some (.int .u8 r.rep) ∧ w'.cell? ⟨w.heap.size, 1, none⟩ = some (.int .u8 r.flt) ∧ w'.cell? ⟨w.heap.size, 2, none⟩ = some (.int .u32 r.epoch) ∧ w'.cell? ⟨w.heap.size, 3, none⟩ = some (.int .u32 r.seq) ∧ w'.cell? ⟨w.heap.size, 4, none⟩ = some (vk) ∧ w'.cell? ⟨w.heap.size, 5, none⟩ = some (.slice (some ⟨b, off, none⟩) r.held.length c) ∧ w'.cell? ⟨w.heap.size, 6, none⟩ = some (.bool r.ses.on) ∧ w'.cell? ⟨w.heap.size, 7, none⟩ = some (.int .u32 r.ses.num) ∧ w'.cell? ⟨w.heap.size, 8, none⟩ = some (.int .u8 r.ses.src) ∧ w'.cell? ⟨w.heap.size, 9, none⟩ = some (.int .u8 r.ses.cur) ∧ w'.cell? ⟨w.heap.size, 10, none⟩ = some (.int .u32 r.ses.epoch) ∧ w'.cell? ⟨w.heap.size, 11, none⟩ = some (vo) ∧ w'.cell? ⟨w.heap.size, 12, none⟩ = some (.int .u32 r.ses.last) ∧ w'.cell? ⟨wr.heap.size, 0, none⟩ = some (.int .u8 x.id) ∧ w'.cell? ⟨wr.heap.size, 1, none⟩ = some (.int .u8 x.rep) ∧ w'.cell? ⟨wr.heap.size, 2, none⟩ = some (.int .u32 x.seq) ∧ w'.cell? ⟨wr.heap.size, 3, none⟩ = some (.int .u32 x.stamp) ∧ w'.cell? ⟨wr.heap.size, 4, none⟩ = some (.int .i64 x.kind) ∧ w'.cell? ⟨wr.heap.size, 5, none⟩ = some (.int .u8 x.cls) ∧ w'.cell? ⟨wr.heap.size, 6, none⟩ = some (.int .u32 x.val)) w1))
        have HAT := Lib.hid (show rheldAt r k = (mayB r x && !(r.held.take k).any (fun y => sameC x y)) by unfold rheldAt; rw [HXB.out])
        have r2 := R2.out x HXO.out
        have r3 := fun B => R3.out x B k (Nat.le_of_lt hlt)
        generalize mayB r x = b2 at HAT r2
        have R2X := Lib.hid r2; clear r2
        have hs := KS.out we (Below.refl _ _)
        have hm : Try.prog.follows .mixedOrders = true := HM.out
        cases b2
        · skip
          have F := Lib.hid (F1.out k hlt (by rw [HAT.out]; rfl))
          clear hs
          have p0 := fun p : Later we => HB.out.c0 (HWE.out.trans (p.bel.mono HWE.out.size))
          have p1 := fun p : Later we => HB.out.c1 (HWE.out.trans (p.bel.mono HWE.out.size))
          have p2 := fun p : Later we => HB.out.c2 (HWE.out.trans (p.bel.mono HWE.out.size))
          have p3 := fun p : Later we => HB.out.c3 (HWE.out.trans (p.bel.mono HWE.out.size))
          have p4 := fun p : Later we => HB.out.c4 (HWE.out.trans (p.bel.mono HWE.out.size))
          have p5 := fun p : Later we => HB.out.c5 (HWE.out.trans (p.bel.mono HWE.out.size))
          have p6 := fun p : Later we => HB.out.c6 (HWE.out.trans (p.bel.mono HWE.out.size))
          have p7 := fun p : Later we => HB.out.c7 (HWE.out.trans (p.bel.mono HWE.out.size))
          have p8 := fun p : Later we => HB.out.c8 (HWE.out.trans (p.bel.mono HWE.out.size))
          have p9 := fun p : Later we => HB.out.c9 (HWE.out.trans (p.bel.mono HWE.out.size))
          have p10 := fun p : Later we => HB.out.c10 (HWE.out.trans (p.bel.mono HWE.out.size))
          have p11 := fun p : Later we => HB.out.c11 (HWE.out.trans (p.bel.mono HWE.out.size))
          have p12 := fun p : Later we => HB.out.c12 (HWE.out.trans (p.bel.mono HWE.out.size))
          have z0 := fun p : Later we => (HNE.out.later hwe p).all0.1
          have z1 := fun p : Later we => (HNE.out.later hwe p).all0.2.1
          have z2 := fun p : Later we => (HNE.out.later hwe p).all0.2.2.1
          have z3 := fun p : Later we => (HNE.out.later hwe p).all0.2.2.2.1
          have z4 := fun p : Later we => (HNE.out.later hwe p).all0.2.2.2.2.1
          have z5 := fun p : Later we => (HNE.out.later hwe p).all0.2.2.2.2.2.1
          have z6 := fun p : Later we => (HNE.out.later hwe p).all0.2.2.2.2.2.2
          refine wp_region_later hm (by kernel_rfl) ?_
          repeat (any_goals (first | go_big_quiet_step (first | (go_at_call 46; exact Calls.later (R2X.out _ (HWE.out.trans ((Later.bel _).mono HWE.out.size))))) | quiet_step (first | (go_at_call 46; exact Calls.later (R2X.out _ (HWE.out.trans ((Later.bel _).mono HWE.out.size)))))))
          refine wpQuiet_nil ?_
          intro wp hw'
          obtain ⟨lp, hlp⟩ := hw'
          have hbp := lp.bel
          rw [← hlp] at hbp
          clear hlp lp
          have HBN := Lib.hid (HB.out.trans (HWE.out.trans (hbp.mono HWE.out.size)))
          clear hbp p0 p1 p2 p3 p4 p5 p6 p7 p8 p9 p10 p11 p12 z0 z1 z2 z3 z4 z5 z6
          go_wp2
          go_ret
          rw [F.out]
          exact ⟨rfl, HBN.out⟩
        · skip
          clear hs
          generalize hq : (r.held.take k).any (fun y => sameC x y) = b4 at HAT r3
          clear hq
          have R3X := Lib.hid r3; clear r3
          have c0 := HB.out.c0 HWE.out
          have c1 := HB.out.c1 HWE.out
          have c2 := HB.out.c2 HWE.out
          have c3 := HB.out.c3 HWE.out
          have c4 := HB.out.c4 HWE.out
          have c5 := HB.out.c5 HWE.out
          have c6 := HB.out.c6 HWE.out
          have c7 := HB.out.c7 HWE.out
          have c8 := HB.out.c8 HWE.out
          have c9 := HB.out.c9 HWE.out
          have c10 := HB.out.c10 HWE.out
          have c11 := HB.out.c11 HWE.out
          have c12 := HB.out.c12 HWE.out
          obtain ⟨y0, y1, y2, y3, y4, y5, y6⟩ := HNE.out.all0
          have hwwe : w.heap.size < we.heap.size := by omega
          go_region_with (first
            | (go_at_call 46
               refine (R2X.out _ (by first | exact HWE.out | exact HWE.out.drew)).mono ?_
               rintro e w6 ⟨rfl, hb6⟩
               have hb6 : Below we.heap.size we w6 := by first | exact hb6 | exact (Below.refl _ we).drew.trans hb6
               have d5 := HB.out.c5 (HWE.out.trans (hb6.mono HWE.out.size))
               obtain ⟨u0, u1, u2, u3, u4, u5, u6⟩ := (HNE.out.keep hb6 hwe).all0
               have HB6 := Lib.hid hb6
               have h6 : wr.heap.size < w6.heap.size := Nat.lt_of_lt_of_le hwe hb6.size
               have h6' : w.heap.size < w6.heap.size := by omega
               clear hb6 c0 c1 c2 c3 c4 c5 c6 c7 c8 c9 c10 c11 c12 y0 y1 y2 y3 y4 y5 y6)
            | (go_at_call 48
               refine (psameWrite_any x _).mono ?_
               rintro e w7 ⟨rfl, rfl⟩)
            | (go_at_call 47
               refine (R3X.out w6.heap.size _ (HWE.out.trans ((HB6.out.trans ((al1 w6 _).mono HB6.out.size)).mono HWE.out.size)) (by simp) (new_entry w6 x 43)).mono ?_
               rintro e w8 ⟨rfl, hb8⟩))
          all_goals
            have HB8 := Lib.hid (HWE.out.trans ((HB6.out.trans (((al1 w6 _).trans (hb8.mono (al1 w6 _).size)).mono HB6.out.size)).mono HWE.out.size))
            clear hb8 d5 u0 u1 u2 u3 u4 u5 u6
            cases b4
            · go_wp2
              refine ⟨⟨k + 1, by go_num, by omega, Lib.hid (fun j hj => ?_), HB8.out⟩, by simp [intOf]; omega⟩
              rcases Nat.lt_or_ge j k with h | h
              · exact HO.out j h
              · obtain rfl : j = k := by omega
                rw [HAT.out]; rfl
            · go_wp2
              go_ret
              rw [F1.out k hlt (by rw [HAT.out]; rfl)]
              exact ⟨rfl, HB.out.trans HB8.out⟩
      · skip
        have HB6 := Lib.hid hb
        have HT := Lib.hid (F2.out HE.out (fun j hj => HO.out j (by omega)))
        clear HO hb
        go_wp2
        go_ret
        rw [HT.out]
        exact ⟨rfl, HB.out.trans HB6.out⟩
end Go.Proofs.Ytfjaeohfigcciab

