/- Texts in one: TBeginsD. -/
import Derived.Test.YtfjaeohfigcciabGreatDoorQB42
set_option linter.unusedVariables false
set_option linter.unusedSimpArgs false
set_option linter.unusedSectionVars false
set_option linter.unnecessarySimpa false
namespace Go.Proofs.YtfjaeohfigcciabGreatDoor
open Go.RowKit

set_option maxHeartbeats 16000000 in
set_option maxRecDepth 100000 in
theorem tbegins_d (v : Value) (r : Rp) (src : Int) (w : World) (hv : RpV w w.heap.size v r) (hg : ErrVar w) (hsrc : 0 ≤ src ∧ src ≤ 255) (haw : AwakeSaidE 6) (hbe : BeginSaid 14) (hag : AgainSaid 18) (hqu : QuitSaid 19) (hri : RightSaid 17) (hs : shortR r) (hc : (beginR r src).2.2 ≠ 0) (hon : onR r ≠ 0) :
    Calls Tryz.prog 4 #[v, .int .u8 src] w fun e w' => e = .returned (.bool true) ∧ Below w.heap.size w w' := by
  have RV := Lib.hid hv
  have HS := Lib.hid hs
  have AW := Lib.hid (fun w1 (hb : Below w.heap.size w w1) => haw w1 (hg.later hb))
  have SH := Lib.hid (fun w1 (hb : Below w.heap.size w w1) => q5Short_any v r w1 (hv.later hb))
  have hs' : decide (r.know.length ≤ 300 ∧ r.held.length ≤ 300 ∧ r.ses.offer.length ≤ 300) = true := decide_eq_true hs
  rw [hs'] at SH
  have BE := Lib.hid (fun w1 (hb : Below w.heap.size w w1) => hbe v src r w1 (hg.later hb) (hv.later hb) hsrc hs)
  have BF := Lib.hid (fun w1 (hb : Below w.heap.size w w1) => q7Begin_any v r src w1 (hv.later hb) hsrc (Nat.le_trans hs.1 (by decide)) (Nat.le_trans hs.2.1 (by decide)) (Nat.le_trans hs.2.2 (by decide)))
  have AG := Lib.hid (fun w1 (hb : Below w.heap.size w w1) => hag v r w1 (hg.later hb) (hv.later hb) hs)
  have QU := Lib.hid (fun w1 (hb : Below w.heap.size w w1) => hqu v r w1 (hg.later hb) (hv.later hb) hs)
  have ON := Lib.hid (fun w1 (hb : Below w.heap.size w w1) => q7On_any v r w1 (hv.later hb) (Nat.le_trans hs.1 (by decide)) (Nat.le_trans hs.2.1 (by decide)) (Nat.le_trans hs.2.2 (by decide)))
  have LN := Lib.hid (begin_lens hs src)
  have RI := Lib.hid hri
  clear haw hbe hag hqu hri hs hs' hg
  obtain ⟨vk, vh, vo, rfl, hk, hh, ho, hok⟩ := hv
  have PVV := Lib.hid (fun W (hb : Below w.heap.size w W) => (⟨vk, .slice none 0 0, .slice none 0 0, rfl, (hk.below hb).more hb.size, ESl.nil _ _, Sl.nil _ _, pull_ok hok⟩ : NtV W W.heap.size (.agg ((pullP r).cells vk (.slice none 0 0) (.slice none 0 0))) (pullP r)))
  have OVV := Lib.hid (fun W (hb : Below w.heap.size w W) => (⟨vk, vh, .slice none 0 0, rfl, (hk.below hb).more hb.size, hh.later hb, Sl.nil _ _, off_ok hok⟩ : RpV W W.heap.size (.agg ((offP r).cells vk vh (.slice none 0 0))) (offP r)))
  obtain ⟨Ak, ck, rfl, _⟩ := hk
  obtain ⟨Ah, ch, rfl, _⟩ := hh
  obtain ⟨Ao, co, rfl, _⟩ := ho
  have BGR := Lib.hid (begin_right hok (src := src))
  clear hok
  unfold Rp.cells at SH BE BF AG QU ON RV ⊢
  generalize hX : beginR r src = X at BF LN BGR
  have BE := Lib.hid (fun w1 hb => by have := BE.out w1 hb; rw [hX] at this; exact this)
  obtain ⟨x, y, cc⟩ := X
  simp only at BF LN BGR BE
  have HX := Lib.hid hX; clear hX
  have hcc : cc ≠ 0 := by have := HX.out; rw [this] at hc; exact hc
  clear hc
  skip
  go_enter Tryz.func4, Tryz.ntmps4
  go_wp2_with fail
  have HB := Lib.hid (al1 w (.cells #[.int .u8 r.rep, .int .u8 r.flt, .int .u32 r.epoch, .int .u32 r.seq, .slice Ak r.know.length ck, .slice Ah r.held.length ch, .bool r.ses.on, .int .u32 r.ses.num, .int .u8 r.ses.src, .int .u8 r.ses.cur, .int .u32 r.ses.epoch, .slice Ao r.ses.offer.length co, .int .u32 r.ses.last] 28))
  have BR := Lib.hid (Blk.new w #[.int .u8 r.rep, .int .u8 r.flt, .int .u32 r.epoch, .int .u32 r.seq, .slice Ak r.know.length ck, .slice Ah r.held.length ch, .bool r.ses.on, .int .u32 r.ses.num, .int .u8 r.ses.src, .int .u8 r.ses.cur, .int .u32 r.ses.epoch, .slice Ao r.ses.offer.length co, .int .u32 r.ses.last] 28)
  generalize w.alloc (.cells #[.int .u8 r.rep, .int .u8 r.flt, .int .u32 r.epoch, .int .u32 r.seq, .slice Ak r.know.length ck, .slice Ah r.held.length ch, .bool r.ses.on, .int .u32 r.ses.num, .int .u8 r.ses.src, .int .u8 r.ses.cur, .int .u32 r.ses.epoch, .slice Ao r.ses.offer.length co, .int .u32 r.ses.last] 28) = wz at HB BR ⊢
  refine (AW.out wz HB.out).mono ?_
  rintro e w1 ⟨rfl, hb⟩
  have BR := Lib.hid (BR.out.keep hb)
  have HB := Lib.hid (HB.out.trans (hb.mono HB.out.size)); clear hb
  have c0 := BR.out.cell 0 (.int .u8 r.rep) rfl
  have c1 := BR.out.cell 1 (.int .u8 r.flt) rfl
  have c2 := BR.out.cell 2 (.int .u32 r.epoch) rfl
  have c3 := BR.out.cell 3 (.int .u32 r.seq) rfl
  have c4 := BR.out.cell 4 (.slice Ak r.know.length ck) rfl
  have c5 := BR.out.cell 5 (.slice Ah r.held.length ch) rfl
  have c6 := BR.out.cell 6 (.bool r.ses.on) rfl
  have c7 := BR.out.cell 7 (.int .u32 r.ses.num) rfl
  have c8 := BR.out.cell 8 (.int .u8 r.ses.src) rfl
  have c9 := BR.out.cell 9 (.int .u8 r.ses.cur) rfl
  have c10 := BR.out.cell 10 (.int .u32 r.ses.epoch) rfl
  have c11 := BR.out.cell 11 (.slice Ao r.ses.offer.length co) rfl
  have c12 := BR.out.cell 12 (.int .u32 r.ses.last) rfl
  go_wp2_with fail
  refine (SH.out w1 HB.out).mono ?_
  rintro e w2 ⟨rfl, hb⟩
  clear c0 c1 c2 c3 c4 c5 c6 c7 c8 c9 c10 c11 c12
  have BR := Lib.hid (BR.out.keep hb)
  have HB := Lib.hid (HB.out.trans (hb.mono HB.out.size)); clear hb
  have c0 := BR.out.cell 0 (.int .u8 r.rep) rfl
  have c1 := BR.out.cell 1 (.int .u8 r.flt) rfl
  have c2 := BR.out.cell 2 (.int .u32 r.epoch) rfl
  have c3 := BR.out.cell 3 (.int .u32 r.seq) rfl
  have c4 := BR.out.cell 4 (.slice Ak r.know.length ck) rfl
  have c5 := BR.out.cell 5 (.slice Ah r.held.length ch) rfl
  have c6 := BR.out.cell 6 (.bool r.ses.on) rfl
  have c7 := BR.out.cell 7 (.int .u32 r.ses.num) rfl
  have c8 := BR.out.cell 8 (.int .u8 r.ses.src) rfl
  have c9 := BR.out.cell 9 (.int .u8 r.ses.cur) rfl
  have c10 := BR.out.cell 10 (.int .u32 r.ses.epoch) rfl
  have c11 := BR.out.cell 11 (.slice Ao r.ses.offer.length co) rfl
  have c12 := BR.out.cell 12 (.int .u32 r.ses.last) rfl
  go_wp2_with fail
  refine (BE.out w2 HB.out).mono ?_
  rintro e w3 ⟨v1, v2, ev, rfl, hx1, hy1, he1, hb⟩
  clear c0 c1 c2 c3 c4 c5 c6 c7 c8 c9 c10 c11 c12
  have BR := Lib.hid (BR.out.keep hb)
  have HB := Lib.hid (HB.out.trans (hb.mono HB.out.size)); clear hb
  have X1 := Lib.hid hx1
  have Y1 := Lib.hid hy1
  have E1 := Lib.hid he1.2
  have H3 := Lib.hid (Below.refl w3.heap.size w3)
  obtain ⟨a1, a2, a3, rfl, a4, a5, a6, _⟩ := hx1
  obtain ⟨Xk, xk, rfl, _⟩ := a4
  obtain ⟨Xh, xh, rfl, _⟩ := a5
  obtain ⟨Xo, xo, rfl, _⟩ := a6
  obtain ⟨a1, a2, a3, rfl, a4, a5, a6, _⟩ := hy1
  obtain ⟨Yk, yk, rfl, _⟩ := a4
  obtain ⟨Ye, ye, rfl, _⟩ := a5
  obtain ⟨Yo, yo, rfl, _⟩ := a6
  unfold Rp.cells at X1 ⊢
  unfold Nt.cells at Y1 ⊢
  obtain ⟨ty, uu, rfl⟩ : ∃ t u, ev = .iface t u := by
    rcases he1.1 with h | h
    · exact absurd h.1 hcc
    · exact h.2
  clear he1
  have c0 := BR.out.cell 0 (.int .u8 r.rep) rfl
  have c1 := BR.out.cell 1 (.int .u8 r.flt) rfl
  have c2 := BR.out.cell 2 (.int .u32 r.epoch) rfl
  have c3 := BR.out.cell 3 (.int .u32 r.seq) rfl
  have c4 := BR.out.cell 4 (.slice Ak r.know.length ck) rfl
  have c5 := BR.out.cell 5 (.slice Ah r.held.length ch) rfl
  have c6 := BR.out.cell 6 (.bool r.ses.on) rfl
  have c7 := BR.out.cell 7 (.int .u32 r.ses.num) rfl
  have c8 := BR.out.cell 8 (.int .u8 r.ses.src) rfl
  have c9 := BR.out.cell 9 (.int .u8 r.ses.cur) rfl
  have c10 := BR.out.cell 10 (.int .u32 r.ses.epoch) rfl
  have c11 := BR.out.cell 11 (.slice Ao r.ses.offer.length co) rfl
  have c12 := BR.out.cell 12 (.int .u32 r.ses.last) rfl
  have ltBR := BR.out.lt
  go_wp2_with fail
  have HAL := Lib.hid (al2 w3 (.cells #[.int .u8 x.rep, .int .u8 x.flt, .int .u32 x.epoch, .int .u32 x.seq, .slice Xk x.know.length xk, .slice Xh x.held.length xh, .bool x.ses.on, .int .u32 x.ses.num, .int .u8 x.ses.src, .int .u8 x.ses.cur, .int .u32 x.ses.epoch, .slice Xo x.ses.offer.length xo, .int .u32 x.ses.last] 28) (.cells #[.int .i64 y.kind, .int .u8 y.src, .int .u8 y.dst, .int .u32 y.num, .int .u8 y.cur, .int .u8 y.flt, .slice Yk y.know.length yk, .int .u32 y.epoch, .slice Ye y.ents.length ye, .int .u8 y.next, .bool y.done, .slice Yo y.offer.length yo] 30))
  have B5 := Lib.hid ((Blk.new w3 #[.int .u8 x.rep, .int .u8 x.flt, .int .u32 x.epoch, .int .u32 x.seq, .slice Xk x.know.length xk, .slice Xh x.held.length xh, .bool x.ses.on, .int .u32 x.ses.num, .int .u8 x.ses.src, .int .u8 x.ses.cur, .int .u32 x.ses.epoch, .slice Xo x.ses.offer.length xo, .int .u32 x.ses.last] 28).alloc (.cells #[.int .i64 y.kind, .int .u8 y.src, .int .u8 y.dst, .int .u32 y.num, .int .u8 y.cur, .int .u8 y.flt, .slice Yk y.know.length yk, .int .u32 y.epoch, .slice Ye y.ents.length ye, .int .u8 y.next, .bool y.done, .slice Yo y.offer.length yo] 30))
  have B6 := Lib.hid (blk_two w3 (.cells #[.int .u8 x.rep, .int .u8 x.flt, .int .u32 x.epoch, .int .u32 x.seq, .slice Xk x.know.length xk, .slice Xh x.held.length xh, .bool x.ses.on, .int .u32 x.ses.num, .int .u8 x.ses.src, .int .u8 x.ses.cur, .int .u32 x.ses.epoch, .slice Xo x.ses.offer.length xo, .int .u32 x.ses.last] 28) #[.int .i64 y.kind, .int .u8 y.src, .int .u8 y.dst, .int .u32 y.num, .int .u8 y.cur, .int .u8 y.flt, .slice Yk y.know.length yk, .int .u32 y.epoch, .slice Ye y.ents.length ye, .int .u8 y.next, .bool y.done, .slice Yo y.offer.length yo] 30)
  generalize (w3.alloc (.cells #[.int .u8 x.rep, .int .u8 x.flt, .int .u32 x.epoch, .int .u32 x.seq, .slice Xk x.know.length xk, .slice Xh x.held.length xh, .bool x.ses.on, .int .u32 x.ses.num, .int .u8 x.ses.src, .int .u8 x.ses.cur, .int .u32 x.ses.epoch, .slice Xo x.ses.offer.length xo, .int .u32 x.ses.last] 28)).alloc (.cells #[.int .i64 y.kind, .int .u8 y.src, .int .u8 y.dst, .int .u32 y.num, .int .u8 y.cur, .int .u8 y.flt, .slice Yk y.know.length yk, .int .u32 y.epoch, .slice Ye y.ents.length ye, .int .u8 y.next, .bool y.done, .slice Yo y.offer.length yo] 30) = wa at HAL B5 B6 ⊢
  clear c0 c1 c2 c3 c4 c5 c6 c7 c8 c9 c10 c11 c12 ltBR
  have BR := Lib.hid (BR.out.keep HAL.out)
  have HB := Lib.hid (HB.out.trans (HAL.out.mono HB.out.size))
  have H3 := Lib.hid (H3.out.trans (HAL.out.mono H3.out.size))
  clear HAL
  refine (BF.out wa HB.out).mono ?_
  rintro e w4 ⟨v3, v4, rfl, hx2, hy2, hb⟩
  have H3 := Lib.hid (H3.out.trans (hb.mono H3.out.size))
  have BR := Lib.hid (BR.out.keep hb)
  have B5 := Lib.hid (B5.out.keep hb)
  have B6 := Lib.hid (B6.out.keep hb)
  have HB := Lib.hid (HB.out.trans (hb.mono HB.out.size)); clear hb
  have Z1 := Lib.hid hx2
  have W1 := Lib.hid hy2
  have H4 := Lib.hid (Below.refl w4.heap.size w4)
  obtain ⟨a1, a2, a3, rfl, a4, a5, a6, _⟩ := hx2
  obtain ⟨Zk, zk, rfl, _⟩ := a4
  obtain ⟨Zh, zh, rfl, _⟩ := a5
  obtain ⟨Zo, zo, rfl, _⟩ := a6
  obtain ⟨a1, a2, a3, rfl, a4, a5, a6, _⟩ := hy2
  obtain ⟨Wk, wk, rfl, _⟩ := a4
  obtain ⟨We, we, rfl, _⟩ := a5
  obtain ⟨Wo, wo, rfl, _⟩ := a6
  unfold Rp.cells at Z1 ⊢
  unfold Nt.cells at W1 ⊢
  go_wp2_with fail
  have HAL := Lib.hid (al2 w4 (.cells #[.int .u8 x.rep, .int .u8 x.flt, .int .u32 x.epoch, .int .u32 x.seq, .slice Zk x.know.length zk, .slice Zh x.held.length zh, .bool x.ses.on, .int .u32 x.ses.num, .int .u8 x.ses.src, .int .u8 x.ses.cur, .int .u32 x.ses.epoch, .slice Zo x.ses.offer.length zo, .int .u32 x.ses.last] 28) (.cells #[.int .i64 y.kind, .int .u8 y.src, .int .u8 y.dst, .int .u32 y.num, .int .u8 y.cur, .int .u8 y.flt, .slice Wk y.know.length wk, .int .u32 y.epoch, .slice We y.ents.length we, .int .u8 y.next, .bool y.done, .slice Wo y.offer.length wo] 30))
  have B8 := Lib.hid ((Blk.new w4 #[.int .u8 x.rep, .int .u8 x.flt, .int .u32 x.epoch, .int .u32 x.seq, .slice Zk x.know.length zk, .slice Zh x.held.length zh, .bool x.ses.on, .int .u32 x.ses.num, .int .u8 x.ses.src, .int .u8 x.ses.cur, .int .u32 x.ses.epoch, .slice Zo x.ses.offer.length zo, .int .u32 x.ses.last] 28).alloc (.cells #[.int .i64 y.kind, .int .u8 y.src, .int .u8 y.dst, .int .u32 y.num, .int .u8 y.cur, .int .u8 y.flt, .slice Wk y.know.length wk, .int .u32 y.epoch, .slice We y.ents.length we, .int .u8 y.next, .bool y.done, .slice Wo y.offer.length wo] 30))
  have B9 := Lib.hid (blk_two w4 (.cells #[.int .u8 x.rep, .int .u8 x.flt, .int .u32 x.epoch, .int .u32 x.seq, .slice Zk x.know.length zk, .slice Zh x.held.length zh, .bool x.ses.on, .int .u32 x.ses.num, .int .u8 x.ses.src, .int .u8 x.ses.cur, .int .u32 x.ses.epoch, .slice Zo x.ses.offer.length zo, .int .u32 x.ses.last] 28) #[.int .i64 y.kind, .int .u8 y.src, .int .u8 y.dst, .int .u32 y.num, .int .u8 y.cur, .int .u8 y.flt, .slice Wk y.know.length wk, .int .u32 y.epoch, .slice We y.ents.length we, .int .u8 y.next, .bool y.done, .slice Wo y.offer.length wo] 30)
  generalize (w4.alloc (.cells #[.int .u8 x.rep, .int .u8 x.flt, .int .u32 x.epoch, .int .u32 x.seq, .slice Zk x.know.length zk, .slice Zh x.held.length zh, .bool x.ses.on, .int .u32 x.ses.num, .int .u8 x.ses.src, .int .u8 x.ses.cur, .int .u32 x.ses.epoch, .slice Zo x.ses.offer.length zo, .int .u32 x.ses.last] 28)).alloc (.cells #[.int .i64 y.kind, .int .u8 y.src, .int .u8 y.dst, .int .u32 y.num, .int .u8 y.cur, .int .u8 y.flt, .slice Wk y.know.length wk, .int .u32 y.epoch, .slice We y.ents.length we, .int .u8 y.next, .bool y.done, .slice Wo y.offer.length wo] 30) = wb at HAL B8 B9 ⊢
  have BR := Lib.hid (BR.out.keep HAL.out)
  have B5 := Lib.hid (B5.out.keep HAL.out)
  have B6 := Lib.hid (B6.out.keep HAL.out)
  have HB := Lib.hid (HB.out.trans (HAL.out.mono HB.out.size))
  have H3 := Lib.hid (H3.out.trans (HAL.out.mono H3.out.size))
  have H4 := Lib.hid (H4.out.trans (HAL.out.mono H4.out.size))
  clear HAL
  refine (E1.out wb H3.out).mono ?_
  rintro e w5 ⟨rfl, hb⟩
  have H3 := Lib.hid (H3.out.trans (hb.mono H3.out.size))
  have H4 := Lib.hid (H4.out.trans (hb.mono H4.out.size))
  have BR := Lib.hid (BR.out.keep hb)
  have B5 := Lib.hid (B5.out.keep hb)
  have B6 := Lib.hid (B6.out.keep hb)
  have B8 := Lib.hid (B8.out.keep hb)
  have B9 := Lib.hid (B9.out.keep hb)
  have HB := Lib.hid (HB.out.trans (hb.mono HB.out.size)); clear hb
  have c0 := B5.out.cell 0 (.int .u8 x.rep) rfl
  have c1 := B5.out.cell 1 (.int .u8 x.flt) rfl
  have c2 := B5.out.cell 2 (.int .u32 x.epoch) rfl
  have c3 := B5.out.cell 3 (.int .u32 x.seq) rfl
  have c4 := B5.out.cell 4 (.slice Xk x.know.length xk) rfl
  have c5 := B5.out.cell 5 (.slice Xh x.held.length xh) rfl
  have c6 := B5.out.cell 6 (.bool x.ses.on) rfl
  have c7 := B5.out.cell 7 (.int .u32 x.ses.num) rfl
  have c8 := B5.out.cell 8 (.int .u8 x.ses.src) rfl
  have c9 := B5.out.cell 9 (.int .u8 x.ses.cur) rfl
  have c10 := B5.out.cell 10 (.int .u32 x.ses.epoch) rfl
  have c11 := B5.out.cell 11 (.slice Xo x.ses.offer.length xo) rfl
  have c12 := B5.out.cell 12 (.int .u32 x.ses.last) rfl
  have d0 := B8.out.cell 0 (.int .u8 x.rep) rfl
  have d1 := B8.out.cell 1 (.int .u8 x.flt) rfl
  have d2 := B8.out.cell 2 (.int .u32 x.epoch) rfl
  have d3 := B8.out.cell 3 (.int .u32 x.seq) rfl
  have d4 := B8.out.cell 4 (.slice Zk x.know.length zk) rfl
  have d5 := B8.out.cell 5 (.slice Zh x.held.length zh) rfl
  have d6 := B8.out.cell 6 (.bool x.ses.on) rfl
  have d7 := B8.out.cell 7 (.int .u32 x.ses.num) rfl
  have d8 := B8.out.cell 8 (.int .u8 x.ses.src) rfl
  have d9 := B8.out.cell 9 (.int .u8 x.ses.cur) rfl
  have d10 := B8.out.cell 10 (.int .u32 x.ses.epoch) rfl
  have d11 := B8.out.cell 11 (.slice Zo x.ses.offer.length zo) rfl
  have d12 := B8.out.cell 12 (.int .u32 x.ses.last) rfl
  have hcb : (cc != cc) = false := by simp
  go_wp2_with fail
  refine (q5Same_eq _ _ x w5 (X1.out.later H3.out) (Z1.out.later H4.out) (Nat.le_trans LN.out.1.1 (by decide)) (Nat.le_trans LN.out.1.2.1 (by decide)) (Nat.le_trans LN.out.1.2.2 (by decide))).mono ?_
  rintro e w6 ⟨rfl, hb⟩
  clear c0 d0 c1 d1 c2 d2 c3 d3 c4 d4 c5 d5 c6 d6 c7 d7 c8 d8 c9 d9 c10 d10 c11 d11 c12 d12
  have H3 := Lib.hid (H3.out.trans (hb.mono H3.out.size))
  have H4 := Lib.hid (H4.out.trans (hb.mono H4.out.size))
  have BR := Lib.hid (BR.out.keep hb)
  have B5 := Lib.hid (B5.out.keep hb)
  have B6 := Lib.hid (B6.out.keep hb)
  have B8 := Lib.hid (B8.out.keep hb)
  have B9 := Lib.hid (B9.out.keep hb)
  have HB := Lib.hid (HB.out.trans (hb.mono HB.out.size)); clear hb
  have c0 := B6.out.cell 0 (.int .i64 y.kind) rfl
  have c1 := B6.out.cell 1 (.int .u8 y.src) rfl
  have c2 := B6.out.cell 2 (.int .u8 y.dst) rfl
  have c3 := B6.out.cell 3 (.int .u32 y.num) rfl
  have c4 := B6.out.cell 4 (.int .u8 y.cur) rfl
  have c5 := B6.out.cell 5 (.int .u8 y.flt) rfl
  have c6 := B6.out.cell 6 (.slice Yk y.know.length yk) rfl
  have c7 := B6.out.cell 7 (.int .u32 y.epoch) rfl
  have c8 := B6.out.cell 8 (.slice Ye y.ents.length ye) rfl
  have c9 := B6.out.cell 9 (.int .u8 y.next) rfl
  have c10 := B6.out.cell 10 (.bool y.done) rfl
  have c11 := B6.out.cell 11 (.slice Yo y.offer.length yo) rfl
  have d0 := B9.out.cell 0 (.int .i64 y.kind) rfl
  have d1 := B9.out.cell 1 (.int .u8 y.src) rfl
  have d2 := B9.out.cell 2 (.int .u8 y.dst) rfl
  have d3 := B9.out.cell 3 (.int .u32 y.num) rfl
  have d4 := B9.out.cell 4 (.int .u8 y.cur) rfl
  have d5 := B9.out.cell 5 (.int .u8 y.flt) rfl
  have d6 := B9.out.cell 6 (.slice Wk y.know.length wk) rfl
  have d7 := B9.out.cell 7 (.int .u32 y.epoch) rfl
  have d8 := B9.out.cell 8 (.slice We y.ents.length we) rfl
  have d9 := B9.out.cell 9 (.int .u8 y.next) rfl
  have d10 := B9.out.cell 10 (.bool y.done) rfl
  have d11 := B9.out.cell 11 (.slice Wo y.offer.length wo) rfl
  go_wp2_with fail
  refine (q4Same_eq _ _ y w6 (Y1.out.later H3.out) (W1.out.later H4.out) (Nat.le_trans LN.out.2.1 (by decide)) (Nat.le_trans LN.out.2.2.1 (by decide)) (Nat.le_trans LN.out.2.2.2 (by decide))).mono ?_
  rintro e w7 ⟨rfl, hb⟩
  clear c0 d0 c1 d1 c2 d2 c3 d3 c4 d4 c5 d5 c6 d6 c7 d7 c8 d8 c9 d9 c10 d10 c11 d11
  have H3 := Lib.hid (H3.out.trans (hb.mono H3.out.size))
  have H4 := Lib.hid (H4.out.trans (hb.mono H4.out.size))
  have BR := Lib.hid (BR.out.keep hb)
  have B5 := Lib.hid (B5.out.keep hb)
  have B6 := Lib.hid (B6.out.keep hb)
  have B8 := Lib.hid (B8.out.keep hb)
  have B9 := Lib.hid (B9.out.keep hb)
  have HB := Lib.hid (HB.out.trans (hb.mono HB.out.size)); clear hb
  clear B5 B6 B8 B9 H3 H4 X1 Y1 Z1 W1 E1
  have c0 := BR.out.cell 0 (.int .u8 r.rep) rfl
  have c1 := BR.out.cell 1 (.int .u8 r.flt) rfl
  have c2 := BR.out.cell 2 (.int .u32 r.epoch) rfl
  have c3 := BR.out.cell 3 (.int .u32 r.seq) rfl
  have c4 := BR.out.cell 4 (.slice Ak r.know.length ck) rfl
  have c5 := BR.out.cell 5 (.slice Ah r.held.length ch) rfl
  have c6 := BR.out.cell 6 (.bool r.ses.on) rfl
  have c7 := BR.out.cell 7 (.int .u32 r.ses.num) rfl
  have c8 := BR.out.cell 8 (.int .u8 r.ses.src) rfl
  have c9 := BR.out.cell 9 (.int .u8 r.ses.cur) rfl
  have c10 := BR.out.cell 10 (.int .u32 r.ses.epoch) rfl
  have c11 := BR.out.cell 11 (.slice Ao r.ses.offer.length co) rfl
  have c12 := BR.out.cell 12 (.int .u32 r.ses.last) rfl
  go_wp2_with fail
  refine (AG.out w7 HB.out).mono ?_
  rintro e w10 ⟨v5, ev2, rfl, hn5, he2, hb⟩
  clear c0 c1 c2 c3 c4 c5 c6 c7 c8 c9 c10 c11 c12
  have BR := Lib.hid (BR.out.keep hb)
  have HB := Lib.hid (HB.out.trans (hb.mono HB.out.size)); clear hb
  have N5 := Lib.hid hn5
  have E2 := Lib.hid he2.2
  have H5 := Lib.hid (Below.refl w10.heap.size w10)
  obtain ⟨a1, a2, a3, rfl, a4, a5, a6, _⟩ := hn5
  obtain ⟨Mk, mk, rfl, _⟩ := a4
  obtain ⟨Me, me, rfl, _⟩ := a5
  obtain ⟨Mo, mo, rfl, _⟩ := a6
  unfold Nt.cells at N5 ⊢
  obtain ⟨ty2, uu2, rfl⟩ : ∃ t u, ev2 = .iface t u := by
    rcases he2.1 with h | h
    · exact absurd h.1 hon
    · exact h.2
  clear he2
  generalize hm : againR r = m at N5 ⊢
  have HM := Lib.hid hm
  clear hm
  have c0 := BR.out.cell 0 (.int .u8 r.rep) rfl
  have c1 := BR.out.cell 1 (.int .u8 r.flt) rfl
  have c2 := BR.out.cell 2 (.int .u32 r.epoch) rfl
  have c3 := BR.out.cell 3 (.int .u32 r.seq) rfl
  have c4 := BR.out.cell 4 (.slice Ak r.know.length ck) rfl
  have c5 := BR.out.cell 5 (.slice Ah r.held.length ch) rfl
  have c6 := BR.out.cell 6 (.bool r.ses.on) rfl
  have c7 := BR.out.cell 7 (.int .u32 r.ses.num) rfl
  have c8 := BR.out.cell 8 (.int .u8 r.ses.src) rfl
  have c9 := BR.out.cell 9 (.int .u8 r.ses.cur) rfl
  have c10 := BR.out.cell 10 (.int .u32 r.ses.epoch) rfl
  have c11 := BR.out.cell 11 (.slice Ao r.ses.offer.length co) rfl
  have c12 := BR.out.cell 12 (.int .u32 r.ses.last) rfl
  have ltBR := BR.out.lt
  go_wp2_with fail
  have HAL := Lib.hid (al1 w10 (.cells #[.int .i64 m.kind, .int .u8 m.src, .int .u8 m.dst, .int .u32 m.num, .int .u8 m.cur, .int .u8 m.flt, .slice Mk m.know.length mk, .int .u32 m.epoch, .slice Me m.ents.length me, .int .u8 m.next, .bool m.done, .slice Mo m.offer.length mo] 30))
  have B11 := Lib.hid (Blk.new w10 #[.int .i64 m.kind, .int .u8 m.src, .int .u8 m.dst, .int .u32 m.num, .int .u8 m.cur, .int .u8 m.flt, .slice Mk m.know.length mk, .int .u32 m.epoch, .slice Me m.ents.length me, .int .u8 m.next, .bool m.done, .slice Mo m.offer.length mo] 30)
  generalize w10.alloc (.cells #[.int .i64 m.kind, .int .u8 m.src, .int .u8 m.dst, .int .u32 m.num, .int .u8 m.cur, .int .u8 m.flt, .slice Mk m.know.length mk, .int .u32 m.epoch, .slice Me m.ents.length me, .int .u8 m.next, .bool m.done, .slice Mo m.offer.length mo] 30) = wc at HAL B11 ⊢
  clear c0 c1 c2 c3 c4 c5 c6 c7 c8 c9 c10 c11 c12 ltBR
  have BR := Lib.hid (BR.out.keep HAL.out)
  have HB := Lib.hid (HB.out.trans (HAL.out.mono HB.out.size))
  have H5 := Lib.hid (H5.out.trans (HAL.out.mono H5.out.size))
  clear HAL
  refine (QU.out wc HB.out).mono ?_
  rintro e w11 ⟨v6, ev3, rfl, hr6, he3, hb⟩
  have H5 := Lib.hid (H5.out.trans (hb.mono H5.out.size))
  have BR := Lib.hid (BR.out.keep hb)
  have B11 := Lib.hid (B11.out.keep hb)
  have HB := Lib.hid (HB.out.trans (hb.mono HB.out.size)); clear hb
  have R6 := Lib.hid hr6
  have E3 := Lib.hid he3.2
  have H6 := Lib.hid (Below.refl w11.heap.size w11)
  obtain ⟨a1, a2, a3, rfl, a4, a5, a6, _⟩ := hr6
  obtain ⟨Qk, qk, rfl, _⟩ := a4
  obtain ⟨Qh, qh, rfl, _⟩ := a5
  obtain ⟨Qo, qo, rfl, _⟩ := a6
  unfold Rp.cells at R6 ⊢
  obtain ⟨ty3, uu3, rfl⟩ : ∃ t u, ev3 = .iface t u := by
    rcases he3.1 with h | h
    · exact absurd h.1 hon
    · exact h.2
  clear he3
  generalize hq : quitR r = q at R6 ⊢
  have HQ := Lib.hid hq
  clear hq
  have c0 := BR.out.cell 0 (.int .u8 r.rep) rfl
  have c1 := BR.out.cell 1 (.int .u8 r.flt) rfl
  have c2 := BR.out.cell 2 (.int .u32 r.epoch) rfl
  have c3 := BR.out.cell 3 (.int .u32 r.seq) rfl
  have c4 := BR.out.cell 4 (.slice Ak r.know.length ck) rfl
  have c5 := BR.out.cell 5 (.slice Ah r.held.length ch) rfl
  have c6 := BR.out.cell 6 (.bool r.ses.on) rfl
  have c7 := BR.out.cell 7 (.int .u32 r.ses.num) rfl
  have c8 := BR.out.cell 8 (.int .u8 r.ses.src) rfl
  have c9 := BR.out.cell 9 (.int .u8 r.ses.cur) rfl
  have c10 := BR.out.cell 10 (.int .u32 r.ses.epoch) rfl
  have c11 := BR.out.cell 11 (.slice Ao r.ses.offer.length co) rfl
  have c12 := BR.out.cell 12 (.int .u32 r.ses.last) rfl
  have ltBR := BR.out.lt
  have ltB11 := B11.out.lt
  go_wp2_with fail
  have HAL := Lib.hid (al1 w11 (.cells #[.int .u8 q.rep, .int .u8 q.flt, .int .u32 q.epoch, .int .u32 q.seq, .slice Qk q.know.length qk, .slice Qh q.held.length qh, .bool q.ses.on, .int .u32 q.ses.num, .int .u8 q.ses.src, .int .u8 q.ses.cur, .int .u32 q.ses.epoch, .slice Qo q.ses.offer.length qo, .int .u32 q.ses.last] 28))
  have B13 := Lib.hid (Blk.new w11 #[.int .u8 q.rep, .int .u8 q.flt, .int .u32 q.epoch, .int .u32 q.seq, .slice Qk q.know.length qk, .slice Qh q.held.length qh, .bool q.ses.on, .int .u32 q.ses.num, .int .u8 q.ses.src, .int .u8 q.ses.cur, .int .u32 q.ses.epoch, .slice Qo q.ses.offer.length qo, .int .u32 q.ses.last] 28)
  generalize w11.alloc (.cells #[.int .u8 q.rep, .int .u8 q.flt, .int .u32 q.epoch, .int .u32 q.seq, .slice Qk q.know.length qk, .slice Qh q.held.length qh, .bool q.ses.on, .int .u32 q.ses.num, .int .u8 q.ses.src, .int .u8 q.ses.cur, .int .u32 q.ses.epoch, .slice Qo q.ses.offer.length qo, .int .u32 q.ses.last] 28) = wd at HAL B13 ⊢
  clear c0 c1 c2 c3 c4 c5 c6 c7 c8 c9 c10 c11 c12 ltBR ltB11
  have BR := Lib.hid (BR.out.keep HAL.out)
  have B11 := Lib.hid (B11.out.keep HAL.out)
  have HB := Lib.hid (HB.out.trans (HAL.out.mono HB.out.size))
  have H5 := Lib.hid (H5.out.trans (HAL.out.mono H5.out.size))
  have H6 := Lib.hid (H6.out.trans (HAL.out.mono H6.out.size))
  clear HAL
  have HON := Lib.hid hon
  refine (ON.out wd HB.out).mono ?_
  rintro e w12 ⟨rfl, hb⟩
  have H5 := Lib.hid (H5.out.trans (hb.mono H5.out.size))
  have H6 := Lib.hid (H6.out.trans (hb.mono H6.out.size))
  have BR := Lib.hid (BR.out.keep hb)
  have B11 := Lib.hid (B11.out.keep hb)
  have B13 := Lib.hid (B13.out.keep hb)
  have HB := Lib.hid (HB.out.trans (hb.mono HB.out.size)); clear hb
  have hpos : 0 < onR r := on_pos hon
  clear hon
  generalize onR r = on at E2 E3 hpos ⊢
  have hob : (on != on) = false := by simp
  go_wp2_with fail
  refine (E2.out w12 H5.out).mono ?_
  rintro e w13 ⟨rfl, hb⟩
  have H5 := Lib.hid (H5.out.trans (hb.mono H5.out.size))
  have H6 := Lib.hid (H6.out.trans (hb.mono H6.out.size))
  have BR := Lib.hid (BR.out.keep hb)
  have B11 := Lib.hid (B11.out.keep hb)
  have B13 := Lib.hid (B13.out.keep hb)
  have HB := Lib.hid (HB.out.trans (hb.mono HB.out.size)); clear hb
  go_wp2_with fail
  refine (E3.out w13 H6.out).mono ?_
  rintro e w14 ⟨rfl, hb⟩
  have H5 := Lib.hid (H5.out.trans (hb.mono H5.out.size))
  have H6 := Lib.hid (H6.out.trans (hb.mono H6.out.size))
  have BR := Lib.hid (BR.out.keep hb)
  have B11 := Lib.hid (B11.out.keep hb)
  have B13 := Lib.hid (B13.out.keep hb)
  have HB := Lib.hid (HB.out.trans (hb.mono HB.out.size)); clear hb
  have hmk : m = zeroN := by rw [← HM.out]; unfold againR; rw [if_neg HON.out]
  have hqk : q = zeroP := by rw [← HQ.out]; unfold quitR; rw [if_neg HON.out]
  have mk0 : (m.kind == 0) = true := by rw [hmk]; rfl
  have HQZ := Lib.hid hqk
  clear hmk hqk
  have n0 := B11.out.cell 0 (.int .i64 m.kind) rfl
  have d0 := B13.out.cell 0 (.int .u8 q.rep) rfl
  have d1 := B13.out.cell 1 (.int .u8 q.flt) rfl
  have d2 := B13.out.cell 2 (.int .u32 q.epoch) rfl
  have d3 := B13.out.cell 3 (.int .u32 q.seq) rfl
  have d4 := B13.out.cell 4 (.slice Qk q.know.length qk) rfl
  have d5 := B13.out.cell 5 (.slice Qh q.held.length qh) rfl
  have d6 := B13.out.cell 6 (.bool q.ses.on) rfl
  have d7 := B13.out.cell 7 (.int .u32 q.ses.num) rfl
  have d8 := B13.out.cell 8 (.int .u8 q.ses.src) rfl
  have d9 := B13.out.cell 9 (.int .u8 q.ses.cur) rfl
  have d10 := B13.out.cell 10 (.int .u32 q.ses.epoch) rfl
  have d11 := B13.out.cell 11 (.slice Qo q.ses.offer.length qo) rfl
  have d12 := B13.out.cell 12 (.int .u32 q.ses.last) rfl
  go_wp2_with fail
  refine (q5Same_eq _ _ q w14 (R6.out.later H6.out) (by rw [HQZ.out]; exact zeroP_v _ _ : RpV w14 w14.heap.size (.agg #[.int .u8 0, .int .u8 0, .int .u32 0, .int .u32 0, .slice none 0 0, .slice none 0 0, .bool false, .int .u32 0, .int .u8 0, .int .u8 0, .int .u32 0, .slice none 0 0, .int .u32 0]) q) (by rw [HQZ.out]; exact Nat.zero_le _) (by rw [HQZ.out]; exact Nat.zero_le _) (by rw [HQZ.out]; exact Nat.zero_le _)).mono ?_
  rintro e w15 ⟨rfl, hb⟩
  have HB := Lib.hid (HB.out.trans (hb.mono HB.out.size)); clear hb
  go_wp2_with fail
  go_ret
  exact ⟨rfl, HB.out⟩
end Go.Proofs.YtfjaeohfigcciabGreatDoor

