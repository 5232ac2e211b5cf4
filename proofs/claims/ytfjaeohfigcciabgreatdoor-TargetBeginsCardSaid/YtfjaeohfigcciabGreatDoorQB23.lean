/- Texts in one: TC2. -/
import Derived.Test.YtfjaeohfigcciabGreatDoorQB09
import Derived.Test.YtfjaeohfigcciabGreatDoorQB18
import Derived.Test.YtfjaeohfigcciabGreatDoorQB21
import Derived.Test.YtfjaeohfigcciabGreatDoorQB03
import Derived.Test.YtfjaeohfigcciabGreatDoorQB22
set_option linter.unusedVariables false
set_option linter.unusedSimpArgs false
set_option linter.unusedSectionVars false
set_option linter.unnecessarySimpa false
namespace Go.Proofs.YtfjaeohfigcciabGreatDoor
open Go.RowKit

set_option maxHeartbeats 8000000 in
set_option maxRecDepth 100000 in
theorem tcloned_any (v : Value) (r : Rp) (w : World) (hv : RpV w w.heap.size v r) (h1 : r.know.length ≤ 10000) (h2 : r.held.length ≤ 10000) (h3 : r.ses.offer.length ≤ 10000) :
    Calls Tryz.prog 35 #[v] w (RepSure w (.ok r)) := by
  obtain ⟨lr, rfl⟩ := hv.rows
  have HV := Lib.hid hv
  have C1 := Lib.hid (fun w1 (hb : Below w.heap.size w w1) => rClone_any (.slice lr.a r.know.length lr.i) r.know w1 (HV.out.later hb).skn h1)
  have C2 := Lib.hid (fun w1 (hb : Below w.heap.size w w1) => Clone_any (.slice lr.b r.held.length lr.j) r.held w1 (HV.out.later hb).she h2)
  have C3 := Lib.hid (fun w1 (hb : Below w.heap.size w w1) => rClone_any (.slice lr.c r.ses.offer.length lr.k) r.ses.offer w1 (HV.out.later hb).sof h3)
  have HOK := Lib.hid hv.isok
  clear hv h1 h2 h3
  unfold repR repRow Rp.cells
  go_enter Tryz.func35, Tryz.ntmps35
  go_wp2_with fail
  have BR := Lib.hid ((Blk.new w #[.int .u8 r.rep, .int .u8 r.flt, .int .u32 r.epoch, .int .u32 r.seq, .slice lr.a r.know.length lr.i, .slice lr.b r.held.length lr.j, .bool r.ses.on, .int .u32 r.ses.num, .int .u8 r.ses.src, .int .u8 r.ses.cur, .int .u32 r.ses.epoch, .slice lr.c r.ses.offer.length lr.k, .int .u32 r.ses.last] 28).alloc (.cells #[.int .u8 0, .int .u8 0, .int .u32 0, .int .u32 0, .slice none 0 0, .slice none 0 0, .bool false, .int .u32 0, .int .u8 0, .int .u8 0, .int .u32 0, .slice none 0 0, .int .u32 0] 28))
  have BO := Lib.hid (blk_two w (.cells #[.int .u8 r.rep, .int .u8 r.flt, .int .u32 r.epoch, .int .u32 r.seq, .slice lr.a r.know.length lr.i, .slice lr.b r.held.length lr.j, .bool r.ses.on, .int .u32 r.ses.num, .int .u8 r.ses.src, .int .u8 r.ses.cur, .int .u32 r.ses.epoch, .slice lr.c r.ses.offer.length lr.k, .int .u32 r.ses.last] 28) #[.int .u8 0, .int .u8 0, .int .u32 0, .int .u32 0, .slice none 0 0, .slice none 0 0, .bool false, .int .u32 0, .int .u8 0, .int .u8 0, .int .u32 0, .slice none 0 0, .int .u32 0] 28)
  have HB := Lib.hid (al2 w (.cells #[.int .u8 r.rep, .int .u8 r.flt, .int .u32 r.epoch, .int .u32 r.seq, .slice lr.a r.know.length lr.i, .slice lr.b r.held.length lr.j, .bool r.ses.on, .int .u32 r.ses.num, .int .u8 r.ses.src, .int .u8 r.ses.cur, .int .u32 r.ses.epoch, .slice lr.c r.ses.offer.length lr.k, .int .u32 r.ses.last] 28) (.cells #[.int .u8 0, .int .u8 0, .int .u32 0, .int .u32 0, .slice none 0 0, .slice none 0 0, .bool false, .int .u32 0, .int .u8 0, .int .u8 0, .int .u32 0, .slice none 0 0, .int .u32 0] 28))
  have hsz : ((w.alloc (.cells #[.int .u8 r.rep, .int .u8 r.flt, .int .u32 r.epoch, .int .u32 r.seq, .slice lr.a r.know.length lr.i, .slice lr.b r.held.length lr.j, .bool r.ses.on, .int .u32 r.ses.num, .int .u8 r.ses.src, .int .u8 r.ses.cur, .int .u32 r.ses.epoch, .slice lr.c r.ses.offer.length lr.k, .int .u32 r.ses.last] 28)).alloc (.cells #[.int .u8 0, .int .u8 0, .int .u32 0, .int .u32 0, .slice none 0 0, .slice none 0 0, .bool false, .int .u32 0, .int .u8 0, .int .u8 0, .int .u32 0, .slice none 0 0, .int .u32 0] 28)).heap.size = w.heap.size + 1 + 1 := by simp
  generalize (w.alloc (.cells #[.int .u8 r.rep, .int .u8 r.flt, .int .u32 r.epoch, .int .u32 r.seq, .slice lr.a r.know.length lr.i, .slice lr.b r.held.length lr.j, .bool r.ses.on, .int .u32 r.ses.num, .int .u8 r.ses.src, .int .u8 r.ses.cur, .int .u32 r.ses.epoch, .slice lr.c r.ses.offer.length lr.k, .int .u32 r.ses.last] 28)).alloc (.cells #[.int .u8 0, .int .u8 0, .int .u32 0, .int .u32 0, .slice none 0 0, .slice none 0 0, .bool false, .int .u32 0, .int .u8 0, .int .u8 0, .int .u32 0, .slice none 0 0, .int .u32 0] 28) = W0 at BR BO HB hsz ⊢
  have HM := Lib.hid (Below.refl W0.heap.size W0)
  refine (C1.out W0 HB.out).mono ?_
  rintro e w1a ⟨v1, rfl, o1, hb⟩
  obtain ⟨A1, d1, rfl, _⟩ := o1.form
  have O1 := Lib.hid (o1.mono (Nat.le_refl _)); clear o1
  have BR := Lib.hid (BR.out.keep hb)
  have BO := Lib.hid (BO.out.keep hb)
  have HB := Lib.hid (HB.out.trans (hb.mono HB.out.size))
  have HM := Lib.hid (HM.out.trans hb).size; clear hb
  have c4 := BR.out.cell 4 (.slice lr.a r.know.length lr.i) rfl
  have c5 := BR.out.cell 5 (.slice lr.b r.held.length lr.j) rfl
  have fz := BR.out.free 4
  go_wp2_with fail
  have O1 := Lib.hid (O1.out.setOther (h := w.heap.size) (j := 4) (u := .slice A1 r.know.length d1) (by omega))
  have BR := Lib.hid (show Blk (w1a.setCell ⟨w.heap.size, 4, none⟩ (.slice A1 r.know.length d1)) w.heap.size #[.int .u8 r.rep, .int .u8 r.flt, .int .u32 r.epoch, .int .u32 r.seq, .slice A1 r.know.length d1, .slice lr.b r.held.length lr.j, .bool r.ses.on, .int .u32 r.ses.num, .int .u8 r.ses.src, .int .u8 r.ses.cur, .int .u32 r.ses.epoch, .slice lr.c r.ses.offer.length lr.k, .int .u32 r.ses.last] 28 from BR.out.put 4 (.slice A1 r.know.length d1))
  have BO := Lib.hid (BO.out.setOther (by omega : w.heap.size + 1 ≠ w.heap.size) 4 (.slice A1 r.know.length d1))
  have HB := Lib.hid (HB.out.setCell (show w.heap.size ≤ (⟨w.heap.size, 4, none⟩ : Addr).block from Nat.le_refl _) (.slice A1 r.know.length d1))
  have hl : (w1a.setCell ⟨w.heap.size, 4, none⟩ (.slice A1 r.know.length d1)).heap.size = w1a.heap.size := by simp [World.setCell]
  have hm : W0.heap.size ≤ (w1a.setCell ⟨w.heap.size, 4, none⟩ (.slice A1 r.know.length d1)).heap.size := by rw [hl]; exact HM.out
  clear hl fz HM c4 c5
  generalize w1a.setCell ⟨w.heap.size, 4, none⟩ (.slice A1 r.know.length d1) = w1b at O1 BR BO HB hm ⊢
  have HM : Hid (W0.heap.size ≤ w1b.heap.size) := Lib.hid hm
  clear hm
  refine (C2.out w1b HB.out).mono ?_
  rintro e w2a ⟨v2, rfl, o2, hb⟩
  have ho := o2.sl HOK.out.2.2.2.2.2.1
  obtain ⟨A2, d2, rfl, _⟩ := ho
  have O2 := Lib.hid (o2.mono HM.out); clear o2
  have O1 := Lib.hid (O1.out.below hb)
  have BR := Lib.hid (BR.out.keep hb)
  have BO := Lib.hid (BO.out.keep hb)
  have HB := Lib.hid (HB.out.trans (hb.mono HB.out.size))
  have HM := Lib.hid (Nat.le_trans HM.out hb.size); clear hb
  have c5 := BR.out.cell 5 (.slice lr.b r.held.length lr.j) rfl
  have c11 := BR.out.cell 11 (.slice lr.c r.ses.offer.length lr.k) rfl
  have fz := BR.out.free 5
  go_wp2_with fail
  have O1 := Lib.hid (O1.out.setOther (h := w.heap.size) (j := 5) (u := .slice A2 r.held.length d2) (by omega))
  have O2 := Lib.hid (O2.out.setOther (h := w.heap.size) (j := 5) (u := .slice A2 r.held.length d2) (by omega))
  have BR := Lib.hid (show Blk (w2a.setCell ⟨w.heap.size, 5, none⟩ (.slice A2 r.held.length d2)) w.heap.size #[.int .u8 r.rep, .int .u8 r.flt, .int .u32 r.epoch, .int .u32 r.seq, .slice A1 r.know.length d1, .slice A2 r.held.length d2, .bool r.ses.on, .int .u32 r.ses.num, .int .u8 r.ses.src, .int .u8 r.ses.cur, .int .u32 r.ses.epoch, .slice lr.c r.ses.offer.length lr.k, .int .u32 r.ses.last] 28 from BR.out.put 5 (.slice A2 r.held.length d2))
  have BO := Lib.hid (BO.out.setOther (by omega : w.heap.size + 1 ≠ w.heap.size) 5 (.slice A2 r.held.length d2))
  have HB := Lib.hid (HB.out.setCell (show w.heap.size ≤ (⟨w.heap.size, 5, none⟩ : Addr).block from Nat.le_refl _) (.slice A2 r.held.length d2))
  have hl : (w2a.setCell ⟨w.heap.size, 5, none⟩ (.slice A2 r.held.length d2)).heap.size = w2a.heap.size := by simp [World.setCell]
  have hm : W0.heap.size ≤ (w2a.setCell ⟨w.heap.size, 5, none⟩ (.slice A2 r.held.length d2)).heap.size := by rw [hl]; exact HM.out
  clear hl fz HM c5 c11
  generalize w2a.setCell ⟨w.heap.size, 5, none⟩ (.slice A2 r.held.length d2) = w2b at O1 O2 BR BO HB hm ⊢
  have HM : Hid (W0.heap.size ≤ w2b.heap.size) := Lib.hid hm
  clear hm
  refine (C3.out w2b HB.out).mono ?_
  rintro e w3a ⟨v3, rfl, o3, hb⟩
  obtain ⟨A3, d3, rfl, _⟩ := o3.form
  have O3 := Lib.hid (o3.mono HM.out); clear o3
  have O1 := Lib.hid (O1.out.below hb)
  have O2 := Lib.hid (O2.out.below hb)
  have BR := Lib.hid (BR.out.keep hb)
  have BO := Lib.hid (BO.out.keep hb)
  have HB := Lib.hid (HB.out.trans (hb.mono HB.out.size))
  have HM := Lib.hid (Nat.le_trans HM.out hb.size); clear hb
  have c0 := BR.out.cell 0 (.int .u8 r.rep) rfl
  have c1 := BR.out.cell 1 (.int .u8 r.flt) rfl
  have c2 := BR.out.cell 2 (.int .u32 r.epoch) rfl
  have c3 := BR.out.cell 3 (.int .u32 r.seq) rfl
  have c4 := BR.out.cell 4 (.slice A1 r.know.length d1) rfl
  have c5 := BR.out.cell 5 (.slice A2 r.held.length d2) rfl
  have c6 := BR.out.cell 6 (.bool r.ses.on) rfl
  have c7 := BR.out.cell 7 (.int .u32 r.ses.num) rfl
  have c8 := BR.out.cell 8 (.int .u8 r.ses.src) rfl
  have c9 := BR.out.cell 9 (.int .u8 r.ses.cur) rfl
  have c10 := BR.out.cell 10 (.int .u32 r.ses.epoch) rfl
  have c11 := BR.out.cell 11 (.slice lr.c r.ses.offer.length lr.k) rfl
  have c12 := BR.out.cell 12 (.int .u32 r.ses.last) rfl
  have fz := BR.out.free 11
  go_upto_region 4 with fail
  have O1 := Lib.hid (O1.out.setOther (h := w.heap.size) (j := 11) (u := .slice A3 r.ses.offer.length d3) (by omega))
  have O2 := Lib.hid (O2.out.setOther (h := w.heap.size) (j := 11) (u := .slice A3 r.ses.offer.length d3) (by omega))
  have O3 := Lib.hid (O3.out.setOther (h := w.heap.size) (j := 11) (u := .slice A3 r.ses.offer.length d3) (by omega))
  have BR := Lib.hid (show Blk (w3a.setCell ⟨w.heap.size, 11, none⟩ (.slice A3 r.ses.offer.length d3)) w.heap.size #[.int .u8 r.rep, .int .u8 r.flt, .int .u32 r.epoch, .int .u32 r.seq, .slice A1 r.know.length d1, .slice A2 r.held.length d2, .bool r.ses.on, .int .u32 r.ses.num, .int .u8 r.ses.src, .int .u8 r.ses.cur, .int .u32 r.ses.epoch, .slice A3 r.ses.offer.length d3, .int .u32 r.ses.last] 28 from BR.out.put 11 (.slice A3 r.ses.offer.length d3))
  have BO := Lib.hid (BO.out.setOther (by omega : w.heap.size + 1 ≠ w.heap.size) 11 (.slice A3 r.ses.offer.length d3))
  have HB := Lib.hid (HB.out.setCell (show w.heap.size ≤ (⟨w.heap.size, 11, none⟩ : Addr).block from Nat.le_refl _) (.slice A3 r.ses.offer.length d3))
  have hl : (w3a.setCell ⟨w.heap.size, 11, none⟩ (.slice A3 r.ses.offer.length d3)).heap.size = w3a.heap.size := by simp [World.setCell]
  have hm : W0.heap.size ≤ (w3a.setCell ⟨w.heap.size, 11, none⟩ (.slice A3 r.ses.offer.length d3)).heap.size := by rw [hl]; exact HM.out
  clear hl fz HM c0 c1 c2 c3 c4 c5 c6 c7 c8 c9 c10 c11 c12
  generalize w3a.setCell ⟨w.heap.size, 11, none⟩ (.slice A3 r.ses.offer.length d3) = w3b at O1 O2 O3 BR BO HB hm ⊢
  have HM : Hid (W0.heap.size ≤ w3b.heap.size) := Lib.hid hm
  clear hm
  go_wp2_with (first
    | (refine wpList_load_row rfl _ _ rfl w.heap.size rfl 28 #[.int .u8 r.rep, .int .u8 r.flt, .int .u32 r.epoch, .int .u32 r.seq, .slice A1 r.know.length d1, .slice A2 r.held.length d2, .bool r.ses.on, .int .u32 r.ses.num, .int .u8 r.ses.src, .int .u8 r.ses.cur, .int .u32 r.ses.epoch, .slice A3 r.ses.offer.length d3, .int .u32 r.ses.last] (0, 0) _ BR.out.at_ Tryz.underlying28 rfl rep_size1 ?_)
    | (refine wpList_store_row rfl _ _ _ rfl (w.heap.size + 1) #[.int .u8 r.rep, .int .u8 r.flt, .int .u32 r.epoch, .int .u32 r.seq, .slice A1 r.know.length d1, .slice A2 r.held.length d2, .bool r.ses.on, .int .u32 r.ses.num, .int .u8 r.ses.src, .int .u8 r.ses.cur, .int .u32 r.ses.epoch, .slice A3 r.ses.offer.length d3, .int .u32 r.ses.last] rfl rfl 28 _ BO.out.at_ rep_size1 rfl (by simp [Value.oneCell']) ?_))
  refine bodyPost_ret (v := .agg #[.int .u8 r.rep, .int .u8 r.flt, .int .u32 r.epoch, .int .u32 r.seq, .slice A1 r.know.length d1, .slice A2 r.held.length d2, .bool r.ses.on, .int .u32 r.ses.num, .int .u8 r.ses.src, .int .u8 r.ses.cur, .int .u32 r.ses.epoch, .slice A3 r.ses.offer.length d3, .int .u32 r.ses.last]) (results_cell_row Tryz.results35 _ _ (w.heap.size + 1) 28 #[.int .u8 r.rep, .int .u8 r.flt, .int .u32 r.epoch, .int .u32 r.seq, .slice A1 r.know.length d1, .slice A2 r.held.length d2, .bool r.ses.on, .int .u32 r.ses.num, .int .u8 r.ses.src, .int .u8 r.ses.cur, .int .u32 r.ses.epoch, .slice A3 r.ses.offer.length d3, .int .u32 r.ses.last] (0, 0) _ rfl (BO.out.row #[.int .u8 r.rep, .int .u8 r.flt, .int .u32 r.epoch, .int .u32 r.seq, .slice A1 r.know.length d1, .slice A2 r.held.length d2, .bool r.ses.on, .int .u32 r.ses.num, .int .u8 r.ses.src, .int .u8 r.ses.cur, .int .u32 r.ses.epoch, .slice A3 r.ses.offer.length d3, .int .u32 r.ses.last]).at_ Tryz.underlying28 rfl rep_size1) rfl ?_
  have P1 := O1.out.setRowOther (h := w.heap.size + 1) (cs := #[.int .u8 r.rep, .int .u8 r.flt, .int .u32 r.epoch, .int .u32 r.seq, .slice A1 r.know.length d1, .slice A2 r.held.length d2, .bool r.ses.on, .int .u32 r.ses.num, .int .u8 r.ses.src, .int .u8 r.ses.cur, .int .u32 r.ses.epoch, .slice A3 r.ses.offer.length d3, .int .u32 r.ses.last]) (by omega)
  have P2 := O2.out.setRowOther (h := w.heap.size + 1) (cs := #[.int .u8 r.rep, .int .u8 r.flt, .int .u32 r.epoch, .int .u32 r.seq, .slice A1 r.know.length d1, .slice A2 r.held.length d2, .bool r.ses.on, .int .u32 r.ses.num, .int .u8 r.ses.src, .int .u8 r.ses.cur, .int .u32 r.ses.epoch, .slice A3 r.ses.offer.length d3, .int .u32 r.ses.last]) (by omega)
  have P3 := O3.out.setRowOther (h := w.heap.size + 1) (cs := #[.int .u8 r.rep, .int .u8 r.flt, .int .u32 r.epoch, .int .u32 r.seq, .slice A1 r.know.length d1, .slice A2 r.held.length d2, .bool r.ses.on, .int .u32 r.ses.num, .int .u8 r.ses.src, .int .u8 r.ses.cur, .int .u32 r.ses.epoch, .slice A3 r.ses.offer.length d3, .int .u32 r.ses.last]) (by omega)
  have hok := HOK.out
  refine ⟨_, rfl, ⟨_, _, _, rfl, P1.sl hok.2.2.2.2.1, P2.sl hok.2.2.2.2.2.1, P3.sl hok.2.2.2.2.2.2.2.2.2.2.1, hok⟩, ⟨_, _, _, rfl, P1.av.mono fun k hk => by omega, P2.av.mono fun k hk => by omega, P3.av.mono fun k hk => by omega⟩, below_setRow1 HB.out (by omega) _⟩

set_option maxHeartbeats 8000000 in
set_option maxRecDepth 100000 in
theorem tidle_val (r : Rp) (lr : Ls) (w : World) : Calls Tryz.prog 34 #[.agg #[.int .u8 r.rep, .int .u8 r.flt, .int .u32 r.epoch, .int .u32 r.seq, .slice lr.a r.know.length lr.i, .slice lr.b r.held.length lr.j, .bool r.ses.on, .int .u32 r.ses.num, .int .u8 r.ses.src, .int .u8 r.ses.cur, .int .u32 r.ses.epoch, .slice lr.c r.ses.offer.length lr.k, .int .u32 r.ses.last]] w fun e w' => e = .returned (.agg #[.int .u8 r.rep, .int .u8 r.flt, .int .u32 r.epoch, .int .u32 r.seq, .slice lr.a r.know.length lr.i, .slice lr.b r.held.length lr.j, .bool false, .int .u32 0, .int .u8 0, .int .u8 0, .int .u32 0, .slice none 0 0, .int .u32 r.ses.last]) ∧ Below w.heap.size w w' := by
  go_enter Tryz.func34, Tryz.ntmps34
  go_wp2_with (first
    | (refine wpList_load_row rfl _ _ rfl w.heap.size rfl 28 #[.int .u8 r.rep, .int .u8 r.flt, .int .u32 r.epoch, .int .u32 r.seq, .slice lr.a r.know.length lr.i, .slice lr.b r.held.length lr.j, .bool false, .int .u32 0, .int .u8 0, .int .u8 0, .int .u32 0, .slice none 0 0, .int .u32 r.ses.last] (0, 0) _ ((Blk.new w #[.int .u8 r.rep, .int .u8 r.flt, .int .u32 r.epoch, .int .u32 r.seq, .slice lr.a r.know.length lr.i, .slice lr.b r.held.length lr.j, .bool false, .int .u32 0, .int .u8 0, .int .u8 0, .int .u32 0, .slice none 0 0, .int .u32 r.ses.last] 28).alloc _).at_ Tryz.underlying28 rfl rep_size1 ?_)
    | (refine wpList_store_row rfl _ _ _ rfl (w.heap.size + 1) #[.int .u8 r.rep, .int .u8 r.flt, .int .u32 r.epoch, .int .u32 r.seq, .slice lr.a r.know.length lr.i, .slice lr.b r.held.length lr.j, .bool false, .int .u32 0, .int .u8 0, .int .u8 0, .int .u32 0, .slice none 0 0, .int .u32 r.ses.last] rfl rfl 28 _ (blk_two w _ _ _).at_ rep_size1 rfl (by simp [Value.oneCell']) ?_))
  refine bodyPost_ret (v := .agg #[.int .u8 r.rep, .int .u8 r.flt, .int .u32 r.epoch, .int .u32 r.seq, .slice lr.a r.know.length lr.i, .slice lr.b r.held.length lr.j, .bool false, .int .u32 0, .int .u8 0, .int .u8 0, .int .u32 0, .slice none 0 0, .int .u32 r.ses.last]) (results_cell_row Tryz.results34 _ _ (w.heap.size + 1) 28 #[.int .u8 r.rep, .int .u8 r.flt, .int .u32 r.epoch, .int .u32 r.seq, .slice lr.a r.know.length lr.i, .slice lr.b r.held.length lr.j, .bool false, .int .u32 0, .int .u8 0, .int .u8 0, .int .u32 0, .slice none 0 0, .int .u32 r.ses.last] (0, 0) _ rfl ((blk_two w _ _ _).row #[.int .u8 r.rep, .int .u8 r.flt, .int .u32 r.epoch, .int .u32 r.seq, .slice lr.a r.know.length lr.i, .slice lr.b r.held.length lr.j, .bool false, .int .u32 0, .int .u8 0, .int .u8 0, .int .u32 0, .slice none 0 0, .int .u32 r.ses.last]).at_ Tryz.underlying28 rfl rep_size1) rfl ?_
  exact ⟨rfl, below_setRow1 ((al2 w _ _)) (by omega) _⟩
theorem tidle_any (P : Nat → Prop) (v : Value) (r : Rp) (w : World) (hv : RpV w w.heap.size v r) (ha : RpAv P v r) : Calls Tryz.prog 34 #[v] w fun e w' => ∃ v', e = .returned v' ∧ RpV w' w'.heap.size v' (offP r) ∧ RpAv P v' (offP r) ∧ Below w.heap.size w w' := by
  obtain ⟨lr, rfl⟩ := hv.rows
  refine (tidle_val r lr w).mono ?_
  rintro e w' ⟨rfl, hb⟩
  obtain ⟨_, _, _, hw, a1, a2, _⟩ := ha
  obtain ⟨rfl, rfl, rfl⟩ := rep_cells_inj hw
  have hl := hv.later hb
  exact ⟨_, rfl, ⟨.slice lr.a r.know.length lr.i, .slice lr.b r.held.length lr.j, .slice none 0 0, rfl, hl.skn, hl.she, Sl.nil _ _, off_ok hv.isok⟩, ⟨.slice lr.a r.know.length lr.i, .slice lr.b r.held.length lr.j, .slice none 0 0, rfl, a1, a2, fun h => absurd rfl h⟩, hb⟩

set_option maxHeartbeats 8000000 in
set_option maxRecDepth 100000 in
theorem tpullOf_any (v : Value) (r : Rp) (w : World) (hv : RpV w w.heap.size v r) (h1 : r.know.length ≤ 10000) :
    Calls Tryz.prog 36 #[v] w (NoteSure w (.ok (pullP r))) := by
  have hm : Tryz.prog.follows .mixedOrders = true := by kernel_rfl
  have HM := Lib.hid hm; clear hm
  obtain ⟨lr, rfl⟩ := hv.rows
  have HV := Lib.hid hv
  have C1 := Lib.hid (fun w1 (hb : Below w.heap.size w w1) => rClone_any (.slice lr.a r.know.length lr.i) r.know w1 (HV.out.later hb).skn h1)
  have HOK := Lib.hid hv.isok
  clear hv h1
  unfold repR repRow Rp.cells
  go_enter Tryz.func36, Tryz.ntmps36
  go_wp2_with fail
  have BR := Lib.hid (((Blk.new w #[.int .u8 r.rep, .int .u8 r.flt, .int .u32 r.epoch, .int .u32 r.seq, .slice lr.a r.know.length lr.i, .slice lr.b r.held.length lr.j, .bool r.ses.on, .int .u32 r.ses.num, .int .u8 r.ses.src, .int .u8 r.ses.cur, .int .u32 r.ses.epoch, .slice lr.c r.ses.offer.length lr.k, .int .u32 r.ses.last] 28).alloc (.cells #[.int .i64 0, .int .u8 0, .int .u8 0, .int .u32 0, .int .u8 0, .int .u8 0, .slice none 0 0, .int .u32 0, .slice none 0 0, .int .u8 0, .bool false, .slice none 0 0] 30)).alloc (.cells #[.bool r.ses.on, .int .u32 r.ses.num, .int .u8 r.ses.src, .int .u8 r.ses.cur, .int .u32 r.ses.epoch, .slice lr.c r.ses.offer.length lr.k, .int .u32 r.ses.last] 26))
  have B3 := Lib.hid (blk_three w #[.int .u8 r.rep, .int .u8 r.flt, .int .u32 r.epoch, .int .u32 r.seq, .slice lr.a r.know.length lr.i, .slice lr.b r.held.length lr.j, .bool r.ses.on, .int .u32 r.ses.num, .int .u8 r.ses.src, .int .u8 r.ses.cur, .int .u32 r.ses.epoch, .slice lr.c r.ses.offer.length lr.k, .int .u32 r.ses.last] 28 #[.int .i64 0, .int .u8 0, .int .u8 0, .int .u32 0, .int .u8 0, .int .u8 0, .slice none 0 0, .int .u32 0, .slice none 0 0, .int .u8 0, .bool false, .slice none 0 0] 30 #[.bool r.ses.on, .int .u32 r.ses.num, .int .u8 r.ses.src, .int .u8 r.ses.cur, .int .u32 r.ses.epoch, .slice lr.c r.ses.offer.length lr.k, .int .u32 r.ses.last] 26)
  have HB := Lib.hid (al3 w (.cells #[.int .u8 r.rep, .int .u8 r.flt, .int .u32 r.epoch, .int .u32 r.seq, .slice lr.a r.know.length lr.i, .slice lr.b r.held.length lr.j, .bool r.ses.on, .int .u32 r.ses.num, .int .u8 r.ses.src, .int .u8 r.ses.cur, .int .u32 r.ses.epoch, .slice lr.c r.ses.offer.length lr.k, .int .u32 r.ses.last] 28) (.cells #[.int .i64 0, .int .u8 0, .int .u8 0, .int .u32 0, .int .u8 0, .int .u8 0, .slice none 0 0, .int .u32 0, .slice none 0 0, .int .u8 0, .bool false, .slice none 0 0] 30) (.cells #[.bool r.ses.on, .int .u32 r.ses.num, .int .u8 r.ses.src, .int .u8 r.ses.cur, .int .u32 r.ses.epoch, .slice lr.c r.ses.offer.length lr.k, .int .u32 r.ses.last] 26))
  generalize ((w.alloc (.cells #[.int .u8 r.rep, .int .u8 r.flt, .int .u32 r.epoch, .int .u32 r.seq, .slice lr.a r.know.length lr.i, .slice lr.b r.held.length lr.j, .bool r.ses.on, .int .u32 r.ses.num, .int .u8 r.ses.src, .int .u8 r.ses.cur, .int .u32 r.ses.epoch, .slice lr.c r.ses.offer.length lr.k, .int .u32 r.ses.last] 28)).alloc (.cells #[.int .i64 0, .int .u8 0, .int .u8 0, .int .u32 0, .int .u8 0, .int .u8 0, .slice none 0 0, .int .u32 0, .slice none 0 0, .int .u8 0, .bool false, .slice none 0 0] 30)).alloc (.cells #[.bool r.ses.on, .int .u32 r.ses.num, .int .u8 r.ses.src, .int .u8 r.ses.cur, .int .u32 r.ses.epoch, .slice lr.c r.ses.offer.length lr.k, .int .u32 r.ses.last] 26) = W0 at BR B3 HB ⊢
  refine wp_region_C (fun w' => Blk w' w.heap.size #[.int .u8 r.rep, .int .u8 r.flt, .int .u32 r.epoch, .int .u32 r.seq, .slice lr.a r.know.length lr.i, .slice lr.b r.held.length lr.j, .bool r.ses.on, .int .u32 r.ses.num, .int .u8 r.ses.src, .int .u8 r.ses.cur, .int .u32 r.ses.epoch, .slice lr.c r.ses.offer.length lr.k, .int .u32 r.ses.last] 28 ∧ Blk w' (w.heap.size + 1 + 1) #[.bool r.ses.on, .int .u32 r.ses.num, .int .u8 r.ses.src, .int .u8 r.ses.cur, .int .u32 r.ses.epoch, .slice lr.c r.ses.offer.length lr.k, .int .u32 r.ses.last] 26) HM.out ?_
  have HC := Lib.hid (show Blk W0.drew w.heap.size #[.int .u8 r.rep, .int .u8 r.flt, .int .u32 r.epoch, .int .u32 r.seq, .slice lr.a r.know.length lr.i, .slice lr.b r.held.length lr.j, .bool r.ses.on, .int .u32 r.ses.num, .int .u8 r.ses.src, .int .u8 r.ses.cur, .int .u32 r.ses.epoch, .slice lr.c r.ses.offer.length lr.k, .int .u32 r.ses.last] 28 ∧ Blk W0.drew (w.heap.size + 1 + 1) #[.bool r.ses.on, .int .u32 r.ses.num, .int .u8 r.ses.src, .int .u8 r.ses.cur, .int .u32 r.ses.epoch, .slice lr.c r.ses.offer.length lr.k, .int .u32 r.ses.last] 26 from ⟨⟨B3.out.1.at_⟩, ⟨B3.out.2.2.at_⟩⟩)
  refine anyC_take (i := 0) (v := .pointer (some ⟨w.heap.size, 0, none⟩)) rfl (by kernel_rfl) (by kernel_rfl) (by kernel_rfl) (fun _ _ _ h => h) HC.out ⟨by rfl, fun w' hw => by go_simp⟩ ?_
  refine anyC_take (i := 1) (v := .int .u8 r.rep) rfl (by kernel_rfl) (by kernel_rfl) (by kernel_rfl) (fun _ _ _ h => h) HC.out ⟨by rfl, fun w' hw => by (have c := hw.1.cell 0 _ rfl; go_simp)⟩ ?_
  refine anyC_take (i := 2) (v := .pointer (some ⟨w.heap.size + 1 + 1, 2, none⟩)) rfl (by kernel_rfl) (by kernel_rfl) (by kernel_rfl) (fun _ _ _ h => h) HC.out ⟨by rfl, fun w' hw => by go_simp⟩ ?_
  refine anyC_take (i := 3) (v := .int .u8 r.ses.src) rfl (by kernel_rfl) (by kernel_rfl) (by kernel_rfl) (fun _ _ _ h => h) HC.out ⟨by rfl, fun w' hw => by (have c := hw.2.cell 2 _ rfl; go_simp)⟩ ?_
  refine anyC_take (i := 4) (v := .pointer (some ⟨w.heap.size + 1 + 1, 1, none⟩)) rfl (by kernel_rfl) (by kernel_rfl) (by kernel_rfl) (fun _ _ _ h => h) HC.out ⟨by rfl, fun w' hw => by go_simp⟩ ?_
  refine anyC_take (i := 5) (v := .int .u32 r.ses.num) rfl (by kernel_rfl) (by kernel_rfl) (by kernel_rfl) (fun _ _ _ h => h) HC.out ⟨by rfl, fun w' hw => by (have c := hw.2.cell 1 _ rfl; go_simp)⟩ ?_
  refine anyC_take (i := 6) (v := .pointer (some ⟨w.heap.size + 1 + 1, 3, none⟩)) rfl (by kernel_rfl) (by kernel_rfl) (by kernel_rfl) (fun _ _ _ h => h) HC.out ⟨by rfl, fun w' hw => by go_simp⟩ ?_
  refine anyC_take (i := 7) (v := .int .u8 r.ses.cur) rfl (by kernel_rfl) (by kernel_rfl) (by kernel_rfl) (fun _ _ _ h => h) HC.out ⟨by rfl, fun w' hw => by (have c := hw.2.cell 3 _ rfl; go_simp)⟩ ?_
  refine anyC_take (i := 8) (v := .pointer (some ⟨w.heap.size, 1, none⟩)) rfl (by kernel_rfl) (by kernel_rfl) (by kernel_rfl) (fun _ _ _ h => h) HC.out ⟨by rfl, fun w' hw => by go_simp⟩ ?_
  refine anyC_take (i := 9) (v := .int .u8 r.flt) rfl (by kernel_rfl) (by kernel_rfl) (by kernel_rfl) (fun _ _ _ h => h) HC.out ⟨by rfl, fun w' hw => by (have c := hw.1.cell 1 _ rfl; go_simp)⟩ ?_
  refine anyC_take (i := 10) (v := .pointer (some ⟨w.heap.size, 4, none⟩)) rfl (by kernel_rfl) (by kernel_rfl) (by kernel_rfl) (fun _ _ _ h => h) HC.out ⟨by rfl, fun w' hw => by go_simp⟩ ?_
  refine anyC_take (i := 11) (v := .slice lr.a r.know.length lr.i) rfl (by kernel_rfl) (by kernel_rfl) (by kernel_rfl) (fun _ _ _ h => h) HC.out ⟨by rfl, fun w' hw => by (have c := hw.1.cell 4 _ rfl; go_simp)⟩ ?_
  refine anyC_one (i := 12) (by decide +kernel) rfl rfl fun K hK => ?_
  go_simp
  refine (C1.out W0.drew (HB.out.trans ((Below.refl _ W0).drew))).mono ?_
  rintro e w1 ⟨v1, rfl, o1, hb⟩
  obtain ⟨A1, d1, rfl, _⟩ := o1.form
  have HC := Lib.hid (And.intro (HC.out.1.keep hb) (HC.out.2.keep hb))
  have BZ := Lib.hid ((show Blk W0.drew (w.heap.size + 1) #[.int .i64 0, .int .u8 0, .int .u8 0, .int .u32 0, .int .u8 0, .int .u8 0, .slice none 0 0, .int .u32 0, .slice none 0 0, .int .u8 0, .bool false, .slice none 0 0] 30 from ⟨B3.out.2.1.at_⟩).keep hb)
  have HB := Lib.hid ((HB.out.trans ((Below.refl _ W0).drew)).trans (hb.mono (show w.heap.size ≤ W0.drew.heap.size from HB.out.size)))
  have hle : w.heap.size + 1 + 1 < W0.drew.heap.size := B3.out.2.2.lt
  have O1 := Lib.hid (o1.mono (Nat.le_of_lt hle)); clear o1 hb hle
  refine hK _ _ HC.out ?_
  refine anyC_one (i := 13) (by decide +kernel) rfl rfl fun K hK => ?_
  go_simp
  refine hK _ _ HC.out ?_
  refine anyC_one (i := 14) (by decide +kernel) rfl rfl fun K hK => ?_
  refine wp_store_row _ _ _ rfl (w.heap.size + 1) #[.int .i64 1, .int .u8 r.rep, .int .u8 r.ses.src, .int .u32 r.ses.num, .int .u8 r.ses.cur, .int .u8 r.flt, .slice A1 r.know.length d1, .int .u32 0, .slice none 0 0, .int .u8 0, .bool false, .slice none 0 0] rfl rfl 30 #[.int .i64 0, .int .u8 0, .int .u8 0, .int .u32 0, .int .u8 0, .int .u8 0, .slice none 0 0, .int .u32 0, .slice none 0 0, .int .u8 0, .bool false, .slice none 0 0] BZ.out.at_ note_size1 rfl (by simp [Value.oneCell']) ?_
  refine hK _ _ ⟨HC.out.1.other (by omega) _, HC.out.2.other (by omega) _⟩ (anyC_done (by decide +kernel) ?_)
  clear hK
  go_wp2_with fail
  refine bodyPost_ret (v := .agg #[.int .i64 1, .int .u8 r.rep, .int .u8 r.ses.src, .int .u32 r.ses.num, .int .u8 r.ses.cur, .int .u8 r.flt, .slice A1 r.know.length d1, .int .u32 0, .slice none 0 0, .int .u8 0, .bool false, .slice none 0 0]) (results_cell_row Tryz.results36 _ _ (w.heap.size + 1) 30 #[.int .i64 1, .int .u8 r.rep, .int .u8 r.ses.src, .int .u32 r.ses.num, .int .u8 r.ses.cur, .int .u8 r.flt, .slice A1 r.know.length d1, .int .u32 0, .slice none 0 0, .int .u8 0, .bool false, .slice none 0 0] (0, 0) _ rfl (BZ.out.row #[.int .i64 1, .int .u8 r.rep, .int .u8 r.ses.src, .int .u32 r.ses.num, .int .u8 r.ses.cur, .int .u8 r.flt, .slice A1 r.know.length d1, .int .u32 0, .slice none 0 0, .int .u8 0, .bool false, .slice none 0 0]).at_ Tryz.underlying30 rfl note_size1) rfl ?_
  have P1 := O1.out.setRowOther (h := w.heap.size + 1) (cs := #[.int .i64 1, .int .u8 r.rep, .int .u8 r.ses.src, .int .u32 r.ses.num, .int .u8 r.ses.cur, .int .u8 r.flt, .slice A1 r.know.length d1, .int .u32 0, .slice none 0 0, .int .u8 0, .bool false, .slice none 0 0]) (by omega)
  exact ⟨_, rfl, ⟨.slice A1 r.know.length d1, .slice none 0 0, .slice none 0 0, rfl, P1.sl HOK.out.2.2.2.2.1, ESl.nil _ _, Sl.nil _ _, pull_ok HOK.out⟩, ⟨.slice A1 r.know.length d1, .slice none 0 0, .slice none 0 0, rfl, P1.av.mono fun k hk => by omega, fun h => absurd rfl h, fun h => absurd rfl h⟩, below_setRow1 HB.out (by omega) _⟩
end Go.Proofs.YtfjaeohfigcciabGreatDoor

