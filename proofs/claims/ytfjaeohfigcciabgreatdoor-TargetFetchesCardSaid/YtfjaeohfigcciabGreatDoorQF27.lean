/- Texts in one: TC3. -/
import Derived.Test.YtfjaeohfigcciabGreatDoorQF24
import Derived.Test.YtfjaeohfigcciabGreatDoorQF25
import Derived.Test.YtfjaeohfigcciabGreatDoorQF18
import Derived.Test.YtfjaeohfigcciabGreatDoorQF26
set_option linter.unusedVariables false
set_option linter.unusedSimpArgs false
set_option linter.unusedSectionVars false
set_option linter.unnecessarySimpa false
namespace Go.Proofs.YtfjaeohfigcciabGreatDoor
open Go.RowKit

/-- why no session can begin -/
def refuseB (r : Rp) (src : Int) : Option Int := if rpB r = false ∨ 7 < src ∨ src = r.rep then some 9 else if r.ses.last = 4294967295 then some 5 else none

set_option maxHeartbeats 8000000 in
set_option maxRecDepth 100000 in
theorem trefB_any (v : Value) (r : Rp) (src : Int) (w : World) (hv : RpV w w.heap.size v r) (h1 : r.know.length ≤ 1000) (h2 : r.held.length ≤ 1000) (h3 : r.ses.offer.length ≤ 1000) :
    Calls Tryz.prog 81 #[v, .int .u8 src] w fun e w' => e = .returned (refV (refuseB r src)) ∧ Below w.heap.size w w' := by
  have HR := Lib.hid (fun w1 (hb : Below w.heap.size w w1) => pRight_any v r w1 (hv.later hb) h1 h2 h3)
  have HP := Lib.hid (show refuseB r src = if rpB r = false ∨ 7 < src ∨ src = r.rep then some 9 else if r.ses.last = 4294967295 then some 5 else none from rfl)
  obtain ⟨lr, rfl⟩ := hv.rows
  clear hv h1 h2 h3
  unfold repR repRow Rp.cells at HR ⊢
  generalize refuseB r src = D at HP ⊢
  generalize rpB r = q1 at HR HP
  go_enter Tryz.func81, Tryz.ntmps81
  go_wp2_with fail
  have HB := Lib.hid (al1 w (.cells #[.int .u8 r.rep, .int .u8 r.flt, .int .u32 r.epoch, .int .u32 r.seq, .slice lr.a r.know.length lr.i, .slice lr.b r.held.length lr.j, .bool r.ses.on, .int .u32 r.ses.num, .int .u8 r.ses.src, .int .u8 r.ses.cur, .int .u32 r.ses.epoch, .slice lr.c r.ses.offer.length lr.k, .int .u32 r.ses.last] 28))
  have BR := Lib.hid (Blk.new w #[.int .u8 r.rep, .int .u8 r.flt, .int .u32 r.epoch, .int .u32 r.seq, .slice lr.a r.know.length lr.i, .slice lr.b r.held.length lr.j, .bool r.ses.on, .int .u32 r.ses.num, .int .u8 r.ses.src, .int .u8 r.ses.cur, .int .u32 r.ses.epoch, .slice lr.c r.ses.offer.length lr.k, .int .u32 r.ses.last] 28)
  generalize w.alloc (.cells #[.int .u8 r.rep, .int .u8 r.flt, .int .u32 r.epoch, .int .u32 r.seq, .slice lr.a r.know.length lr.i, .slice lr.b r.held.length lr.j, .bool r.ses.on, .int .u32 r.ses.num, .int .u8 r.ses.src, .int .u8 r.ses.cur, .int .u32 r.ses.epoch, .slice lr.c r.ses.offer.length lr.k, .int .u32 r.ses.last] 28) = W0 at HB BR ⊢
  refine (HR.out W0 HB.out).mono ?_
  rintro e w1 ⟨rfl, hb⟩
  have BR := Lib.hid (BR.out.keep hb)
  have HB := Lib.hid (HB.out.trans (hb.mono HB.out.size)); clear hb
  have c0 := BR.out.cell 0 (.int .u8 r.rep) rfl
  have c12 := BR.out.cell 12 (.int .u32 r.ses.last) rfl
  cases q1
  · go_wp2_with fail
    go_ret
    exact ⟨by rw [HP.out]; rfl, HB.out⟩
  obtain ⟨q2, hq2⟩ : ∃ q : Bool, decide (8 ≤ src) = q := ⟨_, rfl⟩
  obtain ⟨q3, hq3⟩ : ∃ q : Bool, (src == r.rep) = q := ⟨_, rfl⟩
  obtain ⟨q4, hq4⟩ : ∃ q : Bool, (r.ses.last == 4294967295) = q := ⟨_, rfl⟩
  have H2 := Lib.hid hq2
  have H3 := Lib.hid hq3
  have H4 := Lib.hid hq4
  cases q2
  · cases q3
    · cases q4
      · go_wp2_with fail
        go_ret
        have a2 := H2.out
        have a3 := H3.out
        have a4 := H4.out
        simp only [decide_eq_false_iff_not, beq_eq_false_iff_ne] at a2 a3 a4
        refine ⟨?_, HB.out⟩
        rw [HP.out, if_neg (by simp; exact ⟨by omega, a3⟩), if_neg a4]; rfl
      · go_wp2_with fail
        go_ret
        have a2 := H2.out
        have a3 := H3.out
        have a4 := H4.out
        simp only [decide_eq_false_iff_not, beq_eq_false_iff_ne, beq_iff_eq] at a2 a3 a4
        refine ⟨?_, HB.out⟩
        rw [HP.out, if_neg (by simp; exact ⟨by omega, a3⟩), if_pos a4]; rfl
    · go_wp2_with fail
      go_ret
      have a3 := H3.out
      simp only [beq_iff_eq] at a3
      exact ⟨by rw [HP.out, if_pos (.inr (.inr a3))]; rfl, HB.out⟩
  · go_wp2_with fail
    go_ret
    have a2 := H2.out
    simp only [decide_eq_true_eq] at a2
    exact ⟨by rw [HP.out, if_pos (.inr (.inl (by omega)))]; rfl, HB.out⟩
theorem begin_refuse (r : Rp) (src : Int) : beginR r src = match refuseB r src with | some c => (zeroP, zeroN, c) | none => (beginP r src, pullP (beginP r src), 0) := by
  unfold beginR refuseB
  split
  · rfl
  · split <;> rfl

/-- begun's code behind its second statement -/
noncomputable def begunRest : Code := tailN 2 (Tryz.f46.body.getD .skip)
theorem begun_cut {a0 a1 c : Code} (h : Tryz.f46.body = some (.seq a0 (.seq a1 c))) : Tryz.f46.body = some (.seq a0 (.seq a1 begunRest)) := by
  have e : begunRest = c := tail2 h
  rw [e]
  exact h
set_option maxHeartbeats 8000000 in
set_option maxRecDepth 100000 in
theorem begun_rest {w wf : World} {r : Rp} {lr lc : Ls} {src : Int} {gA : Nat} (hok : r.ok) (hsrc : 0 ≤ src ∧ src ≤ 255) (hlt : r.ses.last < 4294967295) (hc : Blk wf w.heap.size #[.int .u8 r.rep, .int .u8 r.flt, .int .u32 r.epoch, .int .u32 r.seq, .slice lr.a r.know.length lr.i, .slice lr.b r.held.length lr.j, .bool r.ses.on, .int .u32 r.ses.num, .int .u8 r.ses.src, .int .u8 r.ses.cur, .int .u32 r.ses.epoch, .slice lr.c r.ses.offer.length lr.k, .int .u32 r.ses.last] 28) (ho : Blk wf (w.heap.size + 1) #[.int .u8 0, .int .u8 0, .int .u32 0, .int .u32 0, .slice none 0 0, .slice none 0 0, .bool false, .int .u32 0, .int .u8 0, .int .u8 0, .int .u32 0, .slice none 0 0, .int .u32 0] 28) (hba : Blk wf gA #[.int .u8 r.rep, .int .u8 r.flt, .int .u32 r.epoch, .int .u32 r.seq, .slice lc.a r.know.length lc.i, .slice lc.b r.held.length lc.j, .bool r.ses.on, .int .u32 r.ses.num, .int .u8 r.ses.src, .int .u8 r.ses.cur, .int .u32 r.ses.epoch, .slice lc.c r.ses.offer.length lc.k, .int .u32 r.ses.last] 28)
    (hv : RpV wf wf.heap.size (.agg (repR r lc)) r) (hn : RpAv (fun k => k ≠ gA) (.agg (repR r lc)) r) (hq : RpAv (fun k => w.heap.size + 1 < k) (.agg (repR r lc)) r) (hb : Below w.heap.size w wf) (hlg : w.heap.size + 1 < gA)
    {u0 u3 u6 u7 u8 u9 u10 u11 u12 u13 u14 u15 u16 u17 u18 u19 u20 u21 u22 : Value} :
    begunRest.wp Tryz.prog (bodyPost Tryz.prog Tryz.f46 (RepSure w (.ok (beginP r src)))) { tmps := #[u0, .int .u8 src, .pointer (some ⟨w.heap.size, 0, none⟩), u3, .pointer (some ⟨w.heap.size + 1, 0, none⟩), .pointer (some ⟨gA, 0, none⟩), u6, u7, u8, u9, u10, u11, u12, u13, u14, u15, u16, u17, u18, u19, u20, u21, u22], defers := [] } wf := by
  have HC := Lib.hid hc
  have BO := Lib.hid ho
  have BA := Lib.hid hba
  have HV := Lib.hid hv
  have HN := Lib.hid hn
  have HQ := Lib.hid hq
  have HB := Lib.hid hb
  have HOK := Lib.hid hok
  have HLT := Lib.hid hlt
  have HML := Lib.hid (show (r.ses.last + 1) % 4294967296 = r.ses.last + 1 from (by have := hok.2.2.2.2.2.2.2.2.2.2.2; omega))
  clear hc ho hba hv hn hq hb hok hlt
  unfold begunRest
  rw [tail2 (f := Tryz.f46) rfl]
  have c12 := HC.out.cell 12 (.int .u32 r.ses.last) rfl
  have a6 := BA.out.cell 6 (.bool r.ses.on) rfl
  have f6 := BA.out.free 6
  have a7 := BA.out.cell 7 (.int .u32 r.ses.num) rfl
  have f7 := BA.out.free 7
  have a8 := BA.out.cell 8 (.int .u8 r.ses.src) rfl
  have f8 := BA.out.free 8
  have a9 := BA.out.cell 9 (.int .u8 r.ses.cur) rfl
  have f9 := BA.out.free 9
  have a10 := BA.out.cell 10 (.int .u32 r.ses.epoch) rfl
  have f10 := BA.out.free 10
  have a11 := BA.out.cell 11 (.slice lc.c r.ses.offer.length lc.k) rfl
  have f11 := BA.out.free 11
  have a12 := BA.out.cell 12 (.int .u32 r.ses.last) rfl
  have f12 := BA.out.free 12
  have n1 : gA ≠ w.heap.size := by omega
  have n2 : gA ≠ w.heap.size + 1 := by omega
  go_upto_region 4 with fail
  have hml := HML.out
  rw [hml]
  clear hml c12 a6 f6 a7 f7 a8 f8 a9 f9 a10 f10 a11 f11 a12 f12
  have ho := ((((((((Off.refl gA wf).set 6 (.bool true)).set 7 (.int .u32 (r.ses.last + 1))).set 8 (.int .u8 src)).set 9 (.int .u8 0)).set 10 (.int .u32 0)).set 11 (.slice none 0 0)).set 12 (.int .u32 (r.ses.last + 1)))
  have BA := Lib.hid (show Blk (wf.setCell ⟨gA, 6, none⟩ (.bool true)) gA #[.int .u8 r.rep, .int .u8 r.flt, .int .u32 r.epoch, .int .u32 r.seq, .slice lc.a r.know.length lc.i, .slice lc.b r.held.length lc.j, .bool true, .int .u32 r.ses.num, .int .u8 r.ses.src, .int .u8 r.ses.cur, .int .u32 r.ses.epoch, .slice lc.c r.ses.offer.length lc.k, .int .u32 r.ses.last] 28 from BA.out.put 6 (.bool true))
  have BA := Lib.hid (show Blk ((wf.setCell ⟨gA, 6, none⟩ (.bool true)).setCell ⟨gA, 7, none⟩ (.int .u32 (r.ses.last + 1))) gA #[.int .u8 r.rep, .int .u8 r.flt, .int .u32 r.epoch, .int .u32 r.seq, .slice lc.a r.know.length lc.i, .slice lc.b r.held.length lc.j, .bool true, .int .u32 (r.ses.last + 1), .int .u8 r.ses.src, .int .u8 r.ses.cur, .int .u32 r.ses.epoch, .slice lc.c r.ses.offer.length lc.k, .int .u32 r.ses.last] 28 from BA.out.put 7 (.int .u32 (r.ses.last + 1)))
  have BA := Lib.hid (show Blk (((wf.setCell ⟨gA, 6, none⟩ (.bool true)).setCell ⟨gA, 7, none⟩ (.int .u32 (r.ses.last + 1))).setCell ⟨gA, 8, none⟩ (.int .u8 src)) gA #[.int .u8 r.rep, .int .u8 r.flt, .int .u32 r.epoch, .int .u32 r.seq, .slice lc.a r.know.length lc.i, .slice lc.b r.held.length lc.j, .bool true, .int .u32 (r.ses.last + 1), .int .u8 src, .int .u8 r.ses.cur, .int .u32 r.ses.epoch, .slice lc.c r.ses.offer.length lc.k, .int .u32 r.ses.last] 28 from BA.out.put 8 (.int .u8 src))
  have BA := Lib.hid (show Blk ((((wf.setCell ⟨gA, 6, none⟩ (.bool true)).setCell ⟨gA, 7, none⟩ (.int .u32 (r.ses.last + 1))).setCell ⟨gA, 8, none⟩ (.int .u8 src)).setCell ⟨gA, 9, none⟩ (.int .u8 0)) gA #[.int .u8 r.rep, .int .u8 r.flt, .int .u32 r.epoch, .int .u32 r.seq, .slice lc.a r.know.length lc.i, .slice lc.b r.held.length lc.j, .bool true, .int .u32 (r.ses.last + 1), .int .u8 src, .int .u8 0, .int .u32 r.ses.epoch, .slice lc.c r.ses.offer.length lc.k, .int .u32 r.ses.last] 28 from BA.out.put 9 (.int .u8 0))
  have BA := Lib.hid (show Blk (((((wf.setCell ⟨gA, 6, none⟩ (.bool true)).setCell ⟨gA, 7, none⟩ (.int .u32 (r.ses.last + 1))).setCell ⟨gA, 8, none⟩ (.int .u8 src)).setCell ⟨gA, 9, none⟩ (.int .u8 0)).setCell ⟨gA, 10, none⟩ (.int .u32 0)) gA #[.int .u8 r.rep, .int .u8 r.flt, .int .u32 r.epoch, .int .u32 r.seq, .slice lc.a r.know.length lc.i, .slice lc.b r.held.length lc.j, .bool true, .int .u32 (r.ses.last + 1), .int .u8 src, .int .u8 0, .int .u32 0, .slice lc.c r.ses.offer.length lc.k, .int .u32 r.ses.last] 28 from BA.out.put 10 (.int .u32 0))
  have BA := Lib.hid (show Blk ((((((wf.setCell ⟨gA, 6, none⟩ (.bool true)).setCell ⟨gA, 7, none⟩ (.int .u32 (r.ses.last + 1))).setCell ⟨gA, 8, none⟩ (.int .u8 src)).setCell ⟨gA, 9, none⟩ (.int .u8 0)).setCell ⟨gA, 10, none⟩ (.int .u32 0)).setCell ⟨gA, 11, none⟩ (.slice none 0 0)) gA #[.int .u8 r.rep, .int .u8 r.flt, .int .u32 r.epoch, .int .u32 r.seq, .slice lc.a r.know.length lc.i, .slice lc.b r.held.length lc.j, .bool true, .int .u32 (r.ses.last + 1), .int .u8 src, .int .u8 0, .int .u32 0, .slice none 0 0, .int .u32 r.ses.last] 28 from BA.out.put 11 (.slice none 0 0))
  have BA := Lib.hid (show Blk (((((((wf.setCell ⟨gA, 6, none⟩ (.bool true)).setCell ⟨gA, 7, none⟩ (.int .u32 (r.ses.last + 1))).setCell ⟨gA, 8, none⟩ (.int .u8 src)).setCell ⟨gA, 9, none⟩ (.int .u8 0)).setCell ⟨gA, 10, none⟩ (.int .u32 0)).setCell ⟨gA, 11, none⟩ (.slice none 0 0)).setCell ⟨gA, 12, none⟩ (.int .u32 (r.ses.last + 1))) gA #[.int .u8 r.rep, .int .u8 r.flt, .int .u32 r.epoch, .int .u32 r.seq, .slice lc.a r.know.length lc.i, .slice lc.b r.held.length lc.j, .bool true, .int .u32 (r.ses.last + 1), .int .u8 src, .int .u8 0, .int .u32 0, .slice none 0 0, .int .u32 (r.ses.last + 1)] 28 from BA.out.put 12 (.int .u32 (r.ses.last + 1)))
  have HV := Lib.hid (HV.out.off ho HN.out)
  have BO := Lib.hid (BO.out.off ho (by omega))
  have HB := Lib.hid (below_off HB.out ho (by omega))
  have hz := ho.size
  rw [← hz] at HV
  clear ho hz HC HN n1 n2
  generalize (((((((wf.setCell ⟨gA, 6, none⟩ (.bool true)).setCell ⟨gA, 7, none⟩ (.int .u32 (r.ses.last + 1))).setCell ⟨gA, 8, none⟩ (.int .u8 src)).setCell ⟨gA, 9, none⟩ (.int .u8 0)).setCell ⟨gA, 10, none⟩ (.int .u32 0)).setCell ⟨gA, 11, none⟩ (.slice none 0 0)).setCell ⟨gA, 12, none⟩ (.int .u32 (r.ses.last + 1))) = wg at BA HV BO HB ⊢
  go_wp2_with (first
    | (refine wpList_load_row rfl _ _ rfl gA rfl 28 #[.int .u8 r.rep, .int .u8 r.flt, .int .u32 r.epoch, .int .u32 r.seq, .slice lc.a r.know.length lc.i, .slice lc.b r.held.length lc.j, .bool true, .int .u32 (r.ses.last + 1), .int .u8 src, .int .u8 0, .int .u32 0, .slice none 0 0, .int .u32 (r.ses.last + 1)] (0, 0) _ BA.out.at_ Tryz.underlying28 rfl rep_size1 ?_)
    | (refine wpList_store_row rfl _ _ _ rfl (w.heap.size + 1) #[.int .u8 r.rep, .int .u8 r.flt, .int .u32 r.epoch, .int .u32 r.seq, .slice lc.a r.know.length lc.i, .slice lc.b r.held.length lc.j, .bool true, .int .u32 (r.ses.last + 1), .int .u8 src, .int .u8 0, .int .u32 0, .slice none 0 0, .int .u32 (r.ses.last + 1)] rfl rfl 28 _ BO.out.at_ rep_size1 rfl (by simp [Value.oneCell']) ?_))
  refine bodyPost_ret (v := .agg #[.int .u8 r.rep, .int .u8 r.flt, .int .u32 r.epoch, .int .u32 r.seq, .slice lc.a r.know.length lc.i, .slice lc.b r.held.length lc.j, .bool true, .int .u32 (r.ses.last + 1), .int .u8 src, .int .u8 0, .int .u32 0, .slice none 0 0, .int .u32 (r.ses.last + 1)]) (results_cell_row Tryz.results46 _ _ (w.heap.size + 1) 28 #[.int .u8 r.rep, .int .u8 r.flt, .int .u32 r.epoch, .int .u32 r.seq, .slice lc.a r.know.length lc.i, .slice lc.b r.held.length lc.j, .bool true, .int .u32 (r.ses.last + 1), .int .u8 src, .int .u8 0, .int .u32 0, .slice none 0 0, .int .u32 (r.ses.last + 1)] (0, 0) _ rfl (BO.out.row #[.int .u8 r.rep, .int .u8 r.flt, .int .u32 r.epoch, .int .u32 r.seq, .slice lc.a r.know.length lc.i, .slice lc.b r.held.length lc.j, .bool true, .int .u32 (r.ses.last + 1), .int .u8 src, .int .u8 0, .int .u32 0, .slice none 0 0, .int .u32 (r.ses.last + 1)]).at_ Tryz.underlying28 rfl rep_size1) rfl ?_
  have hv := (show RpV wg wg.heap.size (.agg (repR r lc)) r from HV.out)
  have ha := (show RpAv (fun k => w.heap.size + 1 < k) (.agg (repR r lc)) r from HQ.out).lists
  have P1 := hv.skn.rowOff (g := w.heap.size + 1) (ha.1.mono fun k hk => by omega) #[.int .u8 r.rep, .int .u8 r.flt, .int .u32 r.epoch, .int .u32 r.seq, .slice lc.a r.know.length lc.i, .slice lc.b r.held.length lc.j, .bool true, .int .u32 (r.ses.last + 1), .int .u8 src, .int .u8 0, .int .u32 0, .slice none 0 0, .int .u32 (r.ses.last + 1)]
  have P2 := hv.she.rowOff (g := w.heap.size + 1) (ha.2.1.mono fun k hk => by omega) #[.int .u8 r.rep, .int .u8 r.flt, .int .u32 r.epoch, .int .u32 r.seq, .slice lc.a r.know.length lc.i, .slice lc.b r.held.length lc.j, .bool true, .int .u32 (r.ses.last + 1), .int .u8 src, .int .u8 0, .int .u32 0, .slice none 0 0, .int .u32 (r.ses.last + 1)]
  have hz : (wg.setRow (w.heap.size + 1) #[.int .u8 r.rep, .int .u8 r.flt, .int .u32 r.epoch, .int .u32 r.seq, .slice lc.a r.know.length lc.i, .slice lc.b r.held.length lc.j, .bool true, .int .u32 (r.ses.last + 1), .int .u8 src, .int .u8 0, .int .u32 0, .slice none 0 0, .int .u32 (r.ses.last + 1)]).heap.size = wg.heap.size := by simp [World.setRow]
  rw [← hz] at P1 P2
  exact ⟨_, rfl, ⟨.slice lc.a r.know.length lc.i, .slice lc.b r.held.length lc.j, .slice none 0 0, rfl, P1, P2, Sl.nil _ _, begin_ok HOK.out hsrc HLT.out⟩, ⟨.slice lc.a r.know.length lc.i, .slice lc.b r.held.length lc.j, .slice none 0 0, rfl, ha.1.mono fun k hk => by omega, ha.2.1.mono fun k hk => by omega, fun h => absurd rfl h⟩, below_setRow1 (B := w.heap.size) (r := w.heap.size + 1) HB.out (by omega) _⟩
set_option maxHeartbeats 16000000 in
set_option maxRecDepth 100000 in
theorem tbegun_any (v : Value) (r : Rp) (src : Int) (w : World) (hv : RpV w w.heap.size v r) (hsrc : 0 ≤ src ∧ src ≤ 255) (h1 : r.know.length ≤ 1000) (h2 : r.held.length ≤ 1000) (h3 : r.ses.offer.length ≤ 1000) :
    Calls Tryz.prog 46 #[v, .int .u8 src] w (RepSure w (match refuseB r src with | some c => .error c | none => .ok (beginP r src))) := by
  have hm : Tryz.prog.follows .mixedOrders = true := by kernel_rfl
  have HM := Lib.hid hm; clear hm
  have CR := Lib.hid (fun w1 (hb : Below w.heap.size w w1) => trefB_any v r src w1 (hv.later hb) h1 h2 h3)
  have CC := Lib.hid (fun w1 (hb : Below w.heap.size w w1) => tcloned_any v r w1 (hv.later hb) (by omega) (by omega) (by omega))
  obtain ⟨lr, rfl⟩ := hv.rows
  have HOK := Lib.hid hv.isok
  clear hv h1 h2 h3
  unfold repR repRow Rp.cells at CR CC ⊢
  have HP := Lib.hid (show refuseB r src = refuseB r src from rfl)
  generalize hD : refuseB r src = D at CR ⊢
  have HD := Lib.hid hD; clear hD HP
  refine calls_of_wp Tryz.func46 (begun_cut rfl) ?_
  simp only [Tryz.ntmps46, List.size_toArray, List.length_cons, List.length_nil, Nat.reduceAdd, Nat.reduceSub, Array.replicate_succ, Array.replicate_zero, List.push_toArray, List.append_toArray, List.nil_append, List.cons_append]
  go_wp2_with fail
  have BR := Lib.hid ((Blk.new w #[.int .u8 r.rep, .int .u8 r.flt, .int .u32 r.epoch, .int .u32 r.seq, .slice lr.a r.know.length lr.i, .slice lr.b r.held.length lr.j, .bool r.ses.on, .int .u32 r.ses.num, .int .u8 r.ses.src, .int .u8 r.ses.cur, .int .u32 r.ses.epoch, .slice lr.c r.ses.offer.length lr.k, .int .u32 r.ses.last] 28).alloc (.cells #[.int .u8 0, .int .u8 0, .int .u32 0, .int .u32 0, .slice none 0 0, .slice none 0 0, .bool false, .int .u32 0, .int .u8 0, .int .u8 0, .int .u32 0, .slice none 0 0, .int .u32 0] 28))
  have BO := Lib.hid (blk_two w (.cells #[.int .u8 r.rep, .int .u8 r.flt, .int .u32 r.epoch, .int .u32 r.seq, .slice lr.a r.know.length lr.i, .slice lr.b r.held.length lr.j, .bool r.ses.on, .int .u32 r.ses.num, .int .u8 r.ses.src, .int .u8 r.ses.cur, .int .u32 r.ses.epoch, .slice lr.c r.ses.offer.length lr.k, .int .u32 r.ses.last] 28) #[.int .u8 0, .int .u8 0, .int .u32 0, .int .u32 0, .slice none 0 0, .slice none 0 0, .bool false, .int .u32 0, .int .u8 0, .int .u8 0, .int .u32 0, .slice none 0 0, .int .u32 0] 28)
  have HB := Lib.hid (al2 w (.cells #[.int .u8 r.rep, .int .u8 r.flt, .int .u32 r.epoch, .int .u32 r.seq, .slice lr.a r.know.length lr.i, .slice lr.b r.held.length lr.j, .bool r.ses.on, .int .u32 r.ses.num, .int .u8 r.ses.src, .int .u8 r.ses.cur, .int .u32 r.ses.epoch, .slice lr.c r.ses.offer.length lr.k, .int .u32 r.ses.last] 28) (.cells #[.int .u8 0, .int .u8 0, .int .u32 0, .int .u32 0, .slice none 0 0, .slice none 0 0, .bool false, .int .u32 0, .int .u8 0, .int .u8 0, .int .u32 0, .slice none 0 0, .int .u32 0] 28))
  have hsz : ((w.alloc (.cells #[.int .u8 r.rep, .int .u8 r.flt, .int .u32 r.epoch, .int .u32 r.seq, .slice lr.a r.know.length lr.i, .slice lr.b r.held.length lr.j, .bool r.ses.on, .int .u32 r.ses.num, .int .u8 r.ses.src, .int .u8 r.ses.cur, .int .u32 r.ses.epoch, .slice lr.c r.ses.offer.length lr.k, .int .u32 r.ses.last] 28)).alloc (.cells #[.int .u8 0, .int .u8 0, .int .u32 0, .int .u32 0, .slice none 0 0, .slice none 0 0, .bool false, .int .u32 0, .int .u8 0, .int .u8 0, .int .u32 0, .slice none 0 0, .int .u32 0] 28)).heap.size = w.heap.size + 1 + 1 := by simp
  generalize (w.alloc (.cells #[.int .u8 r.rep, .int .u8 r.flt, .int .u32 r.epoch, .int .u32 r.seq, .slice lr.a r.know.length lr.i, .slice lr.b r.held.length lr.j, .bool r.ses.on, .int .u32 r.ses.num, .int .u8 r.ses.src, .int .u8 r.ses.cur, .int .u32 r.ses.epoch, .slice lr.c r.ses.offer.length lr.k, .int .u32 r.ses.last] 28)).alloc (.cells #[.int .u8 0, .int .u8 0, .int .u32 0, .int .u32 0, .slice none 0 0, .slice none 0 0, .bool false, .int .u32 0, .int .u8 0, .int .u8 0, .int .u32 0, .slice none 0 0, .int .u32 0] 28) = W0 at BR BO HB hsz ⊢
  refine wp_region_C (fun w' => Blk w' w.heap.size #[.int .u8 r.rep, .int .u8 r.flt, .int .u32 r.epoch, .int .u32 r.seq, .slice lr.a r.know.length lr.i, .slice lr.b r.held.length lr.j, .bool r.ses.on, .int .u32 r.ses.num, .int .u8 r.ses.src, .int .u8 r.ses.cur, .int .u32 r.ses.epoch, .slice lr.c r.ses.offer.length lr.k, .int .u32 r.ses.last] 28) HM.out ?_
  have HC := Lib.hid (show Blk W0.drew w.heap.size #[.int .u8 r.rep, .int .u8 r.flt, .int .u32 r.epoch, .int .u32 r.seq, .slice lr.a r.know.length lr.i, .slice lr.b r.held.length lr.j, .bool r.ses.on, .int .u32 r.ses.num, .int .u8 r.ses.src, .int .u8 r.ses.cur, .int .u32 r.ses.epoch, .slice lr.c r.ses.offer.length lr.k, .int .u32 r.ses.last] 28 from ⟨BR.out.at_⟩)
  refine anyC_take (i := 0) (v := .agg #[.int .u8 r.rep, .int .u8 r.flt, .int .u32 r.epoch, .int .u32 r.seq, .slice lr.a r.know.length lr.i, .slice lr.b r.held.length lr.j, .bool r.ses.on, .int .u32 r.ses.num, .int .u8 r.ses.src, .int .u8 r.ses.cur, .int .u32 r.ses.epoch, .slice lr.c r.ses.offer.length lr.k, .int .u32 r.ses.last]) rfl (by kernel_rfl) (by kernel_rfl) (by kernel_rfl) (fun _ _ _ h => h) HC.out (reads_row rfl _ _ rfl (w.heap.size) rfl 28 #[.int .u8 r.rep, .int .u8 r.flt, .int .u32 r.epoch, .int .u32 r.seq, .slice lr.a r.know.length lr.i, .slice lr.b r.held.length lr.j, .bool r.ses.on, .int .u32 r.ses.num, .int .u8 r.ses.src, .int .u8 r.ses.cur, .int .u32 r.ses.epoch, .slice lr.c r.ses.offer.length lr.k, .int .u32 r.ses.last] _ (fun w' hw => hw.at_) Tryz.underlying28 rfl rep_size1) ?_
  refine anyC_take (i := 1) (v := .agg #[.int .u8 r.rep, .int .u8 r.flt, .int .u32 r.epoch, .int .u32 r.seq, .slice lr.a r.know.length lr.i, .slice lr.b r.held.length lr.j, .bool r.ses.on, .int .u32 r.ses.num, .int .u8 r.ses.src, .int .u8 r.ses.cur, .int .u32 r.ses.epoch, .slice lr.c r.ses.offer.length lr.k, .int .u32 r.ses.last]) rfl (by kernel_rfl) (by kernel_rfl) (by kernel_rfl) (fun _ _ _ h => h) HC.out (reads_row rfl _ _ rfl (w.heap.size) rfl 28 #[.int .u8 r.rep, .int .u8 r.flt, .int .u32 r.epoch, .int .u32 r.seq, .slice lr.a r.know.length lr.i, .slice lr.b r.held.length lr.j, .bool r.ses.on, .int .u32 r.ses.num, .int .u8 r.ses.src, .int .u8 r.ses.cur, .int .u32 r.ses.epoch, .slice lr.c r.ses.offer.length lr.k, .int .u32 r.ses.last] _ (fun w' hw => hw.at_) Tryz.underlying28 rfl rep_size1) ?_
  refine anyC_take (i := 2) (v := .int .u8 src) rfl (by kernel_rfl) (by kernel_rfl) (by kernel_rfl) (fun _ _ _ h => h) HC.out ⟨by rfl, fun w' hw => by go_simp⟩ ?_
  have hs0 : w.heap.size + 1 < W0.drew.heap.size := BO.out.lt
  have HS := Lib.hid hs0; clear hs0 BR hsz
  have BO := Lib.hid (show Blk W0.drew (w.heap.size + 1) #[.int .u8 0, .int .u8 0, .int .u32 0, .int .u32 0, .slice none 0 0, .slice none 0 0, .bool false, .int .u32 0, .int .u8 0, .int .u8 0, .int .u32 0, .slice none 0 0, .int .u32 0] 28 from ⟨BO.out.at_⟩)
  have HB := Lib.hid (show Below w.heap.size w W0.drew from HB.out.trans (Below.refl _ W0).drew)
  generalize W0.drew = W1 at HC BO HB HS ⊢
  cases D with
  | some c =>
    have CR := Lib.hid (fun w1 (hb : Below w.heap.size w w1) => (CR.out w1 hb : Calls Tryz.prog 81 #[.agg #[.int .u8 r.rep, .int .u8 r.flt, .int .u32 r.epoch, .int .u32 r.seq, .slice lr.a r.know.length lr.i, .slice lr.b r.held.length lr.j, .bool r.ses.on, .int .u32 r.ses.num, .int .u8 r.ses.src, .int .u8 r.ses.cur, .int .u32 r.ses.epoch, .slice lr.c r.ses.offer.length lr.k, .int .u32 r.ses.last], .int .u8 src] w1 fun e w' => e = .returned (.iface 74 (.int .i64 c)) ∧ Below w1.heap.size w1 w'))
    refine anyC_two (i := 3) (j := 6) (by decide +kernel) rfl rfl rfl rfl (fun K hK => ?_) (fun K hK => ?_)
    · skip
      go_simp
      refine (CR.out _ HB.out).mono ?_
      rintro e w1 ⟨rfl, hb⟩
      have HC := Lib.hid (HC.out.keep hb)
      have BO := Lib.hid (BO.out.keep hb)
      have HB := Lib.hid (HB.out.trans (hb.mono HB.out.size))
      have HS := Lib.hid (Nat.lt_of_lt_of_le HS.out hb.size)
      clear hb
      refine hK _ _ HC.out ?_
      clear hK
      refine anyC_two (i := 4) (j := 6) (by decide +kernel) rfl rfl rfl rfl (fun K hK => ?_) (fun K hK => ?_)
      · skip
        go_simp
        refine (tsureP_bad _ _ _ _).mono ?_
        rintro e w2 ⟨rfl, hb⟩
        exact ⟨rfl, rfl, HB.out.trans (hb.mono HB.out.size)⟩
      · skip
        go_simp
        refine hK _ _ (HC.out.alloc (.cells #[.int .u8 0, .int .u8 0, .int .u32 0, .int .u32 0, .slice none 0 0, .slice none 0 0, .bool false, .int .u32 0, .int .u8 0, .int .u8 0, .int .u32 0, .slice none 0 0, .int .u32 0] 28)) ?_
        clear hK
        have HC := Lib.hid (HC.out.alloc (.cells #[.int .u8 0, .int .u8 0, .int .u32 0, .int .u32 0, .slice none 0 0, .slice none 0 0, .bool false, .int .u32 0, .int .u8 0, .int .u8 0, .int .u32 0, .slice none 0 0, .int .u32 0] 28))
        have BO := Lib.hid (BO.out.alloc (.cells #[.int .u8 0, .int .u8 0, .int .u32 0, .int .u32 0, .slice none 0 0, .slice none 0 0, .bool false, .int .u32 0, .int .u8 0, .int .u8 0, .int .u32 0, .slice none 0 0, .int .u32 0] 28))
        have BA := Lib.hid (Blk.new w1 #[.int .u8 0, .int .u8 0, .int .u32 0, .int .u32 0, .slice none 0 0, .slice none 0 0, .bool false, .int .u32 0, .int .u8 0, .int .u8 0, .int .u32 0, .slice none 0 0, .int .u32 0] 28)
        have hal := al1 w1 (.cells #[.int .u8 0, .int .u8 0, .int .u32 0, .int .u32 0, .slice none 0 0, .slice none 0 0, .bool false, .int .u32 0, .int .u8 0, .int .u8 0, .int .u32 0, .slice none 0 0, .int .u32 0] 28)
        have HG := Lib.hid (show w1.heap.size < (w1.alloc (.cells #[.int .u8 0, .int .u8 0, .int .u32 0, .int .u32 0, .slice none 0 0, .slice none 0 0, .bool false, .int .u32 0, .int .u8 0, .int .u8 0, .int .u32 0, .slice none 0 0, .int .u32 0] 28)).heap.size by simp)
        have HL := Lib.hid HS.out
        have HS := Lib.hid (Nat.lt_of_lt_of_le HS.out hal.size)
        have HB := Lib.hid (HB.out.trans (hal.mono HB.out.size))
        clear hal
        generalize w1.alloc (.cells #[.int .u8 0, .int .u8 0, .int .u32 0, .int .u32 0, .slice none 0 0, .slice none 0 0, .bool false, .int .u32 0, .int .u8 0, .int .u8 0, .int .u32 0, .slice none 0 0, .int .u32 0] 28) = w3 at HC BA HG HL HS HB BO ⊢
        generalize w1.heap.size = gA at BA HG HL ⊢
        refine anyC_one (i := 4) (by decide +kernel) rfl rfl fun K hK => ?_
        go_simp
        refine (tsureP_bad _ _ _ _).mono ?_
        rintro e w4 ⟨rfl, hb⟩
        exact ⟨rfl, rfl, HB.out.trans (hb.mono HB.out.size)⟩
    · skip
      go_simp
      refine hK _ _ (HC.out.alloc (.cells #[.int .u8 0, .int .u8 0, .int .u32 0, .int .u32 0, .slice none 0 0, .slice none 0 0, .bool false, .int .u32 0, .int .u8 0, .int .u8 0, .int .u32 0, .slice none 0 0, .int .u32 0] 28)) ?_
      clear hK
      have HC := Lib.hid (HC.out.alloc (.cells #[.int .u8 0, .int .u8 0, .int .u32 0, .int .u32 0, .slice none 0 0, .slice none 0 0, .bool false, .int .u32 0, .int .u8 0, .int .u8 0, .int .u32 0, .slice none 0 0, .int .u32 0] 28))
      have BO := Lib.hid (BO.out.alloc (.cells #[.int .u8 0, .int .u8 0, .int .u32 0, .int .u32 0, .slice none 0 0, .slice none 0 0, .bool false, .int .u32 0, .int .u8 0, .int .u8 0, .int .u32 0, .slice none 0 0, .int .u32 0] 28))
      have BA := Lib.hid (Blk.new W1 #[.int .u8 0, .int .u8 0, .int .u32 0, .int .u32 0, .slice none 0 0, .slice none 0 0, .bool false, .int .u32 0, .int .u8 0, .int .u8 0, .int .u32 0, .slice none 0 0, .int .u32 0] 28)
      have hal := al1 W1 (.cells #[.int .u8 0, .int .u8 0, .int .u32 0, .int .u32 0, .slice none 0 0, .slice none 0 0, .bool false, .int .u32 0, .int .u8 0, .int .u8 0, .int .u32 0, .slice none 0 0, .int .u32 0] 28)
      have HG := Lib.hid (show W1.heap.size < (W1.alloc (.cells #[.int .u8 0, .int .u8 0, .int .u32 0, .int .u32 0, .slice none 0 0, .slice none 0 0, .bool false, .int .u32 0, .int .u8 0, .int .u8 0, .int .u32 0, .slice none 0 0, .int .u32 0] 28)).heap.size by simp)
      have HL := Lib.hid HS.out
      have HS := Lib.hid (Nat.lt_of_lt_of_le HS.out hal.size)
      have HB := Lib.hid (HB.out.trans (hal.mono HB.out.size))
      clear hal
      generalize W1.alloc (.cells #[.int .u8 0, .int .u8 0, .int .u32 0, .int .u32 0, .slice none 0 0, .slice none 0 0, .bool false, .int .u32 0, .int .u8 0, .int .u8 0, .int .u32 0, .slice none 0 0, .int .u32 0] 28) = w5 at HC BA HG HL HS HB BO ⊢
      generalize W1.heap.size = gA at BA HG HL ⊢
      refine anyC_one (i := 3) (by decide +kernel) rfl rfl fun K hK => ?_
      go_simp
      refine (CR.out _ HB.out).mono ?_
      rintro e w6 ⟨rfl, hb⟩
      have HC := Lib.hid (HC.out.keep hb)
      have BO := Lib.hid (BO.out.keep hb)
      have BA := Lib.hid (BA.out.keep hb)
      have HB := Lib.hid (HB.out.trans (hb.mono HB.out.size))
      have HS := Lib.hid (Nat.lt_of_lt_of_le HS.out hb.size)
      have HG := Lib.hid (Nat.lt_of_lt_of_le HG.out hb.size)
      clear hb
      refine hK _ _ HC.out ?_
      clear hK
      refine anyC_one (i := 4) (by decide +kernel) rfl rfl fun K hK => ?_
      go_simp
      refine (tsureP_bad _ _ _ _).mono ?_
      rintro e w7 ⟨rfl, hb⟩
      exact ⟨rfl, rfl, HB.out.trans (hb.mono HB.out.size)⟩
  | none =>
    have hlt : r.ses.last < 4294967295 := by
      have hd := HD.out
      unfold refuseB at hd
      split at hd
      · cases hd
      · split at hd
        · cases hd
        · have := HOK.out.2.2.2.2.2.2.2.2.2.2.2
          omega
    have HLT := Lib.hid hlt; clear hlt
    have CR := Lib.hid (fun w1 (hb : Below w.heap.size w w1) => (CR.out w1 hb : Calls Tryz.prog 81 #[.agg #[.int .u8 r.rep, .int .u8 r.flt, .int .u32 r.epoch, .int .u32 r.seq, .slice lr.a r.know.length lr.i, .slice lr.b r.held.length lr.j, .bool r.ses.on, .int .u32 r.ses.num, .int .u8 r.ses.src, .int .u8 r.ses.cur, .int .u32 r.ses.epoch, .slice lr.c r.ses.offer.length lr.k, .int .u32 r.ses.last], .int .u8 src] w1 fun e w' => e = .returned .nilIface ∧ Below w1.heap.size w1 w'))
    refine anyC_two (i := 3) (j := 6) (by decide +kernel) rfl rfl rfl rfl (fun K hK => ?_) (fun K hK => ?_)
    · skip
      go_simp
      refine (CR.out _ HB.out).mono ?_
      rintro e w1 ⟨rfl, hb⟩
      have HC := Lib.hid (HC.out.keep hb)
      have BO := Lib.hid (BO.out.keep hb)
      have HB := Lib.hid (HB.out.trans (hb.mono HB.out.size))
      have HS := Lib.hid (Nat.lt_of_lt_of_le HS.out hb.size)
      clear hb
      refine hK _ _ HC.out ?_
      clear hK
      refine anyC_two (i := 4) (j := 6) (by decide +kernel) rfl rfl rfl rfl (fun K hK => ?_) (fun K hK => ?_)
      · skip
        go_simp
        refine (tsureP_ok #[.int .u8 r.rep, .int .u8 r.flt, .int .u32 r.epoch, .int .u32 r.seq, .slice lr.a r.know.length lr.i, .slice lr.b r.held.length lr.j, .bool r.ses.on, .int .u32 r.ses.num, .int .u8 r.ses.src, .int .u8 r.ses.cur, .int .u32 r.ses.epoch, .slice lr.c r.ses.offer.length lr.k, .int .u32 r.ses.last] rfl (by simp [Value.oneCell']) _).mono ?_
        rintro e w2 ⟨rfl, hb⟩
        have HC := Lib.hid (HC.out.keep hb)
        have BO := Lib.hid (BO.out.keep hb)
        have HB := Lib.hid (HB.out.trans (hb.mono HB.out.size))
        have HS := Lib.hid (Nat.lt_of_lt_of_le HS.out hb.size)
        clear hb
        refine hK _ _ HC.out ?_
        clear hK
        refine anyC_two (i := 5) (j := 6) (by decide +kernel) rfl rfl rfl rfl (fun K hK => ?_) (fun K hK => ?_)
        · skip
          go_simp
          refine (CC.out _ HB.out).mono ?_
          rintro e w3 ⟨vc, rfl, hvc, hac, hb⟩
          obtain ⟨lc, rfl⟩ := hvc.rows
          have HN := Lib.hid (hvc.av)
          have HQ := Lib.hid (hac.mono fun k hk => (by have := HS.out; omega : w.heap.size + 1 < k))
          have HC := Lib.hid (HC.out.keep hb)
          have BO := Lib.hid (BO.out.keep hb)
          have HB := Lib.hid (HB.out.trans (hb.mono HB.out.size))
          have HS := Lib.hid (Nat.lt_of_lt_of_le HS.out hb.size)
          clear hb
          have HV := Lib.hid hvc
          clear hvc hac
          unfold repR repRow Rp.cells at HV HN HQ ⊢
          refine hK _ _ HC.out ?_
          clear hK
          refine anyC_one (i := 6) (by decide +kernel) rfl rfl fun K hK => ?_
          go_simp
          refine hK _ _ (HC.out.alloc (.cells #[.int .u8 0, .int .u8 0, .int .u32 0, .int .u32 0, .slice none 0 0, .slice none 0 0, .bool false, .int .u32 0, .int .u8 0, .int .u8 0, .int .u32 0, .slice none 0 0, .int .u32 0] 28)) ?_
          clear hK
          have HC := Lib.hid (HC.out.alloc (.cells #[.int .u8 0, .int .u8 0, .int .u32 0, .int .u32 0, .slice none 0 0, .slice none 0 0, .bool false, .int .u32 0, .int .u8 0, .int .u8 0, .int .u32 0, .slice none 0 0, .int .u32 0] 28))
          have BO := Lib.hid (BO.out.alloc (.cells #[.int .u8 0, .int .u8 0, .int .u32 0, .int .u32 0, .slice none 0 0, .slice none 0 0, .bool false, .int .u32 0, .int .u8 0, .int .u8 0, .int .u32 0, .slice none 0 0, .int .u32 0] 28))
          have BA := Lib.hid (Blk.new w3 #[.int .u8 0, .int .u8 0, .int .u32 0, .int .u32 0, .slice none 0 0, .slice none 0 0, .bool false, .int .u32 0, .int .u8 0, .int .u8 0, .int .u32 0, .slice none 0 0, .int .u32 0] 28)
          have hal := al1 w3 (.cells #[.int .u8 0, .int .u8 0, .int .u32 0, .int .u32 0, .slice none 0 0, .slice none 0 0, .bool false, .int .u32 0, .int .u8 0, .int .u8 0, .int .u32 0, .slice none 0 0, .int .u32 0] 28)
          have HG := Lib.hid (show w3.heap.size < (w3.alloc (.cells #[.int .u8 0, .int .u8 0, .int .u32 0, .int .u32 0, .slice none 0 0, .slice none 0 0, .bool false, .int .u32 0, .int .u8 0, .int .u8 0, .int .u32 0, .slice none 0 0, .int .u32 0] 28)).heap.size by simp)
          have HL := Lib.hid HS.out
          have HS := Lib.hid (Nat.lt_of_lt_of_le HS.out hal.size)
          have HB := Lib.hid (HB.out.trans (hal.mono HB.out.size))
          have HV := Lib.hid (HV.out.later hal)
          have HN := Lib.hid (HN.out.mono fun k hk => (by omega : k ≠ w3.heap.size))
          clear hal
          generalize w3.alloc (.cells #[.int .u8 0, .int .u8 0, .int .u32 0, .int .u32 0, .slice none 0 0, .slice none 0 0, .bool false, .int .u32 0, .int .u8 0, .int .u8 0, .int .u32 0, .slice none 0 0, .int .u32 0] 28) = w4 at HC BA HG HL HS HB BO HV HN ⊢
          generalize w3.heap.size = gA at BA HG HL HN ⊢
          refine anyC_one (i := 7) (by decide +kernel) rfl rfl fun K hK => ?_
          refine wp_store_row _ _ _ rfl gA #[.int .u8 r.rep, .int .u8 r.flt, .int .u32 r.epoch, .int .u32 r.seq, .slice lc.a r.know.length lc.i, .slice lc.b r.held.length lc.j, .bool r.ses.on, .int .u32 r.ses.num, .int .u8 r.ses.src, .int .u8 r.ses.cur, .int .u32 r.ses.epoch, .slice lc.c r.ses.offer.length lc.k, .int .u32 r.ses.last] rfl rfl 28 #[.int .u8 0, .int .u8 0, .int .u32 0, .int .u32 0, .slice none 0 0, .slice none 0 0, .bool false, .int .u32 0, .int .u8 0, .int .u8 0, .int .u32 0, .slice none 0 0, .int .u32 0] BA.out.at_ rep_size1 rfl (by simp [Value.oneCell']) ?_
          have hlg := HL.out
          refine hK _ _ (HC.out.other (k := gA) (by omega) #[.int .u8 r.rep, .int .u8 r.flt, .int .u32 r.epoch, .int .u32 r.seq, .slice lc.a r.know.length lc.i, .slice lc.b r.held.length lc.j, .bool r.ses.on, .int .u32 r.ses.num, .int .u8 r.ses.src, .int .u8 r.ses.cur, .int .u32 r.ses.epoch, .slice lc.c r.ses.offer.length lc.k, .int .u32 r.ses.last]) (anyC_done (by decide +kernel) ?_)
          clear hK
          have HC := Lib.hid (HC.out.other (k := gA) (by omega) #[.int .u8 r.rep, .int .u8 r.flt, .int .u32 r.epoch, .int .u32 r.seq, .slice lc.a r.know.length lc.i, .slice lc.b r.held.length lc.j, .bool r.ses.on, .int .u32 r.ses.num, .int .u8 r.ses.src, .int .u8 r.ses.cur, .int .u32 r.ses.epoch, .slice lc.c r.ses.offer.length lc.k, .int .u32 r.ses.last])
          have HV := Lib.hid (HV.out.rowOff HN.out #[.int .u8 r.rep, .int .u8 r.flt, .int .u32 r.epoch, .int .u32 r.seq, .slice lc.a r.know.length lc.i, .slice lc.b r.held.length lc.j, .bool r.ses.on, .int .u32 r.ses.num, .int .u8 r.ses.src, .int .u8 r.ses.cur, .int .u32 r.ses.epoch, .slice lc.c r.ses.offer.length lc.k, .int .u32 r.ses.last])
          have BO := Lib.hid (BO.out.other (k := gA) (by omega) #[.int .u8 r.rep, .int .u8 r.flt, .int .u32 r.epoch, .int .u32 r.seq, .slice lc.a r.know.length lc.i, .slice lc.b r.held.length lc.j, .bool r.ses.on, .int .u32 r.ses.num, .int .u8 r.ses.src, .int .u8 r.ses.cur, .int .u32 r.ses.epoch, .slice lc.c r.ses.offer.length lc.k, .int .u32 r.ses.last])
          have BA := Lib.hid (BA.out.row #[.int .u8 r.rep, .int .u8 r.flt, .int .u32 r.epoch, .int .u32 r.seq, .slice lc.a r.know.length lc.i, .slice lc.b r.held.length lc.j, .bool r.ses.on, .int .u32 r.ses.num, .int .u8 r.ses.src, .int .u8 r.ses.cur, .int .u32 r.ses.epoch, .slice lc.c r.ses.offer.length lc.k, .int .u32 r.ses.last])
          have HB := Lib.hid (below_setRow1 (B := w.heap.size) (r := gA) HB.out (by omega) #[.int .u8 r.rep, .int .u8 r.flt, .int .u32 r.epoch, .int .u32 r.seq, .slice lc.a r.know.length lc.i, .slice lc.b r.held.length lc.j, .bool r.ses.on, .int .u32 r.ses.num, .int .u8 r.ses.src, .int .u8 r.ses.cur, .int .u32 r.ses.epoch, .slice lc.c r.ses.offer.length lc.k, .int .u32 r.ses.last])
          have hz : (w4.setRow gA #[.int .u8 r.rep, .int .u8 r.flt, .int .u32 r.epoch, .int .u32 r.seq, .slice lc.a r.know.length lc.i, .slice lc.b r.held.length lc.j, .bool r.ses.on, .int .u32 r.ses.num, .int .u8 r.ses.src, .int .u8 r.ses.cur, .int .u32 r.ses.epoch, .slice lc.c r.ses.offer.length lc.k, .int .u32 r.ses.last]).heap.size = w4.heap.size := by simp [World.setRow]
          have HG := Lib.hid (show gA < (w4.setRow gA #[.int .u8 r.rep, .int .u8 r.flt, .int .u32 r.epoch, .int .u32 r.seq, .slice lc.a r.know.length lc.i, .slice lc.b r.held.length lc.j, .bool r.ses.on, .int .u32 r.ses.num, .int .u8 r.ses.src, .int .u8 r.ses.cur, .int .u32 r.ses.epoch, .slice lc.c r.ses.offer.length lc.k, .int .u32 r.ses.last]).heap.size by rw [hz]; exact HG.out)
          rw [← hz] at HV
          clear hz HS
          generalize w4.setRow gA #[.int .u8 r.rep, .int .u8 r.flt, .int .u32 r.epoch, .int .u32 r.seq, .slice lc.a r.know.length lc.i, .slice lc.b r.held.length lc.j, .bool r.ses.on, .int .u32 r.ses.num, .int .u8 r.ses.src, .int .u8 r.ses.cur, .int .u32 r.ses.epoch, .slice lc.c r.ses.offer.length lc.k, .int .u32 r.ses.last] = wf at HC HV BA HB HG BO ⊢
          go_wp2_with fail
          exact begun_rest HOK.out hsrc HLT.out HC.out BO.out BA.out HV.out HN.out HQ.out HB.out hlg
        · skip
          go_simp
          refine hK _ _ (HC.out.alloc (.cells #[.int .u8 0, .int .u8 0, .int .u32 0, .int .u32 0, .slice none 0 0, .slice none 0 0, .bool false, .int .u32 0, .int .u8 0, .int .u8 0, .int .u32 0, .slice none 0 0, .int .u32 0] 28)) ?_
          clear hK
          have HC := Lib.hid (HC.out.alloc (.cells #[.int .u8 0, .int .u8 0, .int .u32 0, .int .u32 0, .slice none 0 0, .slice none 0 0, .bool false, .int .u32 0, .int .u8 0, .int .u8 0, .int .u32 0, .slice none 0 0, .int .u32 0] 28))
          have BO := Lib.hid (BO.out.alloc (.cells #[.int .u8 0, .int .u8 0, .int .u32 0, .int .u32 0, .slice none 0 0, .slice none 0 0, .bool false, .int .u32 0, .int .u8 0, .int .u8 0, .int .u32 0, .slice none 0 0, .int .u32 0] 28))
          have BA := Lib.hid (Blk.new w2 #[.int .u8 0, .int .u8 0, .int .u32 0, .int .u32 0, .slice none 0 0, .slice none 0 0, .bool false, .int .u32 0, .int .u8 0, .int .u8 0, .int .u32 0, .slice none 0 0, .int .u32 0] 28)
          have hal := al1 w2 (.cells #[.int .u8 0, .int .u8 0, .int .u32 0, .int .u32 0, .slice none 0 0, .slice none 0 0, .bool false, .int .u32 0, .int .u8 0, .int .u8 0, .int .u32 0, .slice none 0 0, .int .u32 0] 28)
          have HG := Lib.hid (show w2.heap.size < (w2.alloc (.cells #[.int .u8 0, .int .u8 0, .int .u32 0, .int .u32 0, .slice none 0 0, .slice none 0 0, .bool false, .int .u32 0, .int .u8 0, .int .u8 0, .int .u32 0, .slice none 0 0, .int .u32 0] 28)).heap.size by simp)
          have HL := Lib.hid HS.out
          have HS := Lib.hid (Nat.lt_of_lt_of_le HS.out hal.size)
          have HB := Lib.hid (HB.out.trans (hal.mono HB.out.size))
          clear hal
          generalize w2.alloc (.cells #[.int .u8 0, .int .u8 0, .int .u32 0, .int .u32 0, .slice none 0 0, .slice none 0 0, .bool false, .int .u32 0, .int .u8 0, .int .u8 0, .int .u32 0, .slice none 0 0, .int .u32 0] 28) = w5 at HC BA HG HL HS HB BO ⊢
          generalize w2.heap.size = gA at BA HG HL ⊢
          refine anyC_one (i := 5) (by decide +kernel) rfl rfl fun K hK => ?_
          go_simp
          refine (CC.out _ HB.out).mono ?_
          rintro e w6 ⟨vc, rfl, hvc, hac, hb⟩
          obtain ⟨lc, rfl⟩ := hvc.rows
          have HN := Lib.hid (hac.mono fun k hk => (by have := HG.out; omega : k ≠ gA))
          have HQ := Lib.hid (hac.mono fun k hk => (by have := HS.out; omega : w.heap.size + 1 < k))
          have HC := Lib.hid (HC.out.keep hb)
          have BO := Lib.hid (BO.out.keep hb)
          have BA := Lib.hid (BA.out.keep hb)
          have HB := Lib.hid (HB.out.trans (hb.mono HB.out.size))
          have HS := Lib.hid (Nat.lt_of_lt_of_le HS.out hb.size)
          have HG := Lib.hid (Nat.lt_of_lt_of_le HG.out hb.size)
          clear hb
          have HV := Lib.hid hvc
          clear hvc hac
          unfold repR repRow Rp.cells at HV HN HQ ⊢
          refine hK _ _ HC.out ?_
          clear hK
          refine anyC_one (i := 7) (by decide +kernel) rfl rfl fun K hK => ?_
          refine wp_store_row _ _ _ rfl gA #[.int .u8 r.rep, .int .u8 r.flt, .int .u32 r.epoch, .int .u32 r.seq, .slice lc.a r.know.length lc.i, .slice lc.b r.held.length lc.j, .bool r.ses.on, .int .u32 r.ses.num, .int .u8 r.ses.src, .int .u8 r.ses.cur, .int .u32 r.ses.epoch, .slice lc.c r.ses.offer.length lc.k, .int .u32 r.ses.last] rfl rfl 28 #[.int .u8 0, .int .u8 0, .int .u32 0, .int .u32 0, .slice none 0 0, .slice none 0 0, .bool false, .int .u32 0, .int .u8 0, .int .u8 0, .int .u32 0, .slice none 0 0, .int .u32 0] BA.out.at_ rep_size1 rfl (by simp [Value.oneCell']) ?_
          have hlg := HL.out
          refine hK _ _ (HC.out.other (k := gA) (by omega) #[.int .u8 r.rep, .int .u8 r.flt, .int .u32 r.epoch, .int .u32 r.seq, .slice lc.a r.know.length lc.i, .slice lc.b r.held.length lc.j, .bool r.ses.on, .int .u32 r.ses.num, .int .u8 r.ses.src, .int .u8 r.ses.cur, .int .u32 r.ses.epoch, .slice lc.c r.ses.offer.length lc.k, .int .u32 r.ses.last]) (anyC_done (by decide +kernel) ?_)
          clear hK
          have HC := Lib.hid (HC.out.other (k := gA) (by omega) #[.int .u8 r.rep, .int .u8 r.flt, .int .u32 r.epoch, .int .u32 r.seq, .slice lc.a r.know.length lc.i, .slice lc.b r.held.length lc.j, .bool r.ses.on, .int .u32 r.ses.num, .int .u8 r.ses.src, .int .u8 r.ses.cur, .int .u32 r.ses.epoch, .slice lc.c r.ses.offer.length lc.k, .int .u32 r.ses.last])
          have HV := Lib.hid (HV.out.rowOff HN.out #[.int .u8 r.rep, .int .u8 r.flt, .int .u32 r.epoch, .int .u32 r.seq, .slice lc.a r.know.length lc.i, .slice lc.b r.held.length lc.j, .bool r.ses.on, .int .u32 r.ses.num, .int .u8 r.ses.src, .int .u8 r.ses.cur, .int .u32 r.ses.epoch, .slice lc.c r.ses.offer.length lc.k, .int .u32 r.ses.last])
          have BO := Lib.hid (BO.out.other (k := gA) (by omega) #[.int .u8 r.rep, .int .u8 r.flt, .int .u32 r.epoch, .int .u32 r.seq, .slice lc.a r.know.length lc.i, .slice lc.b r.held.length lc.j, .bool r.ses.on, .int .u32 r.ses.num, .int .u8 r.ses.src, .int .u8 r.ses.cur, .int .u32 r.ses.epoch, .slice lc.c r.ses.offer.length lc.k, .int .u32 r.ses.last])
          have BA := Lib.hid (BA.out.row #[.int .u8 r.rep, .int .u8 r.flt, .int .u32 r.epoch, .int .u32 r.seq, .slice lc.a r.know.length lc.i, .slice lc.b r.held.length lc.j, .bool r.ses.on, .int .u32 r.ses.num, .int .u8 r.ses.src, .int .u8 r.ses.cur, .int .u32 r.ses.epoch, .slice lc.c r.ses.offer.length lc.k, .int .u32 r.ses.last])
          have HB := Lib.hid (below_setRow1 (B := w.heap.size) (r := gA) HB.out (by omega) #[.int .u8 r.rep, .int .u8 r.flt, .int .u32 r.epoch, .int .u32 r.seq, .slice lc.a r.know.length lc.i, .slice lc.b r.held.length lc.j, .bool r.ses.on, .int .u32 r.ses.num, .int .u8 r.ses.src, .int .u8 r.ses.cur, .int .u32 r.ses.epoch, .slice lc.c r.ses.offer.length lc.k, .int .u32 r.ses.last])
          have hz : (w6.setRow gA #[.int .u8 r.rep, .int .u8 r.flt, .int .u32 r.epoch, .int .u32 r.seq, .slice lc.a r.know.length lc.i, .slice lc.b r.held.length lc.j, .bool r.ses.on, .int .u32 r.ses.num, .int .u8 r.ses.src, .int .u8 r.ses.cur, .int .u32 r.ses.epoch, .slice lc.c r.ses.offer.length lc.k, .int .u32 r.ses.last]).heap.size = w6.heap.size := by simp [World.setRow]
          have HG := Lib.hid (show gA < (w6.setRow gA #[.int .u8 r.rep, .int .u8 r.flt, .int .u32 r.epoch, .int .u32 r.seq, .slice lc.a r.know.length lc.i, .slice lc.b r.held.length lc.j, .bool r.ses.on, .int .u32 r.ses.num, .int .u8 r.ses.src, .int .u8 r.ses.cur, .int .u32 r.ses.epoch, .slice lc.c r.ses.offer.length lc.k, .int .u32 r.ses.last]).heap.size by rw [hz]; exact HG.out)
          rw [← hz] at HV
          clear hz HS
          generalize w6.setRow gA #[.int .u8 r.rep, .int .u8 r.flt, .int .u32 r.epoch, .int .u32 r.seq, .slice lc.a r.know.length lc.i, .slice lc.b r.held.length lc.j, .bool r.ses.on, .int .u32 r.ses.num, .int .u8 r.ses.src, .int .u8 r.ses.cur, .int .u32 r.ses.epoch, .slice lc.c r.ses.offer.length lc.k, .int .u32 r.ses.last] = wf at HC HV BA HB HG BO ⊢
          go_wp2_with fail
          exact begun_rest HOK.out hsrc HLT.out HC.out BO.out BA.out HV.out HN.out HQ.out HB.out hlg
      · skip
        go_simp
        refine hK _ _ (HC.out.alloc (.cells #[.int .u8 0, .int .u8 0, .int .u32 0, .int .u32 0, .slice none 0 0, .slice none 0 0, .bool false, .int .u32 0, .int .u8 0, .int .u8 0, .int .u32 0, .slice none 0 0, .int .u32 0] 28)) ?_
        clear hK
        have HC := Lib.hid (HC.out.alloc (.cells #[.int .u8 0, .int .u8 0, .int .u32 0, .int .u32 0, .slice none 0 0, .slice none 0 0, .bool false, .int .u32 0, .int .u8 0, .int .u8 0, .int .u32 0, .slice none 0 0, .int .u32 0] 28))
        have BO := Lib.hid (BO.out.alloc (.cells #[.int .u8 0, .int .u8 0, .int .u32 0, .int .u32 0, .slice none 0 0, .slice none 0 0, .bool false, .int .u32 0, .int .u8 0, .int .u8 0, .int .u32 0, .slice none 0 0, .int .u32 0] 28))
        have BA := Lib.hid (Blk.new w1 #[.int .u8 0, .int .u8 0, .int .u32 0, .int .u32 0, .slice none 0 0, .slice none 0 0, .bool false, .int .u32 0, .int .u8 0, .int .u8 0, .int .u32 0, .slice none 0 0, .int .u32 0] 28)
        have hal := al1 w1 (.cells #[.int .u8 0, .int .u8 0, .int .u32 0, .int .u32 0, .slice none 0 0, .slice none 0 0, .bool false, .int .u32 0, .int .u8 0, .int .u8 0, .int .u32 0, .slice none 0 0, .int .u32 0] 28)
        have HG := Lib.hid (show w1.heap.size < (w1.alloc (.cells #[.int .u8 0, .int .u8 0, .int .u32 0, .int .u32 0, .slice none 0 0, .slice none 0 0, .bool false, .int .u32 0, .int .u8 0, .int .u8 0, .int .u32 0, .slice none 0 0, .int .u32 0] 28)).heap.size by simp)
        have HL := Lib.hid HS.out
        have HS := Lib.hid (Nat.lt_of_lt_of_le HS.out hal.size)
        have HB := Lib.hid (HB.out.trans (hal.mono HB.out.size))
        clear hal
        generalize w1.alloc (.cells #[.int .u8 0, .int .u8 0, .int .u32 0, .int .u32 0, .slice none 0 0, .slice none 0 0, .bool false, .int .u32 0, .int .u8 0, .int .u8 0, .int .u32 0, .slice none 0 0, .int .u32 0] 28) = w7 at HC BA HG HL HS HB BO ⊢
        generalize w1.heap.size = gA at BA HG HL ⊢
        refine anyC_one (i := 4) (by decide +kernel) rfl rfl fun K hK => ?_
        go_simp
        refine (tsureP_ok #[.int .u8 r.rep, .int .u8 r.flt, .int .u32 r.epoch, .int .u32 r.seq, .slice lr.a r.know.length lr.i, .slice lr.b r.held.length lr.j, .bool r.ses.on, .int .u32 r.ses.num, .int .u8 r.ses.src, .int .u8 r.ses.cur, .int .u32 r.ses.epoch, .slice lr.c r.ses.offer.length lr.k, .int .u32 r.ses.last] rfl (by simp [Value.oneCell']) _).mono ?_
        rintro e w8 ⟨rfl, hb⟩
        have HC := Lib.hid (HC.out.keep hb)
        have BO := Lib.hid (BO.out.keep hb)
        have BA := Lib.hid (BA.out.keep hb)
        have HB := Lib.hid (HB.out.trans (hb.mono HB.out.size))
        have HS := Lib.hid (Nat.lt_of_lt_of_le HS.out hb.size)
        have HG := Lib.hid (Nat.lt_of_lt_of_le HG.out hb.size)
        clear hb
        refine hK _ _ HC.out ?_
        clear hK
        refine anyC_one (i := 5) (by decide +kernel) rfl rfl fun K hK => ?_
        go_simp
        refine (CC.out _ HB.out).mono ?_
        rintro e w9 ⟨vc, rfl, hvc, hac, hb⟩
        obtain ⟨lc, rfl⟩ := hvc.rows
        have HN := Lib.hid (hac.mono fun k hk => (by have := HG.out; omega : k ≠ gA))
        have HQ := Lib.hid (hac.mono fun k hk => (by have := HS.out; omega : w.heap.size + 1 < k))
        have HC := Lib.hid (HC.out.keep hb)
        have BO := Lib.hid (BO.out.keep hb)
        have BA := Lib.hid (BA.out.keep hb)
        have HB := Lib.hid (HB.out.trans (hb.mono HB.out.size))
        have HS := Lib.hid (Nat.lt_of_lt_of_le HS.out hb.size)
        have HG := Lib.hid (Nat.lt_of_lt_of_le HG.out hb.size)
        clear hb
        have HV := Lib.hid hvc
        clear hvc hac
        unfold repR repRow Rp.cells at HV HN HQ ⊢
        refine hK _ _ HC.out ?_
        clear hK
        refine anyC_one (i := 7) (by decide +kernel) rfl rfl fun K hK => ?_
        refine wp_store_row _ _ _ rfl gA #[.int .u8 r.rep, .int .u8 r.flt, .int .u32 r.epoch, .int .u32 r.seq, .slice lc.a r.know.length lc.i, .slice lc.b r.held.length lc.j, .bool r.ses.on, .int .u32 r.ses.num, .int .u8 r.ses.src, .int .u8 r.ses.cur, .int .u32 r.ses.epoch, .slice lc.c r.ses.offer.length lc.k, .int .u32 r.ses.last] rfl rfl 28 #[.int .u8 0, .int .u8 0, .int .u32 0, .int .u32 0, .slice none 0 0, .slice none 0 0, .bool false, .int .u32 0, .int .u8 0, .int .u8 0, .int .u32 0, .slice none 0 0, .int .u32 0] BA.out.at_ rep_size1 rfl (by simp [Value.oneCell']) ?_
        have hlg := HL.out
        refine hK _ _ (HC.out.other (k := gA) (by omega) #[.int .u8 r.rep, .int .u8 r.flt, .int .u32 r.epoch, .int .u32 r.seq, .slice lc.a r.know.length lc.i, .slice lc.b r.held.length lc.j, .bool r.ses.on, .int .u32 r.ses.num, .int .u8 r.ses.src, .int .u8 r.ses.cur, .int .u32 r.ses.epoch, .slice lc.c r.ses.offer.length lc.k, .int .u32 r.ses.last]) (anyC_done (by decide +kernel) ?_)
        clear hK
        have HC := Lib.hid (HC.out.other (k := gA) (by omega) #[.int .u8 r.rep, .int .u8 r.flt, .int .u32 r.epoch, .int .u32 r.seq, .slice lc.a r.know.length lc.i, .slice lc.b r.held.length lc.j, .bool r.ses.on, .int .u32 r.ses.num, .int .u8 r.ses.src, .int .u8 r.ses.cur, .int .u32 r.ses.epoch, .slice lc.c r.ses.offer.length lc.k, .int .u32 r.ses.last])
        have HV := Lib.hid (HV.out.rowOff HN.out #[.int .u8 r.rep, .int .u8 r.flt, .int .u32 r.epoch, .int .u32 r.seq, .slice lc.a r.know.length lc.i, .slice lc.b r.held.length lc.j, .bool r.ses.on, .int .u32 r.ses.num, .int .u8 r.ses.src, .int .u8 r.ses.cur, .int .u32 r.ses.epoch, .slice lc.c r.ses.offer.length lc.k, .int .u32 r.ses.last])
        have BO := Lib.hid (BO.out.other (k := gA) (by omega) #[.int .u8 r.rep, .int .u8 r.flt, .int .u32 r.epoch, .int .u32 r.seq, .slice lc.a r.know.length lc.i, .slice lc.b r.held.length lc.j, .bool r.ses.on, .int .u32 r.ses.num, .int .u8 r.ses.src, .int .u8 r.ses.cur, .int .u32 r.ses.epoch, .slice lc.c r.ses.offer.length lc.k, .int .u32 r.ses.last])
        have BA := Lib.hid (BA.out.row #[.int .u8 r.rep, .int .u8 r.flt, .int .u32 r.epoch, .int .u32 r.seq, .slice lc.a r.know.length lc.i, .slice lc.b r.held.length lc.j, .bool r.ses.on, .int .u32 r.ses.num, .int .u8 r.ses.src, .int .u8 r.ses.cur, .int .u32 r.ses.epoch, .slice lc.c r.ses.offer.length lc.k, .int .u32 r.ses.last])
        have HB := Lib.hid (below_setRow1 (B := w.heap.size) (r := gA) HB.out (by omega) #[.int .u8 r.rep, .int .u8 r.flt, .int .u32 r.epoch, .int .u32 r.seq, .slice lc.a r.know.length lc.i, .slice lc.b r.held.length lc.j, .bool r.ses.on, .int .u32 r.ses.num, .int .u8 r.ses.src, .int .u8 r.ses.cur, .int .u32 r.ses.epoch, .slice lc.c r.ses.offer.length lc.k, .int .u32 r.ses.last])
        have hz : (w9.setRow gA #[.int .u8 r.rep, .int .u8 r.flt, .int .u32 r.epoch, .int .u32 r.seq, .slice lc.a r.know.length lc.i, .slice lc.b r.held.length lc.j, .bool r.ses.on, .int .u32 r.ses.num, .int .u8 r.ses.src, .int .u8 r.ses.cur, .int .u32 r.ses.epoch, .slice lc.c r.ses.offer.length lc.k, .int .u32 r.ses.last]).heap.size = w9.heap.size := by simp [World.setRow]
        have HG := Lib.hid (show gA < (w9.setRow gA #[.int .u8 r.rep, .int .u8 r.flt, .int .u32 r.epoch, .int .u32 r.seq, .slice lc.a r.know.length lc.i, .slice lc.b r.held.length lc.j, .bool r.ses.on, .int .u32 r.ses.num, .int .u8 r.ses.src, .int .u8 r.ses.cur, .int .u32 r.ses.epoch, .slice lc.c r.ses.offer.length lc.k, .int .u32 r.ses.last]).heap.size by rw [hz]; exact HG.out)
        rw [← hz] at HV
        clear hz HS
        generalize w9.setRow gA #[.int .u8 r.rep, .int .u8 r.flt, .int .u32 r.epoch, .int .u32 r.seq, .slice lc.a r.know.length lc.i, .slice lc.b r.held.length lc.j, .bool r.ses.on, .int .u32 r.ses.num, .int .u8 r.ses.src, .int .u8 r.ses.cur, .int .u32 r.ses.epoch, .slice lc.c r.ses.offer.length lc.k, .int .u32 r.ses.last] = wf at HC HV BA HB HG BO ⊢
        go_wp2_with fail
        exact begun_rest HOK.out hsrc HLT.out HC.out BO.out BA.out HV.out HN.out HQ.out HB.out hlg
    · skip
      go_simp
      refine hK _ _ (HC.out.alloc (.cells #[.int .u8 0, .int .u8 0, .int .u32 0, .int .u32 0, .slice none 0 0, .slice none 0 0, .bool false, .int .u32 0, .int .u8 0, .int .u8 0, .int .u32 0, .slice none 0 0, .int .u32 0] 28)) ?_
      clear hK
      have HC := Lib.hid (HC.out.alloc (.cells #[.int .u8 0, .int .u8 0, .int .u32 0, .int .u32 0, .slice none 0 0, .slice none 0 0, .bool false, .int .u32 0, .int .u8 0, .int .u8 0, .int .u32 0, .slice none 0 0, .int .u32 0] 28))
      have BO := Lib.hid (BO.out.alloc (.cells #[.int .u8 0, .int .u8 0, .int .u32 0, .int .u32 0, .slice none 0 0, .slice none 0 0, .bool false, .int .u32 0, .int .u8 0, .int .u8 0, .int .u32 0, .slice none 0 0, .int .u32 0] 28))
      have BA := Lib.hid (Blk.new W1 #[.int .u8 0, .int .u8 0, .int .u32 0, .int .u32 0, .slice none 0 0, .slice none 0 0, .bool false, .int .u32 0, .int .u8 0, .int .u8 0, .int .u32 0, .slice none 0 0, .int .u32 0] 28)
      have hal := al1 W1 (.cells #[.int .u8 0, .int .u8 0, .int .u32 0, .int .u32 0, .slice none 0 0, .slice none 0 0, .bool false, .int .u32 0, .int .u8 0, .int .u8 0, .int .u32 0, .slice none 0 0, .int .u32 0] 28)
      have HG := Lib.hid (show W1.heap.size < (W1.alloc (.cells #[.int .u8 0, .int .u8 0, .int .u32 0, .int .u32 0, .slice none 0 0, .slice none 0 0, .bool false, .int .u32 0, .int .u8 0, .int .u8 0, .int .u32 0, .slice none 0 0, .int .u32 0] 28)).heap.size by simp)
      have HL := Lib.hid HS.out
      have HS := Lib.hid (Nat.lt_of_lt_of_le HS.out hal.size)
      have HB := Lib.hid (HB.out.trans (hal.mono HB.out.size))
      clear hal
      generalize W1.alloc (.cells #[.int .u8 0, .int .u8 0, .int .u32 0, .int .u32 0, .slice none 0 0, .slice none 0 0, .bool false, .int .u32 0, .int .u8 0, .int .u8 0, .int .u32 0, .slice none 0 0, .int .u32 0] 28) = w10 at HC BA HG HL HS HB BO ⊢
      generalize W1.heap.size = gA at BA HG HL ⊢
      refine anyC_one (i := 3) (by decide +kernel) rfl rfl fun K hK => ?_
      go_simp
      refine (CR.out _ HB.out).mono ?_
      rintro e w11 ⟨rfl, hb⟩
      have HC := Lib.hid (HC.out.keep hb)
      have BO := Lib.hid (BO.out.keep hb)
      have BA := Lib.hid (BA.out.keep hb)
      have HB := Lib.hid (HB.out.trans (hb.mono HB.out.size))
      have HS := Lib.hid (Nat.lt_of_lt_of_le HS.out hb.size)
      have HG := Lib.hid (Nat.lt_of_lt_of_le HG.out hb.size)
      clear hb
      refine hK _ _ HC.out ?_
      clear hK
      refine anyC_one (i := 4) (by decide +kernel) rfl rfl fun K hK => ?_
      go_simp
      refine (tsureP_ok #[.int .u8 r.rep, .int .u8 r.flt, .int .u32 r.epoch, .int .u32 r.seq, .slice lr.a r.know.length lr.i, .slice lr.b r.held.length lr.j, .bool r.ses.on, .int .u32 r.ses.num, .int .u8 r.ses.src, .int .u8 r.ses.cur, .int .u32 r.ses.epoch, .slice lr.c r.ses.offer.length lr.k, .int .u32 r.ses.last] rfl (by simp [Value.oneCell']) _).mono ?_
      rintro e w12 ⟨rfl, hb⟩
      have HC := Lib.hid (HC.out.keep hb)
      have BO := Lib.hid (BO.out.keep hb)
      have BA := Lib.hid (BA.out.keep hb)
      have HB := Lib.hid (HB.out.trans (hb.mono HB.out.size))
      have HS := Lib.hid (Nat.lt_of_lt_of_le HS.out hb.size)
      have HG := Lib.hid (Nat.lt_of_lt_of_le HG.out hb.size)
      clear hb
      refine hK _ _ HC.out ?_
      clear hK
      refine anyC_one (i := 5) (by decide +kernel) rfl rfl fun K hK => ?_
      go_simp
      refine (CC.out _ HB.out).mono ?_
      rintro e w13 ⟨vc, rfl, hvc, hac, hb⟩
      obtain ⟨lc, rfl⟩ := hvc.rows
      have HN := Lib.hid (hac.mono fun k hk => (by have := HG.out; omega : k ≠ gA))
      have HQ := Lib.hid (hac.mono fun k hk => (by have := HS.out; omega : w.heap.size + 1 < k))
      have HC := Lib.hid (HC.out.keep hb)
      have BO := Lib.hid (BO.out.keep hb)
      have BA := Lib.hid (BA.out.keep hb)
      have HB := Lib.hid (HB.out.trans (hb.mono HB.out.size))
      have HS := Lib.hid (Nat.lt_of_lt_of_le HS.out hb.size)
      have HG := Lib.hid (Nat.lt_of_lt_of_le HG.out hb.size)
      clear hb
      have HV := Lib.hid hvc
      clear hvc hac
      unfold repR repRow Rp.cells at HV HN HQ ⊢
      refine hK _ _ HC.out ?_
      clear hK
      refine anyC_one (i := 7) (by decide +kernel) rfl rfl fun K hK => ?_
      refine wp_store_row _ _ _ rfl gA #[.int .u8 r.rep, .int .u8 r.flt, .int .u32 r.epoch, .int .u32 r.seq, .slice lc.a r.know.length lc.i, .slice lc.b r.held.length lc.j, .bool r.ses.on, .int .u32 r.ses.num, .int .u8 r.ses.src, .int .u8 r.ses.cur, .int .u32 r.ses.epoch, .slice lc.c r.ses.offer.length lc.k, .int .u32 r.ses.last] rfl rfl 28 #[.int .u8 0, .int .u8 0, .int .u32 0, .int .u32 0, .slice none 0 0, .slice none 0 0, .bool false, .int .u32 0, .int .u8 0, .int .u8 0, .int .u32 0, .slice none 0 0, .int .u32 0] BA.out.at_ rep_size1 rfl (by simp [Value.oneCell']) ?_
      have hlg := HL.out
      refine hK _ _ (HC.out.other (k := gA) (by omega) #[.int .u8 r.rep, .int .u8 r.flt, .int .u32 r.epoch, .int .u32 r.seq, .slice lc.a r.know.length lc.i, .slice lc.b r.held.length lc.j, .bool r.ses.on, .int .u32 r.ses.num, .int .u8 r.ses.src, .int .u8 r.ses.cur, .int .u32 r.ses.epoch, .slice lc.c r.ses.offer.length lc.k, .int .u32 r.ses.last]) (anyC_done (by decide +kernel) ?_)
      clear hK
      have HC := Lib.hid (HC.out.other (k := gA) (by omega) #[.int .u8 r.rep, .int .u8 r.flt, .int .u32 r.epoch, .int .u32 r.seq, .slice lc.a r.know.length lc.i, .slice lc.b r.held.length lc.j, .bool r.ses.on, .int .u32 r.ses.num, .int .u8 r.ses.src, .int .u8 r.ses.cur, .int .u32 r.ses.epoch, .slice lc.c r.ses.offer.length lc.k, .int .u32 r.ses.last])
      have HV := Lib.hid (HV.out.rowOff HN.out #[.int .u8 r.rep, .int .u8 r.flt, .int .u32 r.epoch, .int .u32 r.seq, .slice lc.a r.know.length lc.i, .slice lc.b r.held.length lc.j, .bool r.ses.on, .int .u32 r.ses.num, .int .u8 r.ses.src, .int .u8 r.ses.cur, .int .u32 r.ses.epoch, .slice lc.c r.ses.offer.length lc.k, .int .u32 r.ses.last])
      have BO := Lib.hid (BO.out.other (k := gA) (by omega) #[.int .u8 r.rep, .int .u8 r.flt, .int .u32 r.epoch, .int .u32 r.seq, .slice lc.a r.know.length lc.i, .slice lc.b r.held.length lc.j, .bool r.ses.on, .int .u32 r.ses.num, .int .u8 r.ses.src, .int .u8 r.ses.cur, .int .u32 r.ses.epoch, .slice lc.c r.ses.offer.length lc.k, .int .u32 r.ses.last])
      have BA := Lib.hid (BA.out.row #[.int .u8 r.rep, .int .u8 r.flt, .int .u32 r.epoch, .int .u32 r.seq, .slice lc.a r.know.length lc.i, .slice lc.b r.held.length lc.j, .bool r.ses.on, .int .u32 r.ses.num, .int .u8 r.ses.src, .int .u8 r.ses.cur, .int .u32 r.ses.epoch, .slice lc.c r.ses.offer.length lc.k, .int .u32 r.ses.last])
      have HB := Lib.hid (below_setRow1 (B := w.heap.size) (r := gA) HB.out (by omega) #[.int .u8 r.rep, .int .u8 r.flt, .int .u32 r.epoch, .int .u32 r.seq, .slice lc.a r.know.length lc.i, .slice lc.b r.held.length lc.j, .bool r.ses.on, .int .u32 r.ses.num, .int .u8 r.ses.src, .int .u8 r.ses.cur, .int .u32 r.ses.epoch, .slice lc.c r.ses.offer.length lc.k, .int .u32 r.ses.last])
      have hz : (w13.setRow gA #[.int .u8 r.rep, .int .u8 r.flt, .int .u32 r.epoch, .int .u32 r.seq, .slice lc.a r.know.length lc.i, .slice lc.b r.held.length lc.j, .bool r.ses.on, .int .u32 r.ses.num, .int .u8 r.ses.src, .int .u8 r.ses.cur, .int .u32 r.ses.epoch, .slice lc.c r.ses.offer.length lc.k, .int .u32 r.ses.last]).heap.size = w13.heap.size := by simp [World.setRow]
      have HG := Lib.hid (show gA < (w13.setRow gA #[.int .u8 r.rep, .int .u8 r.flt, .int .u32 r.epoch, .int .u32 r.seq, .slice lc.a r.know.length lc.i, .slice lc.b r.held.length lc.j, .bool r.ses.on, .int .u32 r.ses.num, .int .u8 r.ses.src, .int .u8 r.ses.cur, .int .u32 r.ses.epoch, .slice lc.c r.ses.offer.length lc.k, .int .u32 r.ses.last]).heap.size by rw [hz]; exact HG.out)
      rw [← hz] at HV
      clear hz HS
      generalize w13.setRow gA #[.int .u8 r.rep, .int .u8 r.flt, .int .u32 r.epoch, .int .u32 r.seq, .slice lc.a r.know.length lc.i, .slice lc.b r.held.length lc.j, .bool r.ses.on, .int .u32 r.ses.num, .int .u8 r.ses.src, .int .u8 r.ses.cur, .int .u32 r.ses.epoch, .slice lc.c r.ses.offer.length lc.k, .int .u32 r.ses.last] = wf at HC HV BA HB HG BO ⊢
      go_wp2_with fail
      exact begun_rest HOK.out hsrc HLT.out HC.out BO.out BA.out HV.out HN.out HQ.out HB.out hlg
end Go.Proofs.YtfjaeohfigcciabGreatDoor

