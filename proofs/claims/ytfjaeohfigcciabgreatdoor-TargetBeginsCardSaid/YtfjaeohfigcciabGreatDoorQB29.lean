/- Texts in one: TC8, TC8b. -/
import Derived.Test.YtfjaeohfigcciabGreatDoorQB28
set_option linter.unusedVariables false
set_option linter.unusedSimpArgs false
set_option linter.unusedSectionVars false
set_option linter.unnecessarySimpa false
namespace Go.Proofs.YtfjaeohfigcciabGreatDoor
open Go.RowKit

def bEnd (n : Nt) (s : Rp) : Except Int Rp := if n.done = true then (match unionR s.know s.ses.offer with | .ok k => .ok (offP (knowP s k)) | .error c => .error c) else .ok (moveP s n.next)
theorem tail4 {f : Func} {a0 a1 a2 a3 c : Code} (h : f.body = some (.seq a0 (.seq a1 (.seq a2 (.seq a3 c))))) : tailN 4 (f.body.getD .skip) = c := by rw [h]; rfl
noncomputable def bRest2 : Code := tailN 2 (Tryz.f32.body.getD .skip)
noncomputable def bRest3 : Code := tailN 3 (Tryz.f32.body.getD .skip)
noncomputable def bRest4 : Code := tailN 4 (Tryz.f32.body.getD .skip)
def fstN : Nat → Code → Code
  | 0, .seq a _ => a
  | n + 1, .seq _ b => fstN n b
  | _, c => c
theorem fst3 {f : Func} {a0 a1 a2 a3 c : Code} (h : f.body = some (.seq a0 (.seq a1 (.seq a2 (.seq a3 c))))) : fstN 3 (f.body.getD .skip) = a3 := by rw [h]; rfl
theorem fst2 {f : Func} {a0 a1 a2 c : Code} (h : f.body = some (.seq a0 (.seq a1 (.seq a2 c)))) : fstN 2 (f.body.getD .skip) = a2 := by rw [h]; rfl
noncomputable def bFst3 : Code := fstN 3 (Tryz.f32.body.getD .skip)
noncomputable def bFst2 : Code := fstN 2 (Tryz.f32.body.getD .skip)
theorem cut4_of {f : Func} {a0 a1 a2 a3 c : Code} (h : f.body = some (.seq a0 (.seq a1 (.seq a2 (.seq a3 c))))) : tailN 3 (f.body.getD .skip) = .seq (fstN 3 (f.body.getD .skip)) (tailN 4 (f.body.getD .skip)) := by rw [h]; rfl
theorem cut3_of {f : Func} {a0 a1 a2 c : Code} (h : f.body = some (.seq a0 (.seq a1 (.seq a2 c)))) : tailN 2 (f.body.getD .skip) = .seq (fstN 2 (f.body.getD .skip)) (tailN 3 (f.body.getD .skip)) := by rw [h]; rfl
theorem b_cut4 : bRest3 = .seq bFst3 bRest4 := cut4_of (f := Tryz.f32) rfl
theorem b_cut3 : bRest2 = .seq bFst2 bRest3 := cut3_of (f := Tryz.f32) rfl
theorem move_ok {r : Rp} (h : r.ok) {c : Int} (hc : 0 ≤ c ∧ c ≤ 255) : (moveP r c).ok := by
  obtain ⟨a1, a2, a3, a4, a5, a6, b1, b2, b3, b4, b5, b6⟩ := h
  exact ⟨a1, a2, a3, a4, a5, a6, b1, b2, hc, b4, b5, b6⟩
theorem know_ok {r : Rp} (h : r.ok) {k : List Rn} (hk : ∀ x ∈ k, x.ok) : (knowP r k).ok := by
  obtain ⟨a1, a2, a3, a4, _, a6, a7⟩ := h
  exact ⟨a1, a2, a3, a4, hk, a6, a7⟩

set_option maxHeartbeats 16000000 in
set_option maxRecDepth 100000 in
theorem b_end4 {w wf : World} {n : Nt} {ln : Ls} {x : Rp} {lx : Ls} {gA : Nat} (hbn : Blk wf (w.heap.size + 1) (noteR n ln) 30) (hbo : Blk wf (w.heap.size + 1 + 1) #[.int .u8 0, .int .u8 0, .int .u32 0, .int .u32 0, .slice none 0 0, .slice none 0 0, .bool false, .int .u32 0, .int .u8 0, .int .u8 0, .int .u32 0, .slice none 0 0, .int .u32 0] 28) (hba : Blk wf gA (repR x lx) 28) (hv : RpV wf wf.heap.size (.agg (repR x lx)) x)
    (ha : RpAv (fun k => k ≠ gA ∧ w.heap.size + 1 + 1 < k) (.agg (repR x lx)) x) (hb : Below w.heap.size w wf) (hlg : w.heap.size + 1 + 1 < gA) (hNX : 0 ≤ n.next ∧ n.next ≤ 255) {u0 u1 u2 u6 u7 u8 u9 u10 u11 u12 u13 u14 u15 u16 u17 u18 u19 u20 u21 u22 u23 u24 u25 u26 u27 u28 u29 u30 u31 u32 u33 u34 u35 u36 u37 u38 u39 u40 u41 u42 u43 u44 u45 u46 u47 u48 u49 u50 u51 u52 u53 u54 u55 u56 : Value} :
    bRest4.wp Tryz.prog (bodyPost Tryz.prog Tryz.f32 (RepSure w (bEnd n x))) { tmps := #[u0, u1, u2, .pointer (some ⟨w.heap.size + 1, 0, none⟩), .pointer (some ⟨w.heap.size + 1 + 1, 0, none⟩), .pointer (some ⟨gA, 0, none⟩), u6, u7, u8, u9, u10, u11, u12, u13, u14, u15, u16, u17, u18, u19, u20, u21, u22, u23, u24, u25, u26, u27, u28, u29, u30, u31, u32, u33, u34, u35, u36, u37, u38, u39, u40, u41, u42, u43, u44, u45, u46, u47, u48, u49, u50, u51, u52, u53, u54, u55, u56], defers := [] } wf := by
  have HV := Lib.hid hv
  have HA := Lib.hid ha
  have HAL := Lib.hid ha.lists
  have BN := Lib.hid hbn
  have BO := Lib.hid hbo
  have BA := Lib.hid hba
  have HB := Lib.hid hb
  have HOK := Lib.hid hv.isok
  have hE := Lib.hid (show bEnd n x = if n.done = true then (match unionR x.know x.ses.offer with | .ok k => .ok (offP (knowP x k)) | .error c => .error c) else .ok (moveP x n.next) from rfl)
  have HNX := Lib.hid hNX
  generalize bEnd n x = R at hE ⊢
  have d10 := hbn.cell 10 (.bool n.done) rfl
  have d9 := hbn.cell 9 (.int .u8 n.next) rfl
  have hlt := hba.lt
  have HLT := Lib.hid hlt
  clear hv ha hbn hbo hba hb hlt hNX
  have n1 : gA ≠ w.heap.size + 1 := by omega
  obtain ⟨q, hq⟩ : ∃ q, n.done = q := ⟨_, rfl⟩
  rw [hq] at hE d10
  have HQ := Lib.hid hq; clear hq
  cases q
  · have hr := hE.out
    rw [if_neg (by simp)] at hr
    subst hr
    unfold bRest4
    rw [tail4 (f := Tryz.f32) rfl]
    have a9 := BA.out.cell 9 (.int .u8 x.ses.cur) rfl
    have f9 := BA.out.free 9
    go_upto_region 11 with fail
    have hoff := (Off.refl gA wf).set 9 (.int .u8 n.next)
    have BA := Lib.hid (show Blk (wf.setCell ⟨gA, 9, none⟩ (.int .u8 n.next)) gA (repR (moveP x n.next) lx) 28 from BA.out.put 9 (.int .u8 n.next))
    have BO := Lib.hid (BO.out.off hoff (by omega))
    have HV := Lib.hid (HV.out.off hoff (HA.out.mono fun k hk => hk.1))
    have HB := Lib.hid (below_off HB.out hoff (by omega))
    have hz := hoff.size
    rw [← hz] at HV
    clear hoff hz a9 f9 d9 d10 n1
    generalize wf.setCell ⟨gA, 9, none⟩ (.int .u8 n.next) = w1 at BA BO HV HB ⊢
    have hi := rep_row_size (moveP x n.next) lx
    have h1 := rep_row_one (moveP x n.next) lx
    have HM := Lib.hid (show RpV w1 w1.heap.size (.agg (repR (moveP x n.next) lx)) (moveP x n.next) from ⟨_, _, _, rfl, HV.out.skn, HV.out.she, HV.out.sof, move_ok HOK.out HNX.out⟩)
    have HMA := Lib.hid (show RpAv (fun k => k ≠ gA ∧ w.heap.size + 1 + 1 < k) (.agg (repR (moveP x n.next) lx)) (moveP x n.next) from ⟨_, _, _, rfl, HAL.out.1, HAL.out.2.1, HAL.out.2.2⟩)
    have hs : (repR (moveP x n.next) lx).size = 13 := rfl
    generalize repR (moveP x n.next) lx = cx at BA hi h1 hs HM HMA ⊢
    go_wp2_with (first
      | (refine wpList_load_row rfl _ _ rfl gA rfl 28 cx (0, 0) _ BA.out.at_ Tryz.underlying28 rfl hi ?_)
      | (refine wpList_store_row rfl _ _ _ rfl (w.heap.size + 1 + 1) cx rfl rfl 28 #[.int .u8 0, .int .u8 0, .int .u32 0, .int .u32 0, .slice none 0 0, .slice none 0 0, .bool false, .int .u32 0, .int .u8 0, .int .u8 0, .int .u32 0, .slice none 0 0, .int .u32 0] BO.out.at_ hi (by rw [hs]; rfl) h1 ?_))
    refine bodyPost_ret (v := .agg cx) (results_cell_row Tryz.results32 _ _ (w.heap.size + 1 + 1) 28 cx (0, 0) _ rfl (BO.out.row cx).at_ Tryz.underlying28 rfl hi) rfl ?_
    have P := HM.out.rowOff (g := w.heap.size + 1 + 1) (HMA.out.mono fun k hk => by omega) cx
    have hz : (w1.setRow (w.heap.size + 1 + 1) cx).heap.size = w1.heap.size := by simp [World.setRow]
    rw [← hz] at P
    exact ⟨_, rfl, P, HMA.out.mono fun k hk => by omega, below_setRow1 (B := w.heap.size) (r := w.heap.size + 1 + 1) HB.out (by omega) _⟩
  · have hr := hE.out
    rw [if_pos rfl] at hr
    have HU := Lib.hid (fun w1 (hv : RpV w1 w1.heap.size (.agg (repR x lx)) x) => Union_anyO (.slice lx.a x.know.length lx.i) (.slice lx.c x.ses.offer.length lx.k) x.know x.ses.offer w1 hv.skn hv.sof)
    generalize unionR x.know x.ses.offer = D at hr HU
    cases D with
    | error c =>
      have hr : R = .error c := hr
      subst hr
      unfold bRest4
      rw [tail4 (f := Tryz.f32) rfl]
      have a4 := BA.out.cell 4 (.slice lx.a x.know.length lx.i) rfl
      have a11 := BA.out.cell 11 (.slice lx.c x.ses.offer.length lx.k) rfl
      go_wp2_with fail
      refine (HU.out wf HV.out).mono ?_
      rintro e w1 ⟨rfl, hb⟩
      have HB := Lib.hid (HB.out.trans (hb.mono HB.out.size)); clear hb
      go_wp2_with fail
      refine (tsureR_bad _ _ _ _).mono ?_
      rintro e w6 ⟨rfl, hw⟩
      exact ⟨rfl, rfl, hw ▸ HB.out⟩
    | ok k =>
      have hr : R = .ok (offP (knowP x k)) := hr
      subst hr
      unfold bRest4
      rw [tail4 (f := Tryz.f32) rfl]
      have a4 := BA.out.cell 4 (.slice lx.a x.know.length lx.i) rfl
      have a11 := BA.out.cell 11 (.slice lx.c x.ses.offer.length lx.k) rfl
      go_wp2_with fail
      refine (HU.out wf HV.out).mono ?_
      rintro e w1 ⟨v1, rfl, ⟨o1, s1⟩, hb⟩
      have HKO := Lib.hid s1.isok
      obtain ⟨A1, d1, rfl, _⟩ := s1
      have O1 := Lib.hid o1; clear o1 a4 a11
      have BO := Lib.hid (BO.out.keep hb)
      have BA := Lib.hid (BA.out.keep hb)
      have HV := Lib.hid (HV.out.later hb)
      have HB := Lib.hid (HB.out.trans (hb.mono HB.out.size)); clear hb
      have a4 := BA.out.cell 4 (.slice lx.a x.know.length lx.i) rfl
      have f4 := BA.out.free 4
      go_upto_region 13 with (go_at_call 71; refine (tsureR_ok _ _).mono ?_; rintro e w6 ⟨rfl, hw⟩; rw [hw]; clear hw)
      have hoff := (Off.refl gA w1).set 4 (.slice A1 k.length d1)
      have BA := Lib.hid (show Blk (w1.setCell ⟨gA, 4, none⟩ (.slice A1 k.length d1)) gA (repR (knowP x k) ⟨A1, lx.b, lx.c, d1, lx.j, lx.k⟩) 28 from BA.out.put 4 (.slice A1 k.length d1))
      have BO := Lib.hid (BO.out.off hoff (by omega))
      have HV := Lib.hid (HV.out.off hoff (HA.out.mono fun k hk => hk.1))
      have O1 := Lib.hid (O1.out.setOther (h := gA) (j := 4) (u := .slice A1 k.length d1) HLT.out)
      have HB := Lib.hid (below_off HB.out hoff (by omega))
      have hz := hoff.size
      rw [← hz] at HV
      clear hoff hz a4 f4 d9 d10 n1
      generalize w1.setCell ⟨gA, 4, none⟩ (.slice A1 k.length d1) = w2 at BA BO HV HB O1 ⊢
      have hi := rep_row_size (knowP x k) ⟨A1, lx.b, lx.c, d1, lx.j, lx.k⟩
      have HM := Lib.hid (show RpV w2 w2.heap.size (.agg (repR (knowP x k) ⟨A1, lx.b, lx.c, d1, lx.j, lx.k⟩)) (knowP x k) from ⟨.slice A1 k.length d1, .slice lx.b x.held.length lx.j, .slice lx.c x.ses.offer.length lx.k, rfl, O1.out.sl HKO.out, HV.out.she, HV.out.sof, know_ok HOK.out HKO.out⟩)
      have HMA := Lib.hid (show RpAv (fun k => w.heap.size + 1 + 1 < k) (.agg (repR (knowP x k) ⟨A1, lx.b, lx.c, d1, lx.j, lx.k⟩)) (knowP x k) from ⟨.slice A1 k.length d1, .slice lx.b x.held.length lx.j, .slice lx.c x.ses.offer.length lx.k, rfl, O1.out.av.mono fun j hj => (by have := HLT.out; omega), HAL.out.2.1.mono fun j hj => hj.2, HAL.out.2.2.mono fun j hj => hj.2⟩)
      generalize repR (knowP x k) ⟨A1, lx.b, lx.c, d1, lx.j, lx.k⟩ = cx at BA hi HM HMA ⊢
      go_wp2_with (refine wpList_load_row rfl _ _ rfl gA rfl 28 cx (0, 0) _ BA.out.at_ Tryz.underlying28 rfl hi ?_)
      refine (tidle_any _ _ (knowP x k) w2 HM.out HMA.out).mono ?_
      rintro e w3 ⟨v3, rfl, hv3, ha3, hb⟩
      obtain ⟨c3, rfl, hs, h1⟩ := hv3.row
      have hi3 : (Tryz.prog.info? 28).map (·.size) = some c3.size := by rw [hs]; exact rep_size1
      have BO := Lib.hid (BO.out.keep hb)
      have HB := Lib.hid (HB.out.trans (hb.mono HB.out.size)); clear hb
      have HM := Lib.hid (hv3.rowOff (g := w.heap.size + 1 + 1) (ha3.mono fun k hk => by omega) c3)
      have hz : (w3.setRow (w.heap.size + 1 + 1) c3).heap.size = w3.heap.size := by simp [World.setRow]
      rw [← hz] at HM
      clear hz
      go_wp2_with (refine wpList_store_row rfl _ _ _ rfl (w.heap.size + 1 + 1) c3 rfl rfl 28 #[.int .u8 0, .int .u8 0, .int .u32 0, .int .u32 0, .slice none 0 0, .slice none 0 0, .bool false, .int .u32 0, .int .u8 0, .int .u8 0, .int .u32 0, .slice none 0 0, .int .u32 0] BO.out.at_ hi3 (by rw [hs]; rfl) h1 ?_)
      refine bodyPost_ret (v := .agg c3) (results_cell_row Tryz.results32 _ _ (w.heap.size + 1 + 1) 28 c3 (0, 0) _ rfl (BO.out.row c3).at_ Tryz.underlying28 rfl hi3) rfl ?_
      exact ⟨_, rfl, HM.out, ha3.mono fun k hk => by omega, below_setRow1 (B := w.heap.size) (r := w.heap.size + 1 + 1) HB.out (by omega) _⟩

set_option maxHeartbeats 16000000 in
set_option maxRecDepth 100000 in
theorem b_end3 {w wf : World} {r : Rp} {n : Nt} {ln : Ls} {x : Rp} {lx : Ls} {gA : Nat} {K : List Rn} {H : List En} (hx : x = withK r K H) (hbn : Blk wf (w.heap.size + 1) (noteR n ln) 30) (hbo : Blk wf (w.heap.size + 1 + 1) #[.int .u8 0, .int .u8 0, .int .u32 0, .int .u32 0, .slice none 0 0, .slice none 0 0, .bool false, .int .u32 0, .int .u8 0, .int .u8 0, .int .u32 0, .slice none 0 0, .int .u32 0] 28) (hba : Blk wf gA (repR x lx) 28) (hv : RpV wf wf.heap.size (.agg (repR x lx)) x)
    (ha : RpAv (fun k => k ≠ gA ∧ w.heap.size + 1 + 1 < k) (.agg (repR x lx)) x) (hb : Below w.heap.size w wf) (hlg : w.heap.size + 1 + 1 < gA) (hNX : 0 ≤ n.next ∧ n.next ≤ 255) (hu : NtV wf wf.heap.size (.agg (noteR n ln)) n) (hua : NtAv (fun k => k < w.heap.size) (.agg (noteR n ln)) n) (hg3 : n.offer.length ≤ 10000) {u0 u1 u2 u6 u7 u8 u9 u10 u11 u12 u13 u14 u15 u16 u17 u18 u19 u20 u21 u22 u23 u24 u25 u26 u27 u28 u29 u30 u31 u32 u33 u34 u35 u36 u37 u38 u39 u40 u41 u42 u43 u44 u45 u46 u47 u48 u49 u50 u51 u52 u53 u54 u55 u56 : Value} :
    bRest3.wp Tryz.prog (bodyPost Tryz.prog Tryz.f32 (RepSure w (bEnd n (afterP r n K H)))) { tmps := #[u0, u1, u2, .pointer (some ⟨w.heap.size + 1, 0, none⟩), .pointer (some ⟨w.heap.size + 1 + 1, 0, none⟩), .pointer (some ⟨gA, 0, none⟩), u6, u7, u8, u9, u10, u11, u12, u13, u14, u15, u16, u17, u18, u19, u20, u21, u22, u23, u24, u25, u26, u27, u28, u29, u30, u31, u32, u33, u34, u35, u36, u37, u38, u39, u40, u41, u42, u43, u44, u45, u46, u47, u48, u49, u50, u51, u52, u53, u54, u55, u56], defers := [] } wf := by
  have hm : Tryz.prog.follows .mixedOrders = true := by kernel_rfl
  have HM := Lib.hid hm; clear hm
  have HV := Lib.hid hv
  have HA := Lib.hid ha
  have HAL := Lib.hid ha.lists
  have BN := Lib.hid hbn
  have BO := Lib.hid hbo
  have BA := Lib.hid hba
  have HB := Lib.hid hb
  have HU := Lib.hid hu
  have HUA := Lib.hid hua
  have HNX := Lib.hid hNX
  have HX := Lib.hid hx
  have HC3 := Lib.hid (fun w1 (h : NtV w1 w1.heap.size (.agg (noteR n ln)) n) => rClone_any (.slice ln.c n.offer.length ln.k) n.offer w1 h.sof hg3)
  have d4 := hbn.cell 4 (.int .u8 n.cur) rfl
  clear hv ha hbn hbo hba hb hu hua hg3 hx hNX
  have e3 : bRest3 = .seq (bFst3) bRest4 := b_cut4
  have n1 : gA ≠ w.heap.size + 1 := by omega
  obtain ⟨q, hq⟩ : ∃ q : Bool, (n.cur == 0) = q := ⟨_, rfl⟩
  have HQ := Lib.hid hq
  rw [e3]
  clear e3
  cases q
  · have hA : afterP r n K H = x := by
      have := HQ.out
      have hc : ¬ n.cur = 0 := by simpa using this
      rw [HX.out]
      unfold afterP withK
      rw [if_neg hc, if_neg hc]
    rw [hA]
    unfold bFst3
    rw [fst3 (f := Tryz.f32) rfl]
    go_wp2_with fail
    exact b_end4 BN.out BO.out BA.out HV.out HA.out HB.out hlg HNX.out
  · have hc : n.cur = 0 := by have := HQ.out; simpa using this
    have hA : afterP r n K H = ⟨x.rep, x.flt, x.epoch, x.seq, x.know, x.held, ⟨x.ses.on, x.ses.num, x.ses.src, x.ses.cur, n.epoch, n.offer, x.ses.last⟩⟩ := by
      rw [HX.out]
      unfold afterP withK
      rw [if_pos hc, if_pos hc]
    have hyok : (⟨x.rep, x.flt, x.epoch, x.seq, x.know, x.held, ⟨x.ses.on, x.ses.num, x.ses.src, x.ses.cur, n.epoch, n.offer, x.ses.last⟩⟩ : Rp).ok := by
      obtain ⟨p1, p2, p3, p4, p5, p6, s1, s2, s3, s4, s5, s6⟩ := HV.out.isok
      exact ⟨p1, p2, p3, p4, p5, p6, s1, s2, s3, HU.out.isok.2.2.2.2.2.2.2.1, HU.out.sof.isok, s6⟩
    have HY := Lib.hid hyok
    rw [hA]
    clear hA hyok HX
    unfold bFst3
    rw [fst3 (f := Tryz.f32) rfl]
    have hlt := BA.out.lt
    have HLT := Lib.hid hlt
    go_wp2_with fail
    refine wp_region_C (fun w' => Blk w' (w.heap.size + 1) (noteR n ln) 30) HM.out ?_
    have HC := Lib.hid (show Blk wf.drew (w.heap.size + 1) (noteR n ln) 30 from ⟨BN.out.at_⟩)
    have hbd := (Below.refl wf.heap.size wf).drew
    have BO := Lib.hid (BO.out.keep hbd)
    have BA := Lib.hid (BA.out.keep hbd)
    have HV := Lib.hid (HV.out.later hbd)
    have HU := Lib.hid (HU.out.later hbd)
    have HB := Lib.hid (HB.out.trans (hbd.mono HB.out.size))
    have HLT := Lib.hid (show gA < wf.drew.heap.size from HLT.out)
    clear hbd hlt BN d4
    generalize wf.drew = w0 at HC BO BA HV HU HB HLT ⊢
    refine anyC_take (i := 0) (v := .pointer (some ⟨w.heap.size + 1, 7, none⟩)) rfl (by kernel_rfl) (by kernel_rfl) (by kernel_rfl) (fun _ _ _ h => h) HC.out ⟨by rfl, fun w' hw => by go_simp⟩ ?_
    refine anyC_take (i := 1) (v := .int .u32 n.epoch) rfl (by kernel_rfl) (by kernel_rfl) (by kernel_rfl) (fun _ _ _ h => h) HC.out ⟨by rfl, fun w' hw => by (have c := hw.cell 7 (.int .u32 n.epoch) rfl; go_simp)⟩ ?_
    refine anyC_take (i := 2) (v := .pointer (some ⟨w.heap.size + 1, 11, none⟩)) rfl (by kernel_rfl) (by kernel_rfl) (by kernel_rfl) (fun _ _ _ h => h) HC.out ⟨by rfl, fun w' hw => by go_simp⟩ ?_
    refine anyC_take (i := 3) (v := .slice ln.c n.offer.length ln.k) rfl (by kernel_rfl) (by kernel_rfl) (by kernel_rfl) (fun _ _ _ h => h) HC.out ⟨by rfl, fun w' hw => by (have c := hw.cell 11 (.slice ln.c n.offer.length ln.k) rfl; go_simp)⟩ ?_
    refine anyC_take (i := 5) (v := .pointer (some ⟨gA, 6, none⟩)) rfl (by kernel_rfl) (by kernel_rfl) (by kernel_rfl) (fun _ _ _ h => h) HC.out ⟨by rfl, fun w' hw => by go_simp⟩ ?_
    refine anyC_take (i := 6) (v := .pointer (some ⟨gA, 10, none⟩)) rfl (by kernel_rfl) (by kernel_rfl) (by kernel_rfl) (fun _ _ _ h => h) HC.out ⟨by rfl, fun w' hw => by go_simp⟩ ?_
    refine anyC_one (i := 4) (by decide +kernel) rfl rfl fun K' hK => ?_
    go_simp
    refine (HC3.out w0 HU.out).mono ?_
    rintro e w1 ⟨v1, rfl, o1, hb⟩
    obtain ⟨A3, d3, rfl, _⟩ := o1.form
    have O1 := Lib.hid o1; clear o1
    have HC := Lib.hid (HC.out.keep hb)
    have BO := Lib.hid (BO.out.keep hb)
    have BA := Lib.hid (BA.out.keep hb)
    have HV := Lib.hid (HV.out.later hb)
    have HU := Lib.hid (HU.out.later hb)
    have HB := Lib.hid (HB.out.trans (hb.mono HB.out.size)); clear hb
    refine hK _ _ HC.out ?_
    clear hK
    refine anyC_one (i := 7) (by decide +kernel) rfl rfl fun K' hK => ?_
    have a10 := BA.out.cell 10 (.int .u32 x.ses.epoch) rfl
    have f10 := BA.out.free 10
    go_simp
    refine hK _ _ (HC.out.setOther (by omega) 10 (.int .u32 n.epoch)) ?_
    clear hK a10 f10
    have hoff := (Off.refl gA w1).set 10 (.int .u32 n.epoch)
    have BA := Lib.hid (show Blk (w1.setCell ⟨gA, 10, none⟩ (.int .u32 n.epoch)) gA (repR (⟨x.rep, x.flt, x.epoch, x.seq, x.know, x.held, ⟨x.ses.on, x.ses.num, x.ses.src, x.ses.cur, n.epoch, x.ses.offer, x.ses.last⟩⟩ : Rp) lx) 28 from BA.out.put 10 (.int .u32 n.epoch))
    have BO := Lib.hid (BO.out.off hoff (by omega))
    have HC := Lib.hid (HC.out.off hoff (by omega))
    have HV := Lib.hid (HV.out.off hoff (HA.out.mono fun k hk => hk.1))
    have HU := Lib.hid (HU.out.off hoff (HUA.out.mono fun k hk => by omega))
    have O1 := Lib.hid (O1.out.setOther (h := gA) (j := 10) (u := .int .u32 n.epoch) HLT.out)
    have HB := Lib.hid (below_off HB.out hoff (by omega))
    have hz := hoff.size
    rw [← hz] at HV HU
    clear hoff hz
    generalize w1.setCell ⟨gA, 10, none⟩ (.int .u32 n.epoch) = w2 at BA BO HC HV HU O1 HB ⊢
    refine anyC_take (i := 8) (v := .pointer (some ⟨gA, 6, none⟩)) rfl (by kernel_rfl) (by kernel_rfl) (by kernel_rfl) (fun _ _ _ h => h) HC.out ⟨by rfl, fun w' hw => by go_simp⟩ ?_
    refine anyC_take (i := 9) (v := .pointer (some ⟨gA, 11, none⟩)) rfl (by kernel_rfl) (by kernel_rfl) (by kernel_rfl) (fun _ _ _ h => h) HC.out ⟨by rfl, fun w' hw => by go_simp⟩ ?_
    refine anyC_one (i := 10) (by decide +kernel) rfl rfl fun K' hK => ?_
    have a11 := BA.out.cell 11 (.slice lx.c x.ses.offer.length lx.k) rfl
    have f11 := BA.out.free 11
    go_simp
    refine hK _ _ (HC.out.setOther (by omega) 11 (.slice A3 n.offer.length d3)) (anyC_done (by decide +kernel) ?_)
    clear hK a11 f11
    have hoff := (Off.refl gA w2).set 11 (.slice A3 n.offer.length d3)
    have BA := Lib.hid (show Blk (w2.setCell ⟨gA, 11, none⟩ (.slice A3 n.offer.length d3)) gA (repR (⟨x.rep, x.flt, x.epoch, x.seq, x.know, x.held, ⟨x.ses.on, x.ses.num, x.ses.src, x.ses.cur, n.epoch, n.offer, x.ses.last⟩⟩ : Rp) ⟨lx.a, lx.b, A3, lx.i, lx.j, d3⟩) 28 from BA.out.put 11 (.slice A3 n.offer.length d3))
    have BO := Lib.hid (BO.out.off hoff (by omega))
    have HC := Lib.hid (HC.out.off hoff (by omega))
    have HV := Lib.hid (HV.out.off hoff (HA.out.mono fun k hk => hk.1))
    have HU := Lib.hid (HU.out.off hoff (HUA.out.mono fun k hk => by omega))
    have O1 := Lib.hid (O1.out.setOther (h := gA) (j := 11) (u := .slice A3 n.offer.length d3) HLT.out)
    have HB := Lib.hid (below_off HB.out hoff (by omega))
    have hz := hoff.size
    rw [← hz] at HV HU
    clear hoff hz
    generalize w2.setCell ⟨gA, 11, none⟩ (.slice A3 n.offer.length d3) = w3 at BA BO HC HV HU O1 HB ⊢
    have hy := (show RpV w3 w3.heap.size (.agg (repR ⟨x.rep, x.flt, x.epoch, x.seq, x.know, x.held, ⟨x.ses.on, x.ses.num, x.ses.src, x.ses.cur, n.epoch, n.offer, x.ses.last⟩⟩ ⟨lx.a, lx.b, A3, lx.i, lx.j, d3⟩)) ⟨x.rep, x.flt, x.epoch, x.seq, x.know, x.held, ⟨x.ses.on, x.ses.num, x.ses.src, x.ses.cur, n.epoch, n.offer, x.ses.last⟩⟩ from
      ⟨.slice lx.a x.know.length lx.i, .slice lx.b x.held.length lx.j, .slice A3 n.offer.length d3, rfl, HV.out.skn, HV.out.she, O1.out.sl HU.out.sof.isok, HY.out⟩)
    have hya := (show RpAv (fun k => k ≠ gA ∧ w.heap.size + 1 + 1 < k) (.agg (repR ⟨x.rep, x.flt, x.epoch, x.seq, x.know, x.held, ⟨x.ses.on, x.ses.num, x.ses.src, x.ses.cur, n.epoch, n.offer, x.ses.last⟩⟩ ⟨lx.a, lx.b, A3, lx.i, lx.j, d3⟩)) ⟨x.rep, x.flt, x.epoch, x.seq, x.know, x.held, ⟨x.ses.on, x.ses.num, x.ses.src, x.ses.cur, n.epoch, n.offer, x.ses.last⟩⟩ from
      ⟨.slice lx.a x.know.length lx.i, .slice lx.b x.held.length lx.j, .slice A3 n.offer.length d3, rfl, HAL.out.1, HAL.out.2.1, O1.out.av.mono fun k hk => (by have := HLT.out; omega)⟩)
    go_wp2_with fail
    exact b_end4 HC.out BO.out BA.out hy hya HB.out hlg HNX.out
end Go.Proofs.YtfjaeohfigcciabGreatDoor

namespace Go.Proofs.YtfjaeohfigcciabGreatDoor
open Go.RowKit

/-- behind a Batch that is taken -/
def bTake (r : Rp) (n : Nt) : Except Int Rp := match takesR r.flt n.ents r.know r.held with | .error c => .error c | .ok x => bEnd n (afterP r n x.1 x.2)
/-- where the loop stands -/
structure BhAt (w : World) (r : Rp) (n : Nt) (ln : Ls) (gA k : Nat) (K : List Rn) (H : List En) (lk : Ls) (wl : World) : Prop where
  took : takesR r.flt (n.ents.take k) r.know r.held = .ok (K, H)
  bn : Blk wl (w.heap.size + 1) (noteR n ln) 30
  bo : Blk wl (w.heap.size + 1 + 1) #[.int .u8 0, .int .u8 0, .int .u32 0, .int .u32 0, .slice none 0 0, .slice none 0 0, .bool false, .int .u32 0, .int .u8 0, .int .u8 0, .int .u32 0, .slice none 0 0, .int .u32 0] 28
  ba : Blk wl gA (repR (withK r K H) lk) 28
  val : RpV wl wl.heap.size (.agg (repR (withK r K H) lk)) (withK r K H)
  av : RpAv (fun k => k ≠ gA ∧ w.heap.size + 1 + 1 < k) (.agg (repR (withK r K H) lk)) (withK r K H)
  nt : NtV wl wl.heap.size (.agg (noteR n ln)) n
  bel : Below w.heap.size w wl
theorem ent_of (r : Rp) (K : List Rn) (H : List En) (x : En) : entR (withK r K H) x = match takesR r.flt [x] K H with | .ok y => .ok (withK r y.1 y.2) | .error c => .error c := rfl

set_option maxHeartbeats 16000000 in
set_option maxRecDepth 100000 in
theorem b_rest2 {w wf : World} {r : Rp} {n : Nt} {ln lc : Ls} {gA : Nat} (hbn : Blk wf (w.heap.size + 1) (noteR n ln) 30) (hbo : Blk wf (w.heap.size + 1 + 1) #[.int .u8 0, .int .u8 0, .int .u32 0, .int .u32 0, .slice none 0 0, .slice none 0 0, .bool false, .int .u32 0, .int .u8 0, .int .u8 0, .int .u32 0, .slice none 0 0, .int .u32 0] 28) (hba : Blk wf gA (repR r lc) 28) (hv : RpV wf wf.heap.size (.agg (repR r lc)) r)
    (ha : RpAv (fun k => k ≠ gA ∧ w.heap.size + 1 + 1 < k) (.agg (repR r lc)) r) (hb : Below w.heap.size w wf) (hlg : w.heap.size + 1 + 1 < gA) (hu : NtV wf wf.heap.size (.agg (noteR n ln)) n) (hua : NtAv (fun k => k < w.heap.size) (.agg (noteR n ln)) n) (hg3 : n.offer.length ≤ 10000)
    (hh : erightB r.held = true) (hhl : r.held.length ≤ 1000) (hne : erightB n.ents = true) (hnl : n.ents.length ≤ 1000) {u0 u1 u2 u6 u7 u8 u9 u10 u11 u12 u13 u14 u15 u16 u17 u18 u19 u20 u21 u22 u23 u24 u25 u26 u27 u28 u29 u30 u31 u32 u33 u34 u35 u36 u37 u38 u39 u40 u41 u42 u43 u44 u45 u46 u47 u48 u49 u50 u51 u52 u53 u54 u55 u56 : Value} :
    bRest2.wp Tryz.prog (bodyPost Tryz.prog Tryz.f32 (RepSure w (bTake r n))) { tmps := #[u0, u1, u2, .pointer (some ⟨w.heap.size + 1, 0, none⟩), .pointer (some ⟨w.heap.size + 1 + 1, 0, none⟩), .pointer (some ⟨gA, 0, none⟩), u6, u7, u8, u9, u10, u11, u12, u13, u14, u15, u16, u17, u18, u19, u20, u21, u22, u23, u24, u25, u26, u27, u28, u29, u30, u31, u32, u33, u34, u35, u36, u37, u38, u39, u40, u41, u42, u43, u44, u45, u46, u47, u48, u49, u50, u51, u52, u53, u54, u55, u56], defers := [] } wf := by
  have HNX := Lib.hid hu.isok.2.2.2.2.2.2.2.2.2.1
  have HNO := Lib.hid hu.sen.isok
  have HRH := Lib.hid (fun x hx => re_of_right hh x hx)
  have HRN := Lib.hid (fun x hx => re_of_right hne x hx)
  have HRI := Lib.hid (rise_of_right hh)
  have HL := Lib.hid (And.intro hhl hnl)
  have HUA := Lib.hid hua
  have HG3 := Lib.hid hg3
  have HLG := Lib.hid hlg
  have HR := Lib.hid (show bTake r n = match takesR r.flt n.ents r.know r.held with | .error c => .error c | .ok x => bEnd n (afterP r n x.1 x.2) from rfl)
  generalize bTake r n = R at HR ⊢
  have d8 := hbn.cell 8 (.slice ln.b n.ents.length ln.j) rfl
  have T0 := Lib.hid (show BhAt w r n ln gA 0 r.know r.held lc wf from ⟨rfl, hbn, hbo, hba, hv, ha, hu, hb⟩)
  clear hbn hbo hba hv ha hb hu hua hg3 hh hhl hne hnl hlg
  rw [b_cut3]
  unfold bFst2
  rw [fst2 (f := Tryz.f32) rfl]
  go_wp2_with fail
  clear d8
  go_loopw [17] (fun i wl => ∃ (k : Nat) (K : List Rn) (H : List En) (lk : Ls), i = .int .i64 k ∧ k ≤ n.ents.length ∧ BhAt w r n ln gA k K H lk wl) (fun i _ => n.ents.length - (intOf i).toNat)
  case atStart => exact ⟨0, r.know, r.held, lc, rfl, Nat.zero_le _, T0.out⟩
  case round =>
    rename World => wl
    obtain ⟨k, K, H, lk, rfl, hk, T⟩ := hrel
    have HT := Lib.hid T; clear T T0
    have hlen := HL.out.2
    by_cases hlt : k < n.ents.length
    · skip
      obtain ⟨x, hxk⟩ : ∃ x, n.ents[k]? = some x := ⟨_, List.getElem?_eq_getElem hlt⟩
      obtain ⟨be, oe, hA, hbe, hec⟩ := HT.out.nt.sen.at1 hxk
      have HX := Lib.hid hxk
      have hmem := List.mem_of_getElem? hxk
      have HXO := Lib.hid (HNO.out x hmem)
      have HXR := Lib.hid (HRN.out x hmem)
      have TB := tookB r.flt _ _ _ _ _ HRI.out HT.out.took
      have hHr : erightB H = true := right_of TB.rise (TB.good HRH.out fun y hy => HRN.out y (List.mem_of_mem_take hy))
      have hHl : H.length ≤ 8000 := by have h1 := TB.len; have h2 := HL.out; have h3 := List.length_take_le k n.ents; omega
      have HW := Lib.hid (al1 wl (.cells #[.int .u8 x.id, .int .u8 x.rep, .int .u32 x.seq, .int .u32 x.stamp, .int .i64 x.kind, .int .u8 x.cls, .int .u32 x.val] 62))
      have BE := Lib.hid (Blk.new wl #[.int .u8 x.id, .int .u8 x.rep, .int .u32 x.seq, .int .u32 x.stamp, .int .i64 x.kind, .int .u8 x.cls, .int .u32 x.val] 62)
      have HC := Lib.hid (tbehindEntry_any (fun k => k ≠ gA ∧ w.heap.size + 1 + 1 < k) (withK r K H) lk x (wl.alloc (.cells #[.int .u8 x.id, .int .u8 x.rep, .int .u32 x.seq, .int .u32 x.stamp, .int .i64 x.kind, .int .u8 x.cls, .int .u32 x.val] 62)) (HT.out.val.later HW.out) HT.out.av HXO.out HXR.out hHr hHl)
      rw [ent_of] at HC
      have HTN := Lib.hid (tc_next HX.out HT.out.took)
      have HTD := Lib.hid (fun c (h : takesR r.flt (n.ents.take (k + 1)) r.know r.held = .error c) => tc_dies h)
      simp only at HTN
      generalize takesR r.flt [x] K H = D at HC HTN
      simp only [En.agg] at HC
      have BA := Lib.hid (HT.out.ba.keep HW.out)
      have BN := Lib.hid (HT.out.bn.keep HW.out)
      have BO := Lib.hid (HT.out.bo.keep HW.out)
      have HN := Lib.hid (HT.out.nt.later HW.out)
      have HB := Lib.hid (HT.out.bel.trans (HW.out.mono HT.out.bel.size))
      have hi := rep_row_size (withK r K H) lk
      have hga := HT.out.ba.lt
      have HGA := Lib.hid hga
      obtain ⟨x0, x1, x2, x3, x4, x5, x6⟩ := hec.all
      clear hxk hec hmem TB hHr hHl hga
      generalize repR (withK r K H) lk = cs at HC BA hi
      rw [hA]
      clear hA
      go_upto_region 5 with fail
      clear x0 x1 x2 x3 x4 x5 x6
      have HGE := Lib.hid (show gA ≠ wl.heap.size by have := HGA.out; omega)
      generalize wl.alloc (.cells #[.int .u8 x.id, .int .u8 x.rep, .int .u32 x.seq, .int .u32 x.stamp, .int .i64 x.kind, .int .u8 x.cls, .int .u32 x.val] 62) = we at HC HW BE BA BN BO HN HB ⊢
      have HWS := Lib.hid HW.out.size
      generalize wl.heap.size = ge at BE HGE HGA HWS ⊢
      go_wp2_with (first
        | (refine wpList_load_row rfl _ _ rfl gA rfl 28 cs (0, 0) _ BA.out.at_ Tryz.underlying28 rfl hi ?_)
        | (refine wpList_load_row rfl _ _ rfl ge rfl 62 #[.int .u8 x.id, .int .u8 x.rep, .int .u32 x.seq, .int .u32 x.stamp, .int .i64 x.kind, .int .u8 x.cls, .int .u32 x.val] (0, 0) _ BE.out.at_ Tryz.underlying62 rfl be_size ?_))
      refine (HC.out).mono ?_
      cases D with
      | error c =>
        rintro e w5 ⟨rfl, hb⟩
        have hd := HTD.out c HTN.out
        have hR := HR.out
        rw [hd] at hR
        have hR : R = .error c := hR
        clear HR
        subst hR
        exact ⟨rfl, rfl, HB.out.trans (hb.mono HB.out.size)⟩
      | ok y =>
        rintro e w5 ⟨v5, rfl, hv5, ha5, hb⟩
        obtain ⟨l5, rfl⟩ := hv5.rows
        have hi5 := rep_row_size (withK r y.1 y.2) l5
        have ho5 := rep_row_one (withK r y.1 y.2) l5
        have hs5 : (repR (withK r y.1 y.2) l5).size = 13 := rfl
        have hcs : cs.size = 13 := by
          have := hi.symm.trans rep_size1
          simpa using this
        have BA := Lib.hid (BA.out.keep hb)
        have BN := Lib.hid (BN.out.keep hb)
        have BO := Lib.hid (BO.out.keep hb)
        have HN := Lib.hid (HN.out.later hb)
        have HB := Lib.hid (HB.out.trans (hb.mono HB.out.size))
        have ha6 : RpAv (fun k => k ≠ gA ∧ w.heap.size + 1 + 1 < k) (.agg (repR (withK r y.1 y.2) l5)) (withK r y.1 y.2) := ha5.mono fun j hj => by
          rcases hj with h | h
          · exact h
          · have h1 := HGA.out
            have h2 := HLG.out
            have h3 := HWS.out
            omega
        have NX := Lib.hid (show BhAt w r n ln gA (k + 1) y.1 y.2 l5 (w5.setRow gA (repR (withK r y.1 y.2) l5)) from by
          have hlg := HLG.out
          have hz : (w5.setRow gA (repR (withK r y.1 y.2) l5)).heap.size = w5.heap.size := by simp [World.setRow]
          have V := hv5.rowOff (g := gA) (ha6.mono fun j hj => hj.1) (repR (withK r y.1 y.2) l5)
          have N := HN.out.rowOff (g := gA) (HUA.out.mono fun j hj => by omega) (repR (withK r y.1 y.2) l5)
          rw [← hz] at V N
          exact ⟨HTN.out, BN.out.other (by omega) _, BO.out.other (by omega) _, BA.out.row _, V, ha6, N, below_setRow1 (B := w.heap.size) (r := gA) HB.out (by omega) _⟩)
        clear hb hv5 ha5 ha6
        generalize repR (withK r y.1 y.2) l5 = c5 at NX hi5 ho5 hs5 ⊢
        go_wp2_with (refine wpList_store_row rfl _ _ _ rfl gA c5 rfl rfl 28 cs BA.out.at_ hi5 (by rw [hs5, hcs]) ho5 ?_)
        go_roundw
        case rel => exact ⟨k + 1, y.1, y.2, l5, by go_num, by omega, NX.out⟩
        case measure => simp [intOf]; omega
    · have hkk : k = n.ents.length := by omega
      have ht : n.ents.take k = n.ents := List.take_of_length_le (by omega)
      have htk := HT.out.took
      rw [ht] at htk
      have hR := HR.out
      rw [htk] at hR
      have hR : R = bEnd n (afterP r n K H) := hR
      rw [hR]
      clear hR htk ht hkk HR
      go_wp2_with fail
      exact b_end3 rfl HT.out.bn HT.out.bo HT.out.ba HT.out.val HT.out.av HT.out.bel HLG.out HNX.out HT.out.nt HUA.out HG3.out
end Go.Proofs.YtfjaeohfigcciabGreatDoor

