/- Texts in one: TC7, TC8. -/
import Derived.Test.YtfjaeohfigcciabGreatDoorQF28
import Derived.Test.YtfjaeohfigcciabGreatDoorQF19
set_option linter.unusedVariables false
set_option linter.unusedSimpArgs false
set_option linter.unusedSectionVars false
set_option linter.unnecessarySimpa false
namespace Go.Proofs.YtfjaeohfigcciabGreatDoor
open Go.RowKit

def withK (r : Rp) (k : List Rn) (h : List En) : Rp := ⟨r.rep, r.flt, r.epoch, r.seq, k, h, r.ses⟩
/-- behind an entry that is laid in as it is -/
def entX (r : Rp) (x : En) : Except Int Rp :=
  if x.kind = 2 ∧ inB x r.flt = true then .ok (withK r r.know (takeS r.held x)) else (match addR r.know x.rep x.seq with | .ok k => .ok (withK r k (takeS r.held x)) | .error c => .error c)
/-- behind an entry -/
def entR (r : Rp) (e : En) : Except Int Rp := match takesR r.flt [e] r.know r.held with | .ok x => .ok (withK r x.1 x.2) | .error c => .error c
theorem ent_fit (r : Rp) (e : En) : entR r e = entX r (fitE r.flt e) := by
  unfold entR entX
  rw [tc_one]
  obtain ⟨_, e2, e3, _⟩ := fit_same r.flt e
  rw [e2, e3]
  by_cases h : e.kind = 2 ∧ inB e r.flt = true
  · rw [if_pos h, if_pos ((fade_wanted e r.flt).2 h)]
  · rw [if_neg h, if_neg (fun g => h ((fade_wanted e r.flt).1 g))]
    cases addR r.know e.rep e.seq <;> rfl
theorem with_ok {r : Rp} (h : r.ok) {k : List Rn} {l : List En} (hk : ∀ x ∈ k, x.ok) (hl : ∀ x ∈ l, x.ok) : (withK r k l).ok := by
  obtain ⟨a1, a2, a3, a4, _, _, a7⟩ := h
  exact ⟨a1, a2, a3, a4, hk, hl, a7⟩
/-- a replica comes back, whose lists are new, or lie where those that came in do; or the call dies of a code -/
def RepMore (P : Nat → Prop) (w : World) (res : Except Int Rp) (e : Ending) (w' : World) : Prop :=
  match res with
  | .ok x => ∃ v, e = .returned v ∧ RpV w' w'.heap.size v x ∧ RpAv (fun k => P k ∨ w.heap.size ≤ k) v x ∧ Below w.heap.size w w'
  | .error c => e = diesOf (.iface 74 (.int .i64 c)) ∧ Below w.heap.size w w'
noncomputable def entRest : Code := tailN 2 (Tryz.f69.body.getD .skip)
theorem be_cut {a0 a1 c : Code} (h : Tryz.f69.body = some (.seq a0 (.seq a1 c))) : Tryz.f69.body = some (.seq a0 (.seq a1 entRest)) := by
  have e : entRest = c := tail2 h
  rw [e]
  exact h
theorem be_size : (Tryz.prog.info? 62).map (·.size) = some 7 := by kernel_rfl

set_option maxHeartbeats 16000000 in
set_option maxRecDepth 100000 in
theorem be_rest (P : Nat → Prop) {w wf : World} {r : Rp} {lr : Ls} {x : En} (hbr : Blk wf w.heap.size #[.int .u8 r.rep, .int .u8 r.flt, .int .u32 r.epoch, .int .u32 r.seq, .slice lr.a r.know.length lr.i, .slice lr.b r.held.length lr.j, .bool r.ses.on, .int .u32 r.ses.num, .int .u8 r.ses.src, .int .u8 r.ses.cur, .int .u32 r.ses.epoch, .slice lr.c r.ses.offer.length lr.k, .int .u32 r.ses.last] 28) (hbe : Blk wf (w.heap.size + 1) #[.int .u8 x.id, .int .u8 x.rep, .int .u32 x.seq, .int .u32 x.stamp, .int .i64 x.kind, .int .u8 x.cls, .int .u32 x.val] 62) (hbo : Blk wf (w.heap.size + 1 + 1) #[.int .u8 0, .int .u8 0, .int .u32 0, .int .u32 0, .slice none 0 0, .slice none 0 0, .bool false, .int .u32 0, .int .u8 0, .int .u8 0, .int .u32 0, .slice none 0 0, .int .u32 0] 28)
    (hv : RpV wf wf.heap.size (.agg (repR r lr)) r) (ha : RpAv P (.agg (repR r lr)) r) (hp : RpAv (fun k => k < w.heap.size) (.agg (repR r lr)) r) (hb : Below w.heap.size w wf) (hx : x.ok) (hxr : reB x = true) (hh : erightB r.held = true) (hl : r.held.length ≤ 8000) {u0 u1 u5 u6 u7 u8 u9 u10 u11 u12 u13 u14 u15 u16 u17 u18 u19 u20 u21 u22 u23 u24 u25 u26 u27 u28 u29 u30 u31 u32 u33 u34 u35 u36 u37 u38 u39 u40 u41 u42 u43 : Value} :
    entRest.wp Tryz.prog (bodyPost Tryz.prog Tryz.f69 (RepMore P w (entX r x))) { tmps := #[u0, u1, .pointer (some ⟨w.heap.size, 0, none⟩), .pointer (some ⟨w.heap.size + 1, 0, none⟩), .pointer (some ⟨w.heap.size + 1 + 1, 0, none⟩), u5, u6, u7, u8, u9, u10, u11, u12, u13, u14, u15, u16, u17, u18, u19, u20, u21, u22, u23, u24, u25, u26, u27, u28, u29, u30, u31, u32, u33, u34, u35, u36, u37, u38, u39, u40, u41, u42, u43], defers := [] } wf := by
  have hok := hv.isok
  have hst : takeR r.held x = some (takeS r.held x) := by unfold takeR; rw [if_pos ⟨hh, hxr⟩, takeL_eq x (rise_of_right hh)]
  have hTok : ∀ y ∈ takeS r.held x, y.ok := by
    intro y hy
    rcases mem_takeS hy with h1 | h1
    · rw [h1]; exact hx
    · exact hok.2.2.2.2.2.1 y h1
  have HT := Lib.hid (fun w1 (hb1 : Below wf.heap.size wf w1) => by
    have := Take_anyO (.slice lr.b r.held.length lr.j) r.held x w1 (hv.later hb1).she (by omega) hx
    rw [hst] at this
    exact this)
  have HA := Lib.hid (fun w1 (hs : Sl w1 w1.heap.size (.slice lr.a r.know.length lr.i) r.know) => Add_anyO (.slice lr.a r.know.length lr.i) r.know x.rep x.seq w1 hx.2.1.1 hx.2.1.2.1 hs)
  have HI := Lib.hid (fun w1 => iIn_any x r.flt w1 hx hok.2.1)
  have HX := Lib.hid (show entX r x = if x.kind = 2 ∧ inB x r.flt = true then .ok (withK r r.know (takeS r.held x)) else (match addR r.know x.rep x.seq with | .ok k => .ok (withK r k (takeS r.held x)) | .error c => .error c) from rfl)
  generalize entX r x = R at HX ⊢
  generalize takeS r.held x = T at HT HX hTok
  generalize addR r.know x.rep x.seq = D at HA HX
  generalize inB x r.flt = q2 at HI HX
  have HOK := Lib.hid hok
  have HTO := Lib.hid hTok
  have BR := Lib.hid hbr
  have BE := Lib.hid hbe
  have BO := Lib.hid hbo
  have HV := Lib.hid hv
  have HAP := Lib.hid ha.lists
  have HPP := Lib.hid hp.lists
  have HPW := Lib.hid hp
  have HB := Lib.hid hb
  have hlt := BO.out.lt
  have HLT := Lib.hid hlt
  clear hbr hbe hbo hv ha hp hb hx hxr hh hl hok hst hTok hlt
  by_cases hw : x.kind = 2 ∧ q2 = true
  · obtain ⟨hk2, rfl⟩ := hw
    have hR := HX.out
    rw [if_pos ⟨hk2, rfl⟩] at hR
    subst hR
    have hkk : (x.kind != 2) = false := by rw [hk2]; rfl
    have hkk2 : (x.kind == 2) = true := by rw [hk2]; rfl
    clear HX HA hk2
    unfold entRest
    rw [tail2 (f := Tryz.f69) rfl]
    have c5 := BR.out.cell 5 (.slice lr.b r.held.length lr.j) rfl
    have e0 := BE.out.cell 0 (.int .u8 x.id) rfl
    have e1 := BE.out.cell 1 (.int .u8 x.rep) rfl
    have e2 := BE.out.cell 2 (.int .u32 x.seq) rfl
    have e3 := BE.out.cell 3 (.int .u32 x.stamp) rfl
    have e4 := BE.out.cell 4 (.int .i64 x.kind) rfl
    have e5 := BE.out.cell 5 (.int .u8 x.cls) rfl
    have e6 := BE.out.cell 6 (.int .u32 x.val) rfl
    go_wp2_with fail
    refine (HT.out wf (Below.refl _ _)).mono ?_
    rintro e w1 ⟨v2, rfl, ⟨o2, s2⟩, hb⟩
    obtain ⟨A2, d2, rfl, _⟩ := s2
    have O2 := Lib.hid (o2.mono (Nat.le_refl wf.heap.size)); clear o2 c5 e0 e1 e2 e3 e4 e5 e6
    have BR := Lib.hid (BR.out.keep hb)
    have BE := Lib.hid (BE.out.keep hb)
    have BO := Lib.hid (BO.out.keep hb)
    have HV := Lib.hid (HV.out.later hb)
    have HS := Lib.hid hb.size
    have HB := Lib.hid (HB.out.trans (hb.mono HB.out.size)); clear hb
    have c5 := BR.out.cell 5 (.slice lr.b r.held.length lr.j) rfl
    have f5 := BR.out.free 5
    go_upto_region 4 with (go_at_call 107; refine (tsureE_ok _ _).mono ?_; rintro e w2 ⟨rfl, hw⟩; rw [hw]; clear hw)
    have hoff := (Off.refl w.heap.size w1).set 5 (.slice A2 T.length d2)
    have BR := Lib.hid (show Blk (w1.setCell ⟨w.heap.size, 5, none⟩ (.slice A2 T.length d2)) w.heap.size #[.int .u8 r.rep, .int .u8 r.flt, .int .u32 r.epoch, .int .u32 r.seq, .slice lr.a r.know.length lr.i, .slice A2 T.length d2, .bool r.ses.on, .int .u32 r.ses.num, .int .u8 r.ses.src, .int .u8 r.ses.cur, .int .u32 r.ses.epoch, .slice lr.c r.ses.offer.length lr.k, .int .u32 r.ses.last] 28 from BR.out.put 5 (.slice A2 T.length d2))
    have BE := Lib.hid (BE.out.off hoff (by omega))
    have BO := Lib.hid (BO.out.off hoff (by omega))
    have HV := Lib.hid (HV.out.off hoff (HPW.out.mono fun k hk => by omega))
    have O2 := Lib.hid (O2.out.setOther (h := w.heap.size) (j := 5) (u := .slice A2 T.length d2) (by have := HLT.out; omega))
    have HB := Lib.hid (below_off HB.out hoff (Nat.le_refl _))
    have hz := hoff.size
    rw [← hz] at HV HS
    clear hoff hz c5 f5
    generalize w1.setCell ⟨w.heap.size, 5, none⟩ (.slice A2 T.length d2) = w2 at BR BE BO HV O2 HB HS ⊢
    have c1 := BR.out.cell 1 (.int .u8 r.flt) rfl
    have e0 := BE.out.cell 0 (.int .u8 x.id) rfl
    have e1 := BE.out.cell 1 (.int .u8 x.rep) rfl
    have e2 := BE.out.cell 2 (.int .u32 x.seq) rfl
    have e3 := BE.out.cell 3 (.int .u32 x.stamp) rfl
    have e4 := BE.out.cell 4 (.int .i64 x.kind) rfl
    have e5 := BE.out.cell 5 (.int .u8 x.cls) rfl
    have e6 := BE.out.cell 6 (.int .u32 x.val) rfl
    go_wp2_with fail
    refine (HI.out w2).mono ?_
    rintro e w3 ⟨rfl, hb⟩
    have BR := Lib.hid (BR.out.keep hb)
    have BE := Lib.hid (BE.out.keep hb)
    have BO := Lib.hid (BO.out.keep hb)
    have HV := Lib.hid (HV.out.later hb)
    have O2 := Lib.hid (O2.out.below hb)
    have HS := Lib.hid (Nat.le_trans HS.out hb.size)
    have HB := Lib.hid (HB.out.trans (hb.mono HB.out.size)); clear hb c1 e0 e1 e2 e3 e4 e5 e6
    go_upto_region 6 with fail
    go_wp2_with (first
      | (refine wpList_load_row rfl _ _ rfl w.heap.size rfl 28 #[.int .u8 r.rep, .int .u8 r.flt, .int .u32 r.epoch, .int .u32 r.seq, .slice lr.a r.know.length lr.i, .slice A2 T.length d2, .bool r.ses.on, .int .u32 r.ses.num, .int .u8 r.ses.src, .int .u8 r.ses.cur, .int .u32 r.ses.epoch, .slice lr.c r.ses.offer.length lr.k, .int .u32 r.ses.last] (0, 0) _ BR.out.at_ Tryz.underlying28 rfl rep_size1 ?_)
      | (refine wpList_store_row rfl _ _ _ rfl (w.heap.size + 1 + 1) #[.int .u8 r.rep, .int .u8 r.flt, .int .u32 r.epoch, .int .u32 r.seq, .slice lr.a r.know.length lr.i, .slice A2 T.length d2, .bool r.ses.on, .int .u32 r.ses.num, .int .u8 r.ses.src, .int .u8 r.ses.cur, .int .u32 r.ses.epoch, .slice lr.c r.ses.offer.length lr.k, .int .u32 r.ses.last] rfl rfl 28 #[.int .u8 0, .int .u8 0, .int .u32 0, .int .u32 0, .slice none 0 0, .slice none 0 0, .bool false, .int .u32 0, .int .u8 0, .int .u8 0, .int .u32 0, .slice none 0 0, .int .u32 0] BO.out.at_ rep_size1 rfl (by simp [Value.oneCell']) ?_))
    refine bodyPost_ret (v := .agg #[.int .u8 r.rep, .int .u8 r.flt, .int .u32 r.epoch, .int .u32 r.seq, .slice lr.a r.know.length lr.i, .slice A2 T.length d2, .bool r.ses.on, .int .u32 r.ses.num, .int .u8 r.ses.src, .int .u8 r.ses.cur, .int .u32 r.ses.epoch, .slice lr.c r.ses.offer.length lr.k, .int .u32 r.ses.last]) (results_cell_row Tryz.results69 _ _ (w.heap.size + 1 + 1) 28 #[.int .u8 r.rep, .int .u8 r.flt, .int .u32 r.epoch, .int .u32 r.seq, .slice lr.a r.know.length lr.i, .slice A2 T.length d2, .bool r.ses.on, .int .u32 r.ses.num, .int .u8 r.ses.src, .int .u8 r.ses.cur, .int .u32 r.ses.epoch, .slice lr.c r.ses.offer.length lr.k, .int .u32 r.ses.last] (0, 0) _ rfl (BO.out.row #[.int .u8 r.rep, .int .u8 r.flt, .int .u32 r.epoch, .int .u32 r.seq, .slice lr.a r.know.length lr.i, .slice A2 T.length d2, .bool r.ses.on, .int .u32 r.ses.num, .int .u8 r.ses.src, .int .u8 r.ses.cur, .int .u32 r.ses.epoch, .slice lr.c r.ses.offer.length lr.k, .int .u32 r.ses.last]).at_ Tryz.underlying28 rfl rep_size1) rfl ?_
    have hlt := HLT.out
    have P2 := O2.out.setRowOther (h := w.heap.size + 1 + 1) (cs := #[.int .u8 r.rep, .int .u8 r.flt, .int .u32 r.epoch, .int .u32 r.seq, .slice lr.a r.know.length lr.i, .slice A2 T.length d2, .bool r.ses.on, .int .u32 r.ses.num, .int .u8 r.ses.src, .int .u8 r.ses.cur, .int .u32 r.ses.epoch, .slice lr.c r.ses.offer.length lr.k, .int .u32 r.ses.last]) (by omega)
    have P3 := HV.out.sof.rowOff (g := w.heap.size + 1 + 1) (HPP.out.2.2.mono fun k hk => by omega) #[.int .u8 r.rep, .int .u8 r.flt, .int .u32 r.epoch, .int .u32 r.seq, .slice lr.a r.know.length lr.i, .slice A2 T.length d2, .bool r.ses.on, .int .u32 r.ses.num, .int .u8 r.ses.src, .int .u8 r.ses.cur, .int .u32 r.ses.epoch, .slice lr.c r.ses.offer.length lr.k, .int .u32 r.ses.last]
    have P1 := HV.out.skn.rowOff (g := w.heap.size + 1 + 1) (HPP.out.1.mono fun k hk => by omega) #[.int .u8 r.rep, .int .u8 r.flt, .int .u32 r.epoch, .int .u32 r.seq, .slice lr.a r.know.length lr.i, .slice A2 T.length d2, .bool r.ses.on, .int .u32 r.ses.num, .int .u8 r.ses.src, .int .u8 r.ses.cur, .int .u32 r.ses.epoch, .slice lr.c r.ses.offer.length lr.k, .int .u32 r.ses.last]
    have hz : (w3.setRow (w.heap.size + 1 + 1) #[.int .u8 r.rep, .int .u8 r.flt, .int .u32 r.epoch, .int .u32 r.seq, .slice lr.a r.know.length lr.i, .slice A2 T.length d2, .bool r.ses.on, .int .u32 r.ses.num, .int .u8 r.ses.src, .int .u8 r.ses.cur, .int .u32 r.ses.epoch, .slice lr.c r.ses.offer.length lr.k, .int .u32 r.ses.last]).heap.size = w3.heap.size := by simp [World.setRow]
    rw [← hz] at P3 P1
    have P2s := P2.sl HTO.out
    have P1s := P1
    have P1a := HAP.out.1.mono fun k (hk : P k) => (.inl hk : P k ∨ w.heap.size ≤ k)
    exact ⟨_, rfl, ⟨_, _, _, rfl, P1s, P2s, P3, with_ok HOK.out P1s.isok HTO.out⟩, ⟨_, _, _, rfl, P1a, P2.av.mono fun k hk => .inr (by omega), HAP.out.2.2.mono fun k hk => .inl hk⟩, below_setRow1 (B := w.heap.size) (r := w.heap.size + 1 + 1) HB.out (by omega) _⟩
  · have hR := HX.out
    rw [if_neg hw] at hR
    have hw2 := Lib.hid hw
    clear hw HX
    cases D with
    | error c =>
      subst hR
      unfold entRest
      rw [tail2 (f := Tryz.f69) rfl]
      have c5 := BR.out.cell 5 (.slice lr.b r.held.length lr.j) rfl
      have e0 := BE.out.cell 0 (.int .u8 x.id) rfl
      have e1 := BE.out.cell 1 (.int .u8 x.rep) rfl
      have e2 := BE.out.cell 2 (.int .u32 x.seq) rfl
      have e3 := BE.out.cell 3 (.int .u32 x.stamp) rfl
      have e4 := BE.out.cell 4 (.int .i64 x.kind) rfl
      have e5 := BE.out.cell 5 (.int .u8 x.cls) rfl
      have e6 := BE.out.cell 6 (.int .u32 x.val) rfl
      go_wp2_with fail
      refine (HT.out wf (Below.refl _ _)).mono ?_
      rintro e w1 ⟨v2, rfl, ⟨o2, s2⟩, hb⟩
      obtain ⟨A2, d2, rfl, _⟩ := s2
      have O2 := Lib.hid (o2.mono (Nat.le_refl wf.heap.size)); clear o2 c5 e0 e1 e2 e3 e4 e5 e6
      have BR := Lib.hid (BR.out.keep hb)
      have BE := Lib.hid (BE.out.keep hb)
      have BO := Lib.hid (BO.out.keep hb)
      have HV := Lib.hid (HV.out.later hb)
      have HS := Lib.hid hb.size
      have HB := Lib.hid (HB.out.trans (hb.mono HB.out.size)); clear hb
      have c5 := BR.out.cell 5 (.slice lr.b r.held.length lr.j) rfl
      have f5 := BR.out.free 5
      go_upto_region 4 with (go_at_call 107; refine (tsureE_ok _ _).mono ?_; rintro e w2 ⟨rfl, hw⟩; rw [hw]; clear hw)
      have hoff := (Off.refl w.heap.size w1).set 5 (.slice A2 T.length d2)
      have BR := Lib.hid (show Blk (w1.setCell ⟨w.heap.size, 5, none⟩ (.slice A2 T.length d2)) w.heap.size #[.int .u8 r.rep, .int .u8 r.flt, .int .u32 r.epoch, .int .u32 r.seq, .slice lr.a r.know.length lr.i, .slice A2 T.length d2, .bool r.ses.on, .int .u32 r.ses.num, .int .u8 r.ses.src, .int .u8 r.ses.cur, .int .u32 r.ses.epoch, .slice lr.c r.ses.offer.length lr.k, .int .u32 r.ses.last] 28 from BR.out.put 5 (.slice A2 T.length d2))
      have BE := Lib.hid (BE.out.off hoff (by omega))
      have BO := Lib.hid (BO.out.off hoff (by omega))
      have HV := Lib.hid (HV.out.off hoff (HPW.out.mono fun k hk => by omega))
      have O2 := Lib.hid (O2.out.setOther (h := w.heap.size) (j := 5) (u := .slice A2 T.length d2) (by have := HLT.out; omega))
      have HB := Lib.hid (below_off HB.out hoff (Nat.le_refl _))
      have hz := hoff.size
      rw [← hz] at HV HS
      clear hoff hz c5 f5
      generalize w1.setCell ⟨w.heap.size, 5, none⟩ (.slice A2 T.length d2) = w2 at BR BE BO HV O2 HB HS ⊢
      have c1 := BR.out.cell 1 (.int .u8 r.flt) rfl
      have e0 := BE.out.cell 0 (.int .u8 x.id) rfl
      have e1 := BE.out.cell 1 (.int .u8 x.rep) rfl
      have e2 := BE.out.cell 2 (.int .u32 x.seq) rfl
      have e3 := BE.out.cell 3 (.int .u32 x.stamp) rfl
      have e4 := BE.out.cell 4 (.int .i64 x.kind) rfl
      have e5 := BE.out.cell 5 (.int .u8 x.cls) rfl
      have e6 := BE.out.cell 6 (.int .u32 x.val) rfl
      obtain ⟨q1, hq1⟩ : ∃ q : Bool, (x.kind != 2) = q := ⟨_, rfl⟩
      have h1' : (x.kind == 2) = !q1 := by rw [← hq1]; simp [bne]
      have HQ1 := Lib.hid hq1
      cases q1
      · have hq2 : q2 = false := by
          cases q2
          · rfl
          · exact absurd ⟨by have := HQ1.out; simpa using this, rfl⟩ hw2.out
        subst hq2
        go_wp2_with fail
        refine (HI.out w2).mono ?_
        rintro e w3 ⟨rfl, hb⟩
        have BR := Lib.hid (BR.out.keep hb)
        have BE := Lib.hid (BE.out.keep hb)
        have BO := Lib.hid (BO.out.keep hb)
        have HV := Lib.hid (HV.out.later hb)
        have O2 := Lib.hid (O2.out.below hb)
        have HS := Lib.hid (Nat.le_trans HS.out hb.size)
        have HB := Lib.hid (HB.out.trans (hb.mono HB.out.size)); clear hb c1 e0 e1 e2 e3 e4 e5 e6
        have c4 := BR.out.cell 4 (.slice lr.a r.know.length lr.i) rfl
        have f4 := BR.out.free 4
        have x1 := BE.out.cell 1 (.int .u8 x.rep) rfl
        have x2 := BE.out.cell 2 (.int .u32 x.seq) rfl
        go_wp2_with fail
        refine (HA.out w3 HV.out.skn).mono ?_
        rintro e w5 ⟨rfl, hb⟩
        have HB := Lib.hid (HB.out.trans (hb.mono HB.out.size)); clear hb
        go_wp2_with fail
        refine (tsureR_bad _ _ _ _).mono ?_
        rintro e w6 ⟨rfl, hw⟩
        exact ⟨rfl, rfl, hw ▸ HB.out⟩
      · clear c1
        have c4 := BR.out.cell 4 (.slice lr.a r.know.length lr.i) rfl
        have f4 := BR.out.free 4
        have x1 := BE.out.cell 1 (.int .u8 x.rep) rfl
        have x2 := BE.out.cell 2 (.int .u32 x.seq) rfl
        go_wp2_with fail
        refine (HA.out w2 HV.out.skn).mono ?_
        rintro e w5 ⟨rfl, hb⟩
        have HB := Lib.hid (HB.out.trans (hb.mono HB.out.size)); clear hb
        go_wp2_with fail
        refine (tsureR_bad _ _ _ _).mono ?_
        rintro e w6 ⟨rfl, hw⟩
        exact ⟨rfl, rfl, hw ▸ HB.out⟩
    | ok k =>
      subst hR
      unfold entRest
      rw [tail2 (f := Tryz.f69) rfl]
      have c5 := BR.out.cell 5 (.slice lr.b r.held.length lr.j) rfl
      have e0 := BE.out.cell 0 (.int .u8 x.id) rfl
      have e1 := BE.out.cell 1 (.int .u8 x.rep) rfl
      have e2 := BE.out.cell 2 (.int .u32 x.seq) rfl
      have e3 := BE.out.cell 3 (.int .u32 x.stamp) rfl
      have e4 := BE.out.cell 4 (.int .i64 x.kind) rfl
      have e5 := BE.out.cell 5 (.int .u8 x.cls) rfl
      have e6 := BE.out.cell 6 (.int .u32 x.val) rfl
      go_wp2_with fail
      refine (HT.out wf (Below.refl _ _)).mono ?_
      rintro e w1 ⟨v2, rfl, ⟨o2, s2⟩, hb⟩
      obtain ⟨A2, d2, rfl, _⟩ := s2
      have O2 := Lib.hid (o2.mono (Nat.le_refl wf.heap.size)); clear o2 c5 e0 e1 e2 e3 e4 e5 e6
      have BR := Lib.hid (BR.out.keep hb)
      have BE := Lib.hid (BE.out.keep hb)
      have BO := Lib.hid (BO.out.keep hb)
      have HV := Lib.hid (HV.out.later hb)
      have HS := Lib.hid hb.size
      have HB := Lib.hid (HB.out.trans (hb.mono HB.out.size)); clear hb
      have c5 := BR.out.cell 5 (.slice lr.b r.held.length lr.j) rfl
      have f5 := BR.out.free 5
      go_upto_region 4 with (go_at_call 107; refine (tsureE_ok _ _).mono ?_; rintro e w2 ⟨rfl, hw⟩; rw [hw]; clear hw)
      have hoff := (Off.refl w.heap.size w1).set 5 (.slice A2 T.length d2)
      have BR := Lib.hid (show Blk (w1.setCell ⟨w.heap.size, 5, none⟩ (.slice A2 T.length d2)) w.heap.size #[.int .u8 r.rep, .int .u8 r.flt, .int .u32 r.epoch, .int .u32 r.seq, .slice lr.a r.know.length lr.i, .slice A2 T.length d2, .bool r.ses.on, .int .u32 r.ses.num, .int .u8 r.ses.src, .int .u8 r.ses.cur, .int .u32 r.ses.epoch, .slice lr.c r.ses.offer.length lr.k, .int .u32 r.ses.last] 28 from BR.out.put 5 (.slice A2 T.length d2))
      have BE := Lib.hid (BE.out.off hoff (by omega))
      have BO := Lib.hid (BO.out.off hoff (by omega))
      have HV := Lib.hid (HV.out.off hoff (HPW.out.mono fun k hk => by omega))
      have O2 := Lib.hid (O2.out.setOther (h := w.heap.size) (j := 5) (u := .slice A2 T.length d2) (by have := HLT.out; omega))
      have HB := Lib.hid (below_off HB.out hoff (Nat.le_refl _))
      have hz := hoff.size
      rw [← hz] at HV HS
      clear hoff hz c5 f5
      generalize w1.setCell ⟨w.heap.size, 5, none⟩ (.slice A2 T.length d2) = w2 at BR BE BO HV O2 HB HS ⊢
      have c1 := BR.out.cell 1 (.int .u8 r.flt) rfl
      have e0 := BE.out.cell 0 (.int .u8 x.id) rfl
      have e1 := BE.out.cell 1 (.int .u8 x.rep) rfl
      have e2 := BE.out.cell 2 (.int .u32 x.seq) rfl
      have e3 := BE.out.cell 3 (.int .u32 x.stamp) rfl
      have e4 := BE.out.cell 4 (.int .i64 x.kind) rfl
      have e5 := BE.out.cell 5 (.int .u8 x.cls) rfl
      have e6 := BE.out.cell 6 (.int .u32 x.val) rfl
      obtain ⟨q1, hq1⟩ : ∃ q : Bool, (x.kind != 2) = q := ⟨_, rfl⟩
      have h1' : (x.kind == 2) = !q1 := by rw [← hq1]; simp [bne]
      have HQ1 := Lib.hid hq1
      cases q1
      · have hq2 : q2 = false := by
          cases q2
          · rfl
          · exact absurd ⟨by have := HQ1.out; simpa using this, rfl⟩ hw2.out
        subst hq2
        go_wp2_with fail
        refine (HI.out w2).mono ?_
        rintro e w3 ⟨rfl, hb⟩
        have BR := Lib.hid (BR.out.keep hb)
        have BE := Lib.hid (BE.out.keep hb)
        have BO := Lib.hid (BO.out.keep hb)
        have HV := Lib.hid (HV.out.later hb)
        have O2 := Lib.hid (O2.out.below hb)
        have HS := Lib.hid (Nat.le_trans HS.out hb.size)
        have HB := Lib.hid (HB.out.trans (hb.mono HB.out.size)); clear hb c1 e0 e1 e2 e3 e4 e5 e6
        have c4 := BR.out.cell 4 (.slice lr.a r.know.length lr.i) rfl
        have f4 := BR.out.free 4
        have x1 := BE.out.cell 1 (.int .u8 x.rep) rfl
        have x2 := BE.out.cell 2 (.int .u32 x.seq) rfl
        go_wp2_with fail
        refine (HA.out w3 HV.out.skn).mono ?_
        rintro e w5 ⟨v1, rfl, ⟨o1, s1⟩, hb⟩
        have HKO := Lib.hid s1.isok
        obtain ⟨A1, d1, rfl, _⟩ := s1
        have hle : wf.heap.size ≤ w3.heap.size := HS.out
        have O1 := Lib.hid (o1.mono hle); clear o1
        have BR := Lib.hid (BR.out.keep hb)
        have BE := Lib.hid (BE.out.keep hb)
        have BO := Lib.hid (BO.out.keep hb)
        have HV := Lib.hid (HV.out.later hb)
        have O2 := Lib.hid (O2.out.below hb)
        have HB := Lib.hid (HB.out.trans (hb.mono HB.out.size)); clear hb c4 f4
        have c4 := BR.out.cell 4 (.slice lr.a r.know.length lr.i) rfl
        have f4 := BR.out.free 4
        go_upto_region 6 with (go_at_call 71; refine (tsureR_ok _ _).mono ?_; rintro e w6 ⟨rfl, hw⟩; rw [hw]; clear hw)
        have hoff := (Off.refl w.heap.size w5).set 4 (.slice A1 k.length d1)
        have BR := Lib.hid (show Blk (w5.setCell ⟨w.heap.size, 4, none⟩ (.slice A1 k.length d1)) w.heap.size #[.int .u8 r.rep, .int .u8 r.flt, .int .u32 r.epoch, .int .u32 r.seq, .slice A1 k.length d1, .slice A2 T.length d2, .bool r.ses.on, .int .u32 r.ses.num, .int .u8 r.ses.src, .int .u8 r.ses.cur, .int .u32 r.ses.epoch, .slice lr.c r.ses.offer.length lr.k, .int .u32 r.ses.last] 28 from BR.out.put 4 (.slice A1 k.length d1))
        have BO := Lib.hid (BO.out.off hoff (by omega))
        have HV := Lib.hid (HV.out.off hoff (HPW.out.mono fun k hk => by omega))
        have O2 := Lib.hid (O2.out.setOther (h := w.heap.size) (j := 4) (u := .slice A1 k.length d1) (by have := HLT.out; omega))
        have O1 := Lib.hid (O1.out.setOther (h := w.heap.size) (j := 4) (u := .slice A1 k.length d1) (by have := HLT.out; omega))
        have HB := Lib.hid (below_off HB.out hoff (Nat.le_refl _))
        have hz := hoff.size
        rw [← hz] at HV
        clear hoff hz c4 f4 x1 x2
        generalize w5.setCell ⟨w.heap.size, 4, none⟩ (.slice A1 k.length d1) = w7 at BR BO HV O2 O1 HB ⊢
        go_wp2_with (first
          | (refine wpList_load_row rfl _ _ rfl w.heap.size rfl 28 #[.int .u8 r.rep, .int .u8 r.flt, .int .u32 r.epoch, .int .u32 r.seq, .slice A1 k.length d1, .slice A2 T.length d2, .bool r.ses.on, .int .u32 r.ses.num, .int .u8 r.ses.src, .int .u8 r.ses.cur, .int .u32 r.ses.epoch, .slice lr.c r.ses.offer.length lr.k, .int .u32 r.ses.last] (0, 0) _ BR.out.at_ Tryz.underlying28 rfl rep_size1 ?_)
          | (refine wpList_store_row rfl _ _ _ rfl (w.heap.size + 1 + 1) #[.int .u8 r.rep, .int .u8 r.flt, .int .u32 r.epoch, .int .u32 r.seq, .slice A1 k.length d1, .slice A2 T.length d2, .bool r.ses.on, .int .u32 r.ses.num, .int .u8 r.ses.src, .int .u8 r.ses.cur, .int .u32 r.ses.epoch, .slice lr.c r.ses.offer.length lr.k, .int .u32 r.ses.last] rfl rfl 28 #[.int .u8 0, .int .u8 0, .int .u32 0, .int .u32 0, .slice none 0 0, .slice none 0 0, .bool false, .int .u32 0, .int .u8 0, .int .u8 0, .int .u32 0, .slice none 0 0, .int .u32 0] BO.out.at_ rep_size1 rfl (by simp [Value.oneCell']) ?_))
        refine bodyPost_ret (v := .agg #[.int .u8 r.rep, .int .u8 r.flt, .int .u32 r.epoch, .int .u32 r.seq, .slice A1 k.length d1, .slice A2 T.length d2, .bool r.ses.on, .int .u32 r.ses.num, .int .u8 r.ses.src, .int .u8 r.ses.cur, .int .u32 r.ses.epoch, .slice lr.c r.ses.offer.length lr.k, .int .u32 r.ses.last]) (results_cell_row Tryz.results69 _ _ (w.heap.size + 1 + 1) 28 #[.int .u8 r.rep, .int .u8 r.flt, .int .u32 r.epoch, .int .u32 r.seq, .slice A1 k.length d1, .slice A2 T.length d2, .bool r.ses.on, .int .u32 r.ses.num, .int .u8 r.ses.src, .int .u8 r.ses.cur, .int .u32 r.ses.epoch, .slice lr.c r.ses.offer.length lr.k, .int .u32 r.ses.last] (0, 0) _ rfl (BO.out.row #[.int .u8 r.rep, .int .u8 r.flt, .int .u32 r.epoch, .int .u32 r.seq, .slice A1 k.length d1, .slice A2 T.length d2, .bool r.ses.on, .int .u32 r.ses.num, .int .u8 r.ses.src, .int .u8 r.ses.cur, .int .u32 r.ses.epoch, .slice lr.c r.ses.offer.length lr.k, .int .u32 r.ses.last]).at_ Tryz.underlying28 rfl rep_size1) rfl ?_
        have hlt := HLT.out
        have P2 := O2.out.setRowOther (h := w.heap.size + 1 + 1) (cs := #[.int .u8 r.rep, .int .u8 r.flt, .int .u32 r.epoch, .int .u32 r.seq, .slice A1 k.length d1, .slice A2 T.length d2, .bool r.ses.on, .int .u32 r.ses.num, .int .u8 r.ses.src, .int .u8 r.ses.cur, .int .u32 r.ses.epoch, .slice lr.c r.ses.offer.length lr.k, .int .u32 r.ses.last]) (by omega)
        have P3 := HV.out.sof.rowOff (g := w.heap.size + 1 + 1) (HPP.out.2.2.mono fun k hk => by omega) #[.int .u8 r.rep, .int .u8 r.flt, .int .u32 r.epoch, .int .u32 r.seq, .slice A1 k.length d1, .slice A2 T.length d2, .bool r.ses.on, .int .u32 r.ses.num, .int .u8 r.ses.src, .int .u8 r.ses.cur, .int .u32 r.ses.epoch, .slice lr.c r.ses.offer.length lr.k, .int .u32 r.ses.last]
        have P1 := O1.out.setRowOther (h := w.heap.size + 1 + 1) (cs := #[.int .u8 r.rep, .int .u8 r.flt, .int .u32 r.epoch, .int .u32 r.seq, .slice A1 k.length d1, .slice A2 T.length d2, .bool r.ses.on, .int .u32 r.ses.num, .int .u8 r.ses.src, .int .u8 r.ses.cur, .int .u32 r.ses.epoch, .slice lr.c r.ses.offer.length lr.k, .int .u32 r.ses.last]) (by omega)
        have hz : (w7.setRow (w.heap.size + 1 + 1) #[.int .u8 r.rep, .int .u8 r.flt, .int .u32 r.epoch, .int .u32 r.seq, .slice A1 k.length d1, .slice A2 T.length d2, .bool r.ses.on, .int .u32 r.ses.num, .int .u8 r.ses.src, .int .u8 r.ses.cur, .int .u32 r.ses.epoch, .slice lr.c r.ses.offer.length lr.k, .int .u32 r.ses.last]).heap.size = w7.heap.size := by simp [World.setRow]
        rw [← hz] at P3
        have P2s := P2.sl HTO.out
        have P1s := P1.sl HKO.out
        have P1a : Av (fun k => P k ∨ w.heap.size ≤ k) (.slice A1 k.length d1) k := P1.av.mono fun k hk => .inr (by omega)
        exact ⟨_, rfl, ⟨_, _, _, rfl, P1s, P2s, P3, with_ok HOK.out P1s.isok HTO.out⟩, ⟨_, _, _, rfl, P1a, P2.av.mono fun k hk => .inr (by omega), HAP.out.2.2.mono fun k hk => .inl hk⟩, below_setRow1 (B := w.heap.size) (r := w.heap.size + 1 + 1) HB.out (by omega) _⟩
      · clear c1
        have c4 := BR.out.cell 4 (.slice lr.a r.know.length lr.i) rfl
        have f4 := BR.out.free 4
        have x1 := BE.out.cell 1 (.int .u8 x.rep) rfl
        have x2 := BE.out.cell 2 (.int .u32 x.seq) rfl
        go_wp2_with fail
        refine (HA.out w2 HV.out.skn).mono ?_
        rintro e w5 ⟨v1, rfl, ⟨o1, s1⟩, hb⟩
        have HKO := Lib.hid s1.isok
        obtain ⟨A1, d1, rfl, _⟩ := s1
        have hle : wf.heap.size ≤ w2.heap.size := HS.out
        have O1 := Lib.hid (o1.mono hle); clear o1
        have BR := Lib.hid (BR.out.keep hb)
        have BE := Lib.hid (BE.out.keep hb)
        have BO := Lib.hid (BO.out.keep hb)
        have HV := Lib.hid (HV.out.later hb)
        have O2 := Lib.hid (O2.out.below hb)
        have HB := Lib.hid (HB.out.trans (hb.mono HB.out.size)); clear hb c4 f4
        have c4 := BR.out.cell 4 (.slice lr.a r.know.length lr.i) rfl
        have f4 := BR.out.free 4
        go_upto_region 6 with (go_at_call 71; refine (tsureR_ok _ _).mono ?_; rintro e w6 ⟨rfl, hw⟩; rw [hw]; clear hw)
        have hoff := (Off.refl w.heap.size w5).set 4 (.slice A1 k.length d1)
        have BR := Lib.hid (show Blk (w5.setCell ⟨w.heap.size, 4, none⟩ (.slice A1 k.length d1)) w.heap.size #[.int .u8 r.rep, .int .u8 r.flt, .int .u32 r.epoch, .int .u32 r.seq, .slice A1 k.length d1, .slice A2 T.length d2, .bool r.ses.on, .int .u32 r.ses.num, .int .u8 r.ses.src, .int .u8 r.ses.cur, .int .u32 r.ses.epoch, .slice lr.c r.ses.offer.length lr.k, .int .u32 r.ses.last] 28 from BR.out.put 4 (.slice A1 k.length d1))
        have BO := Lib.hid (BO.out.off hoff (by omega))
        have HV := Lib.hid (HV.out.off hoff (HPW.out.mono fun k hk => by omega))
        have O2 := Lib.hid (O2.out.setOther (h := w.heap.size) (j := 4) (u := .slice A1 k.length d1) (by have := HLT.out; omega))
        have O1 := Lib.hid (O1.out.setOther (h := w.heap.size) (j := 4) (u := .slice A1 k.length d1) (by have := HLT.out; omega))
        have HB := Lib.hid (below_off HB.out hoff (Nat.le_refl _))
        have hz := hoff.size
        rw [← hz] at HV
        clear hoff hz c4 f4 x1 x2
        generalize w5.setCell ⟨w.heap.size, 4, none⟩ (.slice A1 k.length d1) = w7 at BR BO HV O2 O1 HB ⊢
        go_wp2_with (first
          | (refine wpList_load_row rfl _ _ rfl w.heap.size rfl 28 #[.int .u8 r.rep, .int .u8 r.flt, .int .u32 r.epoch, .int .u32 r.seq, .slice A1 k.length d1, .slice A2 T.length d2, .bool r.ses.on, .int .u32 r.ses.num, .int .u8 r.ses.src, .int .u8 r.ses.cur, .int .u32 r.ses.epoch, .slice lr.c r.ses.offer.length lr.k, .int .u32 r.ses.last] (0, 0) _ BR.out.at_ Tryz.underlying28 rfl rep_size1 ?_)
          | (refine wpList_store_row rfl _ _ _ rfl (w.heap.size + 1 + 1) #[.int .u8 r.rep, .int .u8 r.flt, .int .u32 r.epoch, .int .u32 r.seq, .slice A1 k.length d1, .slice A2 T.length d2, .bool r.ses.on, .int .u32 r.ses.num, .int .u8 r.ses.src, .int .u8 r.ses.cur, .int .u32 r.ses.epoch, .slice lr.c r.ses.offer.length lr.k, .int .u32 r.ses.last] rfl rfl 28 #[.int .u8 0, .int .u8 0, .int .u32 0, .int .u32 0, .slice none 0 0, .slice none 0 0, .bool false, .int .u32 0, .int .u8 0, .int .u8 0, .int .u32 0, .slice none 0 0, .int .u32 0] BO.out.at_ rep_size1 rfl (by simp [Value.oneCell']) ?_))
        refine bodyPost_ret (v := .agg #[.int .u8 r.rep, .int .u8 r.flt, .int .u32 r.epoch, .int .u32 r.seq, .slice A1 k.length d1, .slice A2 T.length d2, .bool r.ses.on, .int .u32 r.ses.num, .int .u8 r.ses.src, .int .u8 r.ses.cur, .int .u32 r.ses.epoch, .slice lr.c r.ses.offer.length lr.k, .int .u32 r.ses.last]) (results_cell_row Tryz.results69 _ _ (w.heap.size + 1 + 1) 28 #[.int .u8 r.rep, .int .u8 r.flt, .int .u32 r.epoch, .int .u32 r.seq, .slice A1 k.length d1, .slice A2 T.length d2, .bool r.ses.on, .int .u32 r.ses.num, .int .u8 r.ses.src, .int .u8 r.ses.cur, .int .u32 r.ses.epoch, .slice lr.c r.ses.offer.length lr.k, .int .u32 r.ses.last] (0, 0) _ rfl (BO.out.row #[.int .u8 r.rep, .int .u8 r.flt, .int .u32 r.epoch, .int .u32 r.seq, .slice A1 k.length d1, .slice A2 T.length d2, .bool r.ses.on, .int .u32 r.ses.num, .int .u8 r.ses.src, .int .u8 r.ses.cur, .int .u32 r.ses.epoch, .slice lr.c r.ses.offer.length lr.k, .int .u32 r.ses.last]).at_ Tryz.underlying28 rfl rep_size1) rfl ?_
        have hlt := HLT.out
        have P2 := O2.out.setRowOther (h := w.heap.size + 1 + 1) (cs := #[.int .u8 r.rep, .int .u8 r.flt, .int .u32 r.epoch, .int .u32 r.seq, .slice A1 k.length d1, .slice A2 T.length d2, .bool r.ses.on, .int .u32 r.ses.num, .int .u8 r.ses.src, .int .u8 r.ses.cur, .int .u32 r.ses.epoch, .slice lr.c r.ses.offer.length lr.k, .int .u32 r.ses.last]) (by omega)
        have P3 := HV.out.sof.rowOff (g := w.heap.size + 1 + 1) (HPP.out.2.2.mono fun k hk => by omega) #[.int .u8 r.rep, .int .u8 r.flt, .int .u32 r.epoch, .int .u32 r.seq, .slice A1 k.length d1, .slice A2 T.length d2, .bool r.ses.on, .int .u32 r.ses.num, .int .u8 r.ses.src, .int .u8 r.ses.cur, .int .u32 r.ses.epoch, .slice lr.c r.ses.offer.length lr.k, .int .u32 r.ses.last]
        have P1 := O1.out.setRowOther (h := w.heap.size + 1 + 1) (cs := #[.int .u8 r.rep, .int .u8 r.flt, .int .u32 r.epoch, .int .u32 r.seq, .slice A1 k.length d1, .slice A2 T.length d2, .bool r.ses.on, .int .u32 r.ses.num, .int .u8 r.ses.src, .int .u8 r.ses.cur, .int .u32 r.ses.epoch, .slice lr.c r.ses.offer.length lr.k, .int .u32 r.ses.last]) (by omega)
        have hz : (w7.setRow (w.heap.size + 1 + 1) #[.int .u8 r.rep, .int .u8 r.flt, .int .u32 r.epoch, .int .u32 r.seq, .slice A1 k.length d1, .slice A2 T.length d2, .bool r.ses.on, .int .u32 r.ses.num, .int .u8 r.ses.src, .int .u8 r.ses.cur, .int .u32 r.ses.epoch, .slice lr.c r.ses.offer.length lr.k, .int .u32 r.ses.last]).heap.size = w7.heap.size := by simp [World.setRow]
        rw [← hz] at P3
        have P2s := P2.sl HTO.out
        have P1s := P1.sl HKO.out
        have P1a : Av (fun k => P k ∨ w.heap.size ≤ k) (.slice A1 k.length d1) k := P1.av.mono fun k hk => .inr (by omega)
        exact ⟨_, rfl, ⟨_, _, _, rfl, P1s, P2s, P3, with_ok HOK.out P1s.isok HTO.out⟩, ⟨_, _, _, rfl, P1a, P2.av.mono fun k hk => .inr (by omega), HAP.out.2.2.mono fun k hk => .inl hk⟩, below_setRow1 (B := w.heap.size) (r := w.heap.size + 1 + 1) HB.out (by omega) _⟩

set_option maxHeartbeats 8000000 in
set_option maxRecDepth 100000 in
theorem tbehindEntry_any (P : Nat → Prop) (r : Rp) (lr : Ls) (e : En) (w : World) (hv : RpV w w.heap.size (.agg (repR r lr)) r) (ha : RpAv P (.agg (repR r lr)) r) (hx : e.ok) (hxr : reB e = true) (hh : erightB r.held = true) (hl : r.held.length ≤ 8000) :
    Calls Tryz.prog 69 #[.agg (repR r lr), e.agg] w (RepMore P w (entR r e)) := by
  rw [ent_fit]
  have HP := Lib.hid hv.av
  have HI := Lib.hid (fun w1 => iIn_any e r.flt w1 hx hv.isok.2.1)
  have HFD := Lib.hid (fun w1 => iFade_any e w1)
  have HF := Lib.hid (show fitE r.flt e = if inB e r.flt = true then e else fadeE e from rfl)
  have HV := Lib.hid hv
  have HA := Lib.hid ha
  have HX := Lib.hid (And.intro hx hxr)
  have HFX := Lib.hid (And.intro (fade_ok hx) (fade_re hxr))
  have HH := Lib.hid (And.intro hh hl)
  clear hv ha hx hxr hh hl
  generalize fitE r.flt e = x at HF ⊢
  generalize inB e r.flt = q at HI HF
  unfold En.agg at HI HFD ⊢
  unfold repR repRow Rp.cells
  refine calls_of_wp Tryz.func69 (be_cut rfl) ?_
  simp only [Tryz.ntmps69, List.size_toArray, List.length_cons, List.length_nil, Nat.reduceAdd, Nat.reduceSub, Array.replicate_succ, Array.replicate_zero, List.push_toArray, List.append_toArray, List.nil_append, List.cons_append]
  go_wp2_with fail
  have HB := Lib.hid (al3 w (.cells #[.int .u8 r.rep, .int .u8 r.flt, .int .u32 r.epoch, .int .u32 r.seq, .slice lr.a r.know.length lr.i, .slice lr.b r.held.length lr.j, .bool r.ses.on, .int .u32 r.ses.num, .int .u8 r.ses.src, .int .u8 r.ses.cur, .int .u32 r.ses.epoch, .slice lr.c r.ses.offer.length lr.k, .int .u32 r.ses.last] 28) (.cells #[.int .u8 e.id, .int .u8 e.rep, .int .u32 e.seq, .int .u32 e.stamp, .int .i64 e.kind, .int .u8 e.cls, .int .u32 e.val] 62) (.cells #[.int .u8 0, .int .u8 0, .int .u32 0, .int .u32 0, .slice none 0 0, .slice none 0 0, .bool false, .int .u32 0, .int .u8 0, .int .u8 0, .int .u32 0, .slice none 0 0, .int .u32 0] 28))
  have B3 := Lib.hid (blk_three w #[.int .u8 r.rep, .int .u8 r.flt, .int .u32 r.epoch, .int .u32 r.seq, .slice lr.a r.know.length lr.i, .slice lr.b r.held.length lr.j, .bool r.ses.on, .int .u32 r.ses.num, .int .u8 r.ses.src, .int .u8 r.ses.cur, .int .u32 r.ses.epoch, .slice lr.c r.ses.offer.length lr.k, .int .u32 r.ses.last] 28 #[.int .u8 e.id, .int .u8 e.rep, .int .u32 e.seq, .int .u32 e.stamp, .int .i64 e.kind, .int .u8 e.cls, .int .u32 e.val] 62 #[.int .u8 0, .int .u8 0, .int .u32 0, .int .u32 0, .slice none 0 0, .slice none 0 0, .bool false, .int .u32 0, .int .u8 0, .int .u8 0, .int .u32 0, .slice none 0 0, .int .u32 0] 28)
  generalize ((w.alloc (.cells #[.int .u8 r.rep, .int .u8 r.flt, .int .u32 r.epoch, .int .u32 r.seq, .slice lr.a r.know.length lr.i, .slice lr.b r.held.length lr.j, .bool r.ses.on, .int .u32 r.ses.num, .int .u8 r.ses.src, .int .u8 r.ses.cur, .int .u32 r.ses.epoch, .slice lr.c r.ses.offer.length lr.k, .int .u32 r.ses.last] 28)).alloc (.cells #[.int .u8 e.id, .int .u8 e.rep, .int .u32 e.seq, .int .u32 e.stamp, .int .i64 e.kind, .int .u8 e.cls, .int .u32 e.val] 62)).alloc (.cells #[.int .u8 0, .int .u8 0, .int .u32 0, .int .u32 0, .slice none 0 0, .slice none 0 0, .bool false, .int .u32 0, .int .u8 0, .int .u8 0, .int .u32 0, .slice none 0 0, .int .u32 0] 28) = W0 at HB B3 ⊢
  refine (HI.out W0).mono ?_
  rintro e' w1 ⟨rfl, hb⟩
  have BR := Lib.hid (B3.out.1.keep hb)
  have BE := Lib.hid (B3.out.2.1.keep hb)
  have BO := Lib.hid (B3.out.2.2.keep hb)
  have HB := Lib.hid (HB.out.trans (hb.mono HB.out.size)); clear hb B3
  cases q
  · have hF := HF.out
    rw [if_neg (by simp)] at hF
    subst hF
    have e0 := BE.out.cell 0 (.int .u8 e.id) rfl
    have e1 := BE.out.cell 1 (.int .u8 e.rep) rfl
    have e2 := BE.out.cell 2 (.int .u32 e.seq) rfl
    have e3 := BE.out.cell 3 (.int .u32 e.stamp) rfl
    have e4 := BE.out.cell 4 (.int .i64 e.kind) rfl
    have e5 := BE.out.cell 5 (.int .u8 e.cls) rfl
    have e6 := BE.out.cell 6 (.int .u32 e.val) rfl
    go_wp2_with fail
    refine (HFD.out w1).mono ?_
    rintro e' w2 ⟨rfl, hb⟩
    have BR := Lib.hid (BR.out.keep hb)
    have BE := Lib.hid (BE.out.keep hb)
    have BO := Lib.hid (BO.out.keep hb)
    have HB := Lib.hid (HB.out.trans (hb.mono HB.out.size)); clear hb e0 e1 e2 e3 e4 e5 e6
    go_wp2_with (refine wpList_store_row rfl _ _ _ rfl (w.heap.size + 1) #[.int .u8 (fadeE e).id, .int .u8 (fadeE e).rep, .int .u32 (fadeE e).seq, .int .u32 (fadeE e).stamp, .int .i64 (fadeE e).kind, .int .u8 (fadeE e).cls, .int .u32 (fadeE e).val] rfl rfl 62 #[.int .u8 e.id, .int .u8 e.rep, .int .u32 e.seq, .int .u32 e.stamp, .int .i64 e.kind, .int .u8 e.cls, .int .u32 e.val] BE.out.at_ be_size rfl (by simp [Value.oneCell']) ?_)
    have hv := (HV.out.later HB.out).rowOff (g := w.heap.size + 1) (HP.out.mono fun k hk => by omega) #[.int .u8 (fadeE e).id, .int .u8 (fadeE e).rep, .int .u32 (fadeE e).seq, .int .u32 (fadeE e).stamp, .int .i64 (fadeE e).kind, .int .u8 (fadeE e).cls, .int .u32 (fadeE e).val]
    have hz : (w2.setRow (w.heap.size + 1) #[.int .u8 (fadeE e).id, .int .u8 (fadeE e).rep, .int .u32 (fadeE e).seq, .int .u32 (fadeE e).stamp, .int .i64 (fadeE e).kind, .int .u8 (fadeE e).cls, .int .u32 (fadeE e).val]).heap.size = w2.heap.size := by simp [World.setRow]
    rw [← hz] at hv
    exact be_rest P (BR.out.other (k := w.heap.size + 1) (by omega) #[.int .u8 (fadeE e).id, .int .u8 (fadeE e).rep, .int .u32 (fadeE e).seq, .int .u32 (fadeE e).stamp, .int .i64 (fadeE e).kind, .int .u8 (fadeE e).cls, .int .u32 (fadeE e).val]) (BE.out.row #[.int .u8 (fadeE e).id, .int .u8 (fadeE e).rep, .int .u32 (fadeE e).seq, .int .u32 (fadeE e).stamp, .int .i64 (fadeE e).kind, .int .u8 (fadeE e).cls, .int .u32 (fadeE e).val]) (BO.out.other (k := w.heap.size + 1) (by omega) #[.int .u8 (fadeE e).id, .int .u8 (fadeE e).rep, .int .u32 (fadeE e).seq, .int .u32 (fadeE e).stamp, .int .i64 (fadeE e).kind, .int .u8 (fadeE e).cls, .int .u32 (fadeE e).val]) hv HA.out HP.out (below_setRow1 (B := w.heap.size) (r := w.heap.size + 1) HB.out (by omega) #[.int .u8 (fadeE e).id, .int .u8 (fadeE e).rep, .int .u32 (fadeE e).seq, .int .u32 (fadeE e).stamp, .int .i64 (fadeE e).kind, .int .u8 (fadeE e).cls, .int .u32 (fadeE e).val]) HFX.out.1 HFX.out.2 HH.out.1 HH.out.2
  · have hF := HF.out
    rw [if_pos rfl] at hF
    subst hF
    go_wp2_with fail
    exact be_rest P BR.out BE.out BO.out (HV.out.later HB.out) HA.out HP.out HB.out HX.out.1 HX.out.2 HH.out.1 HH.out.2
end Go.Proofs.YtfjaeohfigcciabGreatDoor

namespace Go.Proofs.YtfjaeohfigcciabGreatDoor
open Go.RowKit

def bEnd (n : Nt) (s : Rp) : Except Int Rp := if n.done = true then (match unionR s.know s.ses.offer with | .ok k => .ok (offP (knowP s k)) | .error c => .error c) else .ok (moveP s n.next)
theorem tail4 {f : Func} {a0 a1 a2 a3 c : Code} (h : f.body = some (.seq a0 (.seq a1 (.seq a2 (.seq a3 c))))) : tailN 4 (f.body.getD .skip) = c := by rw [h]; rfl
noncomputable def bRest2 : Code := tailN 2 (Tryz.f32.body.getD .skip)
noncomputable def bRest3 : Code := tailN 3 (Tryz.f32.body.getD .skip)
noncomputable def bRest4 : Code := tailN 4 (Tryz.f32.body.getD .skip)
def fstN : Nat → Code → Code
  | 0, .seq a _ => a
  | n + 1, .seq _ b => fstN n b
  | _, c => c
theorem fst3 {f : Func} {a0 a1 a2 a3 c : Code} (h : f.body = some (.seq a0 (.seq a1 (.seq a2 (.seq a3 c))))) : fstN 3 (f.body.getD .skip) = a3 := by rw [h]; rfl
theorem fst2 {f : Func} {a0 a1 a2 c : Code} (h : f.body = some (.seq a0 (.seq a1 (.seq a2 c)))) : fstN 2 (f.body.getD .skip) = a2 := by rw [h]; rfl
noncomputable def bFst3 : Code := fstN 3 (Tryz.f32.body.getD .skip)
noncomputable def bFst2 : Code := fstN 2 (Tryz.f32.body.getD .skip)
theorem cut4_of {f : Func} {a0 a1 a2 a3 c : Code} (h : f.body = some (.seq a0 (.seq a1 (.seq a2 (.seq a3 c))))) : tailN 3 (f.body.getD .skip) = .seq (fstN 3 (f.body.getD .skip)) (tailN 4 (f.body.getD .skip)) := by rw [h]; rfl
theorem cut3_of {f : Func} {a0 a1 a2 c : Code} (h : f.body = some (.seq a0 (.seq a1 (.seq a2 c)))) : tailN 2 (f.body.getD .skip) = .seq (fstN 2 (f.body.getD .skip)) (tailN 3 (f.body.getD .skip)) := by rw [h]; rfl
theorem b_cut4 : bRest3 = .seq bFst3 bRest4 := cut4_of (f := Tryz.f32) rfl
theorem b_cut3 : bRest2 = .seq bFst2 bRest3 := cut3_of (f := Tryz.f32) rfl
theorem move_ok {r : Rp} (h : r.ok) {c : Int} (hc : 0 ≤ c ∧ c ≤ 255) : (moveP r c).ok := by
  obtain ⟨a1, a2, a3, a4, a5, a6, b1, b2, b3, b4, b5, b6⟩ := h
  exact ⟨a1, a2, a3, a4, a5, a6, b1, b2, hc, b4, b5, b6⟩
theorem know_ok {r : Rp} (h : r.ok) {k : List Rn} (hk : ∀ x ∈ k, x.ok) : (knowP r k).ok := by
  obtain ⟨a1, a2, a3, a4, _, a6, a7⟩ := h
  exact ⟨a1, a2, a3, a4, hk, a6, a7⟩

set_option maxHeartbeats 16000000 in
set_option maxRecDepth 100000 in
theorem b_end4 {w wf : World} {n : Nt} {ln : Ls} {x : Rp} {lx : Ls} {gA : Nat} (hbn : Blk wf (w.heap.size + 1) (noteR n ln) 30) (hbo : Blk wf (w.heap.size + 1 + 1) #[.int .u8 0, .int .u8 0, .int .u32 0, .int .u32 0, .slice none 0 0, .slice none 0 0, .bool false, .int .u32 0, .int .u8 0, .int .u8 0, .int .u32 0, .slice none 0 0, .int .u32 0] 28) (hba : Blk wf gA (repR x lx) 28) (hv : RpV wf wf.heap.size (.agg (repR x lx)) x)
    (ha : RpAv (fun k => k ≠ gA ∧ w.heap.size + 1 + 1 < k) (.agg (repR x lx)) x) (hb : Below w.heap.size w wf) (hlg : w.heap.size + 1 + 1 < gA) (hNX : 0 ≤ n.next ∧ n.next ≤ 255) {u0 u1 u2 u6 u7 u8 u9 u10 u11 u12 u13 u14 u15 u16 u17 u18 u19 u20 u21 u22 u23 u24 u25 u26 u27 u28 u29 u30 u31 u32 u33 u34 u35 u36 u37 u38 u39 u40 u41 u42 u43 u44 u45 u46 u47 u48 u49 u50 u51 u52 u53 u54 u55 u56 : Value} :
    bRest4.wp Tryz.prog (bodyPost Tryz.prog Tryz.f32 (RepSure w (bEnd n x))) { tmps := #[u0, u1, u2, .pointer (some ⟨w.heap.size + 1, 0, none⟩), .pointer (some ⟨w.heap.size + 1 + 1, 0, none⟩), .pointer (some ⟨gA, 0, none⟩), u6, u7, u8, u9, u10, u11, u12, u13, u14, u15, u16, u17, u18, u19, u20, u21, u22, u23, u24, u25, u26, u27, u28, u29, u30, u31, u32, u33, u34, u35, u36, u37, u38, u39, u40, u41, u42, u43, u44, u45, u46, u47, u48, u49, u50, u51, u52, u53, u54, u55, u56], defers := [] } wf := by
  have HV := Lib.hid hv
  have HA := Lib.hid ha
  have HAL := Lib.hid ha.lists
  have BN := Lib.hid hbn
  have BO := Lib.hid hbo
  have BA := Lib.hid hba
  have HB := Lib.hid hb
  have HOK := Lib.hid hv.isok
  have hE := Lib.hid (show bEnd n x = if n.done = true then (match unionR x.know x.ses.offer with | .ok k => .ok (offP (knowP x k)) | .error c => .error c) else .ok (moveP x n.next) from rfl)
  have HNX := Lib.hid hNX
  generalize bEnd n x = R at hE ⊢
  have d10 := hbn.cell 10 (.bool n.done) rfl
  have d9 := hbn.cell 9 (.int .u8 n.next) rfl
  have hlt := hba.lt
  have HLT := Lib.hid hlt
  clear hv ha hbn hbo hba hb hlt hNX
  have n1 : gA ≠ w.heap.size + 1 := by omega
  obtain ⟨q, hq⟩ : ∃ q, n.done = q := ⟨_, rfl⟩
  rw [hq] at hE d10
  have HQ := Lib.hid hq; clear hq
  cases q
  · have hr := hE.out
    rw [if_neg (by simp)] at hr
    subst hr
    unfold bRest4
    rw [tail4 (f := Tryz.f32) rfl]
    have a9 := BA.out.cell 9 (.int .u8 x.ses.cur) rfl
    have f9 := BA.out.free 9
    go_upto_region 11 with fail
    have hoff := (Off.refl gA wf).set 9 (.int .u8 n.next)
    have BA := Lib.hid (show Blk (wf.setCell ⟨gA, 9, none⟩ (.int .u8 n.next)) gA (repR (moveP x n.next) lx) 28 from BA.out.put 9 (.int .u8 n.next))
    have BO := Lib.hid (BO.out.off hoff (by omega))
    have HV := Lib.hid (HV.out.off hoff (HA.out.mono fun k hk => hk.1))
    have HB := Lib.hid (below_off HB.out hoff (by omega))
    have hz := hoff.size
    rw [← hz] at HV
    clear hoff hz a9 f9 d9 d10 n1
    generalize wf.setCell ⟨gA, 9, none⟩ (.int .u8 n.next) = w1 at BA BO HV HB ⊢
    have hi := rep_row_size (moveP x n.next) lx
    have h1 := rep_row_one (moveP x n.next) lx
    have HM := Lib.hid (show RpV w1 w1.heap.size (.agg (repR (moveP x n.next) lx)) (moveP x n.next) from ⟨_, _, _, rfl, HV.out.skn, HV.out.she, HV.out.sof, move_ok HOK.out HNX.out⟩)
    have HMA := Lib.hid (show RpAv (fun k => k ≠ gA ∧ w.heap.size + 1 + 1 < k) (.agg (repR (moveP x n.next) lx)) (moveP x n.next) from ⟨_, _, _, rfl, HAL.out.1, HAL.out.2.1, HAL.out.2.2⟩)
    have hs : (repR (moveP x n.next) lx).size = 13 := rfl
    generalize repR (moveP x n.next) lx = cx at BA hi h1 hs HM HMA ⊢
    go_wp2_with (first
      | (refine wpList_load_row rfl _ _ rfl gA rfl 28 cx (0, 0) _ BA.out.at_ Tryz.underlying28 rfl hi ?_)
      | (refine wpList_store_row rfl _ _ _ rfl (w.heap.size + 1 + 1) cx rfl rfl 28 #[.int .u8 0, .int .u8 0, .int .u32 0, .int .u32 0, .slice none 0 0, .slice none 0 0, .bool false, .int .u32 0, .int .u8 0, .int .u8 0, .int .u32 0, .slice none 0 0, .int .u32 0] BO.out.at_ hi (by rw [hs]; rfl) h1 ?_))
    refine bodyPost_ret (v := .agg cx) (results_cell_row Tryz.results32 _ _ (w.heap.size + 1 + 1) 28 cx (0, 0) _ rfl (BO.out.row cx).at_ Tryz.underlying28 rfl hi) rfl ?_
    have P := HM.out.rowOff (g := w.heap.size + 1 + 1) (HMA.out.mono fun k hk => by omega) cx
    have hz : (w1.setRow (w.heap.size + 1 + 1) cx).heap.size = w1.heap.size := by simp [World.setRow]
    rw [← hz] at P
    exact ⟨_, rfl, P, HMA.out.mono fun k hk => by omega, below_setRow1 (B := w.heap.size) (r := w.heap.size + 1 + 1) HB.out (by omega) _⟩
  · have hr := hE.out
    rw [if_pos rfl] at hr
    have HU := Lib.hid (fun w1 (hv : RpV w1 w1.heap.size (.agg (repR x lx)) x) => Union_anyO (.slice lx.a x.know.length lx.i) (.slice lx.c x.ses.offer.length lx.k) x.know x.ses.offer w1 hv.skn hv.sof)
    generalize unionR x.know x.ses.offer = D at hr HU
    cases D with
    | error c =>
      have hr : R = .error c := hr
      subst hr
      unfold bRest4
      rw [tail4 (f := Tryz.f32) rfl]
      have a4 := BA.out.cell 4 (.slice lx.a x.know.length lx.i) rfl
      have a11 := BA.out.cell 11 (.slice lx.c x.ses.offer.length lx.k) rfl
      go_wp2_with fail
      refine (HU.out wf HV.out).mono ?_
      rintro e w1 ⟨rfl, hb⟩
      have HB := Lib.hid (HB.out.trans (hb.mono HB.out.size)); clear hb
      go_wp2_with fail
      refine (tsureR_bad _ _ _ _).mono ?_
      rintro e w6 ⟨rfl, hw⟩
      exact ⟨rfl, rfl, hw ▸ HB.out⟩
    | ok k =>
      have hr : R = .ok (offP (knowP x k)) := hr
      subst hr
      unfold bRest4
      rw [tail4 (f := Tryz.f32) rfl]
      have a4 := BA.out.cell 4 (.slice lx.a x.know.length lx.i) rfl
      have a11 := BA.out.cell 11 (.slice lx.c x.ses.offer.length lx.k) rfl
      go_wp2_with fail
      refine (HU.out wf HV.out).mono ?_
      rintro e w1 ⟨v1, rfl, ⟨o1, s1⟩, hb⟩
      have HKO := Lib.hid s1.isok
      obtain ⟨A1, d1, rfl, _⟩ := s1
      have O1 := Lib.hid o1; clear o1 a4 a11
      have BO := Lib.hid (BO.out.keep hb)
      have BA := Lib.hid (BA.out.keep hb)
      have HV := Lib.hid (HV.out.later hb)
      have HB := Lib.hid (HB.out.trans (hb.mono HB.out.size)); clear hb
      have a4 := BA.out.cell 4 (.slice lx.a x.know.length lx.i) rfl
      have f4 := BA.out.free 4
      go_upto_region 13 with (go_at_call 71; refine (tsureR_ok _ _).mono ?_; rintro e w6 ⟨rfl, hw⟩; rw [hw]; clear hw)
      have hoff := (Off.refl gA w1).set 4 (.slice A1 k.length d1)
      have BA := Lib.hid (show Blk (w1.setCell ⟨gA, 4, none⟩ (.slice A1 k.length d1)) gA (repR (knowP x k) ⟨A1, lx.b, lx.c, d1, lx.j, lx.k⟩) 28 from BA.out.put 4 (.slice A1 k.length d1))
      have BO := Lib.hid (BO.out.off hoff (by omega))
      have HV := Lib.hid (HV.out.off hoff (HA.out.mono fun k hk => hk.1))
      have O1 := Lib.hid (O1.out.setOther (h := gA) (j := 4) (u := .slice A1 k.length d1) HLT.out)
      have HB := Lib.hid (below_off HB.out hoff (by omega))
      have hz := hoff.size
      rw [← hz] at HV
      clear hoff hz a4 f4 d9 d10 n1
      generalize w1.setCell ⟨gA, 4, none⟩ (.slice A1 k.length d1) = w2 at BA BO HV HB O1 ⊢
      have hi := rep_row_size (knowP x k) ⟨A1, lx.b, lx.c, d1, lx.j, lx.k⟩
      have HM := Lib.hid (show RpV w2 w2.heap.size (.agg (repR (knowP x k) ⟨A1, lx.b, lx.c, d1, lx.j, lx.k⟩)) (knowP x k) from ⟨.slice A1 k.length d1, .slice lx.b x.held.length lx.j, .slice lx.c x.ses.offer.length lx.k, rfl, O1.out.sl HKO.out, HV.out.she, HV.out.sof, know_ok HOK.out HKO.out⟩)
      have HMA := Lib.hid (show RpAv (fun k => w.heap.size + 1 + 1 < k) (.agg (repR (knowP x k) ⟨A1, lx.b, lx.c, d1, lx.j, lx.k⟩)) (knowP x k) from ⟨.slice A1 k.length d1, .slice lx.b x.held.length lx.j, .slice lx.c x.ses.offer.length lx.k, rfl, O1.out.av.mono fun j hj => (by have := HLT.out; omega), HAL.out.2.1.mono fun j hj => hj.2, HAL.out.2.2.mono fun j hj => hj.2⟩)
      generalize repR (knowP x k) ⟨A1, lx.b, lx.c, d1, lx.j, lx.k⟩ = cx at BA hi HM HMA ⊢
      go_wp2_with (refine wpList_load_row rfl _ _ rfl gA rfl 28 cx (0, 0) _ BA.out.at_ Tryz.underlying28 rfl hi ?_)
      refine (tidle_any _ _ (knowP x k) w2 HM.out HMA.out).mono ?_
      rintro e w3 ⟨v3, rfl, hv3, ha3, hb⟩
      obtain ⟨c3, rfl, hs, h1⟩ := hv3.row
      have hi3 : (Tryz.prog.info? 28).map (·.size) = some c3.size := by rw [hs]; exact rep_size1
      have BO := Lib.hid (BO.out.keep hb)
      have HB := Lib.hid (HB.out.trans (hb.mono HB.out.size)); clear hb
      have HM := Lib.hid (hv3.rowOff (g := w.heap.size + 1 + 1) (ha3.mono fun k hk => by omega) c3)
      have hz : (w3.setRow (w.heap.size + 1 + 1) c3).heap.size = w3.heap.size := by simp [World.setRow]
      rw [← hz] at HM
      clear hz
      go_wp2_with (refine wpList_store_row rfl _ _ _ rfl (w.heap.size + 1 + 1) c3 rfl rfl 28 #[.int .u8 0, .int .u8 0, .int .u32 0, .int .u32 0, .slice none 0 0, .slice none 0 0, .bool false, .int .u32 0, .int .u8 0, .int .u8 0, .int .u32 0, .slice none 0 0, .int .u32 0] BO.out.at_ hi3 (by rw [hs]; rfl) h1 ?_)
      refine bodyPost_ret (v := .agg c3) (results_cell_row Tryz.results32 _ _ (w.heap.size + 1 + 1) 28 c3 (0, 0) _ rfl (BO.out.row c3).at_ Tryz.underlying28 rfl hi3) rfl ?_
      exact ⟨_, rfl, HM.out, ha3.mono fun k hk => by omega, below_setRow1 (B := w.heap.size) (r := w.heap.size + 1 + 1) HB.out (by omega) _⟩

set_option maxHeartbeats 16000000 in
set_option maxRecDepth 100000 in
theorem b_end3 {w wf : World} {r : Rp} {n : Nt} {ln : Ls} {x : Rp} {lx : Ls} {gA : Nat} {K : List Rn} {H : List En} (hx : x = withK r K H) (hbn : Blk wf (w.heap.size + 1) (noteR n ln) 30) (hbo : Blk wf (w.heap.size + 1 + 1) #[.int .u8 0, .int .u8 0, .int .u32 0, .int .u32 0, .slice none 0 0, .slice none 0 0, .bool false, .int .u32 0, .int .u8 0, .int .u8 0, .int .u32 0, .slice none 0 0, .int .u32 0] 28) (hba : Blk wf gA (repR x lx) 28) (hv : RpV wf wf.heap.size (.agg (repR x lx)) x)
    (ha : RpAv (fun k => k ≠ gA ∧ w.heap.size + 1 + 1 < k) (.agg (repR x lx)) x) (hb : Below w.heap.size w wf) (hlg : w.heap.size + 1 + 1 < gA) (hNX : 0 ≤ n.next ∧ n.next ≤ 255) (hu : NtV wf wf.heap.size (.agg (noteR n ln)) n) (hua : NtAv (fun k => k < w.heap.size) (.agg (noteR n ln)) n) (hg3 : n.offer.length ≤ 10000) {u0 u1 u2 u6 u7 u8 u9 u10 u11 u12 u13 u14 u15 u16 u17 u18 u19 u20 u21 u22 u23 u24 u25 u26 u27 u28 u29 u30 u31 u32 u33 u34 u35 u36 u37 u38 u39 u40 u41 u42 u43 u44 u45 u46 u47 u48 u49 u50 u51 u52 u53 u54 u55 u56 : Value} :
    bRest3.wp Tryz.prog (bodyPost Tryz.prog Tryz.f32 (RepSure w (bEnd n (afterP r n K H)))) { tmps := #[u0, u1, u2, .pointer (some ⟨w.heap.size + 1, 0, none⟩), .pointer (some ⟨w.heap.size + 1 + 1, 0, none⟩), .pointer (some ⟨gA, 0, none⟩), u6, u7, u8, u9, u10, u11, u12, u13, u14, u15, u16, u17, u18, u19, u20, u21, u22, u23, u24, u25, u26, u27, u28, u29, u30, u31, u32, u33, u34, u35, u36, u37, u38, u39, u40, u41, u42, u43, u44, u45, u46, u47, u48, u49, u50, u51, u52, u53, u54, u55, u56], defers := [] } wf := by
  have hm : Tryz.prog.follows .mixedOrders = true := by kernel_rfl
  have HM := Lib.hid hm; clear hm
  have HV := Lib.hid hv
  have HA := Lib.hid ha
  have HAL := Lib.hid ha.lists
  have BN := Lib.hid hbn
  have BO := Lib.hid hbo
  have BA := Lib.hid hba
  have HB := Lib.hid hb
  have HU := Lib.hid hu
  have HUA := Lib.hid hua
  have HNX := Lib.hid hNX
  have HX := Lib.hid hx
  have HC3 := Lib.hid (fun w1 (h : NtV w1 w1.heap.size (.agg (noteR n ln)) n) => rClone_any (.slice ln.c n.offer.length ln.k) n.offer w1 h.sof hg3)
  have d4 := hbn.cell 4 (.int .u8 n.cur) rfl
  clear hv ha hbn hbo hba hb hu hua hg3 hx hNX
  have e3 : bRest3 = .seq (bFst3) bRest4 := b_cut4
  have n1 : gA ≠ w.heap.size + 1 := by omega
  obtain ⟨q, hq⟩ : ∃ q : Bool, (n.cur == 0) = q := ⟨_, rfl⟩
  have HQ := Lib.hid hq
  rw [e3]
  clear e3
  cases q
  · have hA : afterP r n K H = x := by
      have := HQ.out
      have hc : ¬ n.cur = 0 := by simpa using this
      rw [HX.out]
      unfold afterP withK
      rw [if_neg hc, if_neg hc]
    rw [hA]
    unfold bFst3
    rw [fst3 (f := Tryz.f32) rfl]
    go_wp2_with fail
    exact b_end4 BN.out BO.out BA.out HV.out HA.out HB.out hlg HNX.out
  · have hc : n.cur = 0 := by have := HQ.out; simpa using this
    have hA : afterP r n K H = ⟨x.rep, x.flt, x.epoch, x.seq, x.know, x.held, ⟨x.ses.on, x.ses.num, x.ses.src, x.ses.cur, n.epoch, n.offer, x.ses.last⟩⟩ := by
      rw [HX.out]
      unfold afterP withK
      rw [if_pos hc, if_pos hc]
    have hyok : (⟨x.rep, x.flt, x.epoch, x.seq, x.know, x.held, ⟨x.ses.on, x.ses.num, x.ses.src, x.ses.cur, n.epoch, n.offer, x.ses.last⟩⟩ : Rp).ok := by
      obtain ⟨p1, p2, p3, p4, p5, p6, s1, s2, s3, s4, s5, s6⟩ := HV.out.isok
      exact ⟨p1, p2, p3, p4, p5, p6, s1, s2, s3, HU.out.isok.2.2.2.2.2.2.2.1, HU.out.sof.isok, s6⟩
    have HY := Lib.hid hyok
    rw [hA]
    clear hA hyok HX
    unfold bFst3
    rw [fst3 (f := Tryz.f32) rfl]
    have hlt := BA.out.lt
    have HLT := Lib.hid hlt
    go_wp2_with fail
    refine wp_region_C (fun w' => Blk w' (w.heap.size + 1) (noteR n ln) 30) HM.out ?_
    have HC := Lib.hid (show Blk wf.drew (w.heap.size + 1) (noteR n ln) 30 from ⟨BN.out.at_⟩)
    have hbd := (Below.refl wf.heap.size wf).drew
    have BO := Lib.hid (BO.out.keep hbd)
    have BA := Lib.hid (BA.out.keep hbd)
    have HV := Lib.hid (HV.out.later hbd)
    have HU := Lib.hid (HU.out.later hbd)
    have HB := Lib.hid (HB.out.trans (hbd.mono HB.out.size))
    have HLT := Lib.hid (show gA < wf.drew.heap.size from HLT.out)
    clear hbd hlt BN d4
    generalize wf.drew = w0 at HC BO BA HV HU HB HLT ⊢
    refine anyC_take (i := 0) (v := .pointer (some ⟨w.heap.size + 1, 7, none⟩)) rfl (by kernel_rfl) (by kernel_rfl) (by kernel_rfl) (fun _ _ _ h => h) HC.out ⟨by rfl, fun w' hw => by go_simp⟩ ?_
    refine anyC_take (i := 1) (v := .int .u32 n.epoch) rfl (by kernel_rfl) (by kernel_rfl) (by kernel_rfl) (fun _ _ _ h => h) HC.out ⟨by rfl, fun w' hw => by (have c := hw.cell 7 (.int .u32 n.epoch) rfl; go_simp)⟩ ?_
    refine anyC_take (i := 2) (v := .pointer (some ⟨w.heap.size + 1, 11, none⟩)) rfl (by kernel_rfl) (by kernel_rfl) (by kernel_rfl) (fun _ _ _ h => h) HC.out ⟨by rfl, fun w' hw => by go_simp⟩ ?_
    refine anyC_take (i := 3) (v := .slice ln.c n.offer.length ln.k) rfl (by kernel_rfl) (by kernel_rfl) (by kernel_rfl) (fun _ _ _ h => h) HC.out ⟨by rfl, fun w' hw => by (have c := hw.cell 11 (.slice ln.c n.offer.length ln.k) rfl; go_simp)⟩ ?_
    refine anyC_take (i := 5) (v := .pointer (some ⟨gA, 6, none⟩)) rfl (by kernel_rfl) (by kernel_rfl) (by kernel_rfl) (fun _ _ _ h => h) HC.out ⟨by rfl, fun w' hw => by go_simp⟩ ?_
    refine anyC_take (i := 6) (v := .pointer (some ⟨gA, 10, none⟩)) rfl (by kernel_rfl) (by kernel_rfl) (by kernel_rfl) (fun _ _ _ h => h) HC.out ⟨by rfl, fun w' hw => by go_simp⟩ ?_
    refine anyC_one (i := 4) (by decide +kernel) rfl rfl fun K' hK => ?_
    go_simp
    refine (HC3.out w0 HU.out).mono ?_
    rintro e w1 ⟨v1, rfl, o1, hb⟩
    obtain ⟨A3, d3, rfl, _⟩ := o1.form
    have O1 := Lib.hid o1; clear o1
    have HC := Lib.hid (HC.out.keep hb)
    have BO := Lib.hid (BO.out.keep hb)
    have BA := Lib.hid (BA.out.keep hb)
    have HV := Lib.hid (HV.out.later hb)
    have HU := Lib.hid (HU.out.later hb)
    have HB := Lib.hid (HB.out.trans (hb.mono HB.out.size)); clear hb
    refine hK _ _ HC.out ?_
    clear hK
    refine anyC_one (i := 7) (by decide +kernel) rfl rfl fun K' hK => ?_
    have a10 := BA.out.cell 10 (.int .u32 x.ses.epoch) rfl
    have f10 := BA.out.free 10
    go_simp
    refine hK _ _ (HC.out.setOther (by omega) 10 (.int .u32 n.epoch)) ?_
    clear hK a10 f10
    have hoff := (Off.refl gA w1).set 10 (.int .u32 n.epoch)
    have BA := Lib.hid (show Blk (w1.setCell ⟨gA, 10, none⟩ (.int .u32 n.epoch)) gA (repR (⟨x.rep, x.flt, x.epoch, x.seq, x.know, x.held, ⟨x.ses.on, x.ses.num, x.ses.src, x.ses.cur, n.epoch, x.ses.offer, x.ses.last⟩⟩ : Rp) lx) 28 from BA.out.put 10 (.int .u32 n.epoch))
    have BO := Lib.hid (BO.out.off hoff (by omega))
    have HC := Lib.hid (HC.out.off hoff (by omega))
    have HV := Lib.hid (HV.out.off hoff (HA.out.mono fun k hk => hk.1))
    have HU := Lib.hid (HU.out.off hoff (HUA.out.mono fun k hk => by omega))
    have O1 := Lib.hid (O1.out.setOther (h := gA) (j := 10) (u := .int .u32 n.epoch) HLT.out)
    have HB := Lib.hid (below_off HB.out hoff (by omega))
    have hz := hoff.size
    rw [← hz] at HV HU
    clear hoff hz
    generalize w1.setCell ⟨gA, 10, none⟩ (.int .u32 n.epoch) = w2 at BA BO HC HV HU O1 HB ⊢
    refine anyC_take (i := 8) (v := .pointer (some ⟨gA, 6, none⟩)) rfl (by kernel_rfl) (by kernel_rfl) (by kernel_rfl) (fun _ _ _ h => h) HC.out ⟨by rfl, fun w' hw => by go_simp⟩ ?_
    refine anyC_take (i := 9) (v := .pointer (some ⟨gA, 11, none⟩)) rfl (by kernel_rfl) (by kernel_rfl) (by kernel_rfl) (fun _ _ _ h => h) HC.out ⟨by rfl, fun w' hw => by go_simp⟩ ?_
    refine anyC_one (i := 10) (by decide +kernel) rfl rfl fun K' hK => ?_
    have a11 := BA.out.cell 11 (.slice lx.c x.ses.offer.length lx.k) rfl
    have f11 := BA.out.free 11
    go_simp
    refine hK _ _ (HC.out.setOther (by omega) 11 (.slice A3 n.offer.length d3)) (anyC_done (by decide +kernel) ?_)
    clear hK a11 f11
    have hoff := (Off.refl gA w2).set 11 (.slice A3 n.offer.length d3)
    have BA := Lib.hid (show Blk (w2.setCell ⟨gA, 11, none⟩ (.slice A3 n.offer.length d3)) gA (repR (⟨x.rep, x.flt, x.epoch, x.seq, x.know, x.held, ⟨x.ses.on, x.ses.num, x.ses.src, x.ses.cur, n.epoch, n.offer, x.ses.last⟩⟩ : Rp) ⟨lx.a, lx.b, A3, lx.i, lx.j, d3⟩) 28 from BA.out.put 11 (.slice A3 n.offer.length d3))
    have BO := Lib.hid (BO.out.off hoff (by omega))
    have HC := Lib.hid (HC.out.off hoff (by omega))
    have HV := Lib.hid (HV.out.off hoff (HA.out.mono fun k hk => hk.1))
    have HU := Lib.hid (HU.out.off hoff (HUA.out.mono fun k hk => by omega))
    have O1 := Lib.hid (O1.out.setOther (h := gA) (j := 11) (u := .slice A3 n.offer.length d3) HLT.out)
    have HB := Lib.hid (below_off HB.out hoff (by omega))
    have hz := hoff.size
    rw [← hz] at HV HU
    clear hoff hz
    generalize w2.setCell ⟨gA, 11, none⟩ (.slice A3 n.offer.length d3) = w3 at BA BO HC HV HU O1 HB ⊢
    have hy := (show RpV w3 w3.heap.size (.agg (repR ⟨x.rep, x.flt, x.epoch, x.seq, x.know, x.held, ⟨x.ses.on, x.ses.num, x.ses.src, x.ses.cur, n.epoch, n.offer, x.ses.last⟩⟩ ⟨lx.a, lx.b, A3, lx.i, lx.j, d3⟩)) ⟨x.rep, x.flt, x.epoch, x.seq, x.know, x.held, ⟨x.ses.on, x.ses.num, x.ses.src, x.ses.cur, n.epoch, n.offer, x.ses.last⟩⟩ from
      ⟨.slice lx.a x.know.length lx.i, .slice lx.b x.held.length lx.j, .slice A3 n.offer.length d3, rfl, HV.out.skn, HV.out.she, O1.out.sl HU.out.sof.isok, HY.out⟩)
    have hya := (show RpAv (fun k => k ≠ gA ∧ w.heap.size + 1 + 1 < k) (.agg (repR ⟨x.rep, x.flt, x.epoch, x.seq, x.know, x.held, ⟨x.ses.on, x.ses.num, x.ses.src, x.ses.cur, n.epoch, n.offer, x.ses.last⟩⟩ ⟨lx.a, lx.b, A3, lx.i, lx.j, d3⟩)) ⟨x.rep, x.flt, x.epoch, x.seq, x.know, x.held, ⟨x.ses.on, x.ses.num, x.ses.src, x.ses.cur, n.epoch, n.offer, x.ses.last⟩⟩ from
      ⟨.slice lx.a x.know.length lx.i, .slice lx.b x.held.length lx.j, .slice A3 n.offer.length d3, rfl, HAL.out.1, HAL.out.2.1, O1.out.av.mono fun k hk => (by have := HLT.out; omega)⟩)
    go_wp2_with fail
    exact b_end4 HC.out BO.out BA.out hy hya HB.out hlg HNX.out
end Go.Proofs.YtfjaeohfigcciabGreatDoor

