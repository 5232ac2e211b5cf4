/- The contract of source.Answer: a Pull whose Cursor is 0. -/
import Derived.Test.YtfjaeohfigcciabSCode6
namespace Go.Proofs.Ytfjaeohfigcciab
open Go.RowKit

set_option maxHeartbeats 16000000 in
set_option maxRecDepth 100000 in
theorem sAnswer_first (v u : Value) (r : Rp) (p : Nt) (w : World) (hv : RpV w w.heap.size v r) (hu : NtV w w.heap.size u p) (h1 : r.know.length ≤ 1000) (h2 : r.held.length ≤ 1000) (h3 : r.ses.offer.length ≤ 1000) (hq : refuseR r p = none) (hcz : p.cur = 0) :
    Calls Try.prog 7 #[v, u] w (AnsPost w (match offerR p.flt r.held r.know with | .ok o => .ok (answerN r p (dueL r.held p.know p.cur) o) | .error c => .error c)) := by
  have HC := Lib.hid hcz
  clear hcz
  obtain ⟨D, hD0⟩ : ∃ D, offerR p.flt r.held r.know = D := ⟨_, rfl⟩
  rw [hD0]
  have HRF := Lib.hid (fun w1 (hb : Below w.heap.size w w1) => by have := srefusal_any v u r p w1 (hv.later hb) (hu.later hb) h1 h2 h3; rw [hq] at this; exact this)
  have HV := Lib.hid hv
  have HU := Lib.hid hu
  obtain ⟨lr, rfl⟩ := hv.rows
  obtain ⟨ln, rfl⟩ := hu.rows
  have HTO := Lib.hid (fun w1 (hb : Below w.heap.size w w1) => stold_any r p lr ln w1 (HV.out.later hb) (HU.out.later hb) h2)
  have q1 := (refuse_none hq).1
  have HHR := rp_parts q1
  have HLO : ∀ x ∈ ((r.held.filter (dueB p)).take 4).map (fitE p.flt), x.ok := fun x hx => by
    obtain ⟨y, hy, rfl⟩ := List.mem_map.1 hx
    exact fit_ok (HV.out.helds y (List.mem_filter.1 (List.mem_of_mem_take hy)).1)
  have HL63 : ∀ x ∈ ((r.held.filter (dueB p)).take 4).map (fitE p.flt), x.id ≤ 63 := fun x hx => by
    obtain ⟨y, hy, rfl⟩ := List.mem_map.1 hx
    have h := re_of_right HHR.2.2.1 y (List.mem_filter.1 (List.mem_of_mem_take hy)).1
    rw [(fit_same p.flt y).1]
    simp only [reB, Bool.and_eq_true, decide_eq_true_eq] at h
    omega
  have HLL : (((r.held.filter (dueB p)).take 4).map (fitE p.flt)).length ≤ 4 := by simp; omega
  have HNXE : nextOf (((r.held.filter (dueB p)).take 4).map (fitE p.flt)) p.cur = nextOf ((r.held.filter (dueB p)).take 4) p.cur := next_map _ _ _
  have HANS : ∀ o, answerN r p (dueL r.held p.know p.cur) o = ansN r p (((r.held.filter (dueB p)).take 4).map (fitE p.flt)) (nextOf (((r.held.filter (dueB p)).take 4).map (fitE p.flt)) p.cur) (decide ((r.held.filter (dueB p)).length ≤ 4)) o := fun o => by
    rw [HNXE]; rfl

  clear HNXE HHR q1
  generalize ((r.held.filter (dueB p)).take 4).map (fitE p.flt) = L at HTO HLO HL63 HLL HANS ⊢
  generalize decide ((r.held.filter (dueB p)).length ≤ 4) = d at HTO HANS ⊢
  have HNB := next_bound HLO HL63 HU.out.nok.2.2.2.2.1
  have HNX := Lib.hid (fun w1 (A : Option Addr) (c : Nat) (hs : ESl w1 w1.heap.size (.slice A L.length c) L) => snext_any (.agg #[.int .i64 2, .int .u8 r.rep, .int .u8 p.src, .int .u32 p.num, .int .u8 p.cur, .int .u8 0, .slice none 0 0, .int .u32 r.epoch, .slice A L.length c, .int .u8 0, .bool d, .slice none 0 0]) (ansN r p L 0 d []) w1 ⟨_, _, _, rfl, Sl.nil _ _, hs, Sl.nil _ _, ans_ok HV.out.rok HU.out.nok HLO ⟨by decide, by decide⟩ (fun x hx => by cases hx)⟩ (by show L.length ≤ 1000; omega) HL63)
  have HOF := Lib.hid (fun w1 (hb : Below w.heap.size w w1) => by have := soffered_any (.agg (repR r lr)) r p.flt w1 (HV.out.later hb) HU.out.flt h1 h2; rw [hD0] at this; exact this)
  clear hD0
  have HLO2 := Lib.hid HLO
  have HOK := Lib.hid (fun (o : List Rn) (ho : ∀ x ∈ o, x.ok) => ans_ok (nx := nextOf L p.cur) (d := d) HV.out.rok HU.out.nok HLO HNB ho)
  have HAN := Lib.hid HANS
  unfold ansN at HNX
  simp only at HNX
  generalize nextOf L p.cur = nx at HNX HOK HAN ⊢
  clear hv hu h1 h2 h3 hq HLO HL63 HLL HANS HNB
  unfold repR repRow Rp.cells at HRF HTO HOF ⊢
  unfold noteR noteRow Nt.cells at HRF HTO ⊢
  go_enter Try.func7, Try.ntmps7
  go_wp2_with fail
  have HB := Lib.hid (al3 w (.cells #[.int .u8 r.rep, .int .u8 r.flt, .int .u32 r.epoch, .int .u32 r.seq, .slice lr.a r.know.length lr.i, .slice lr.b r.held.length lr.j, .bool r.ses.on, .int .u32 r.ses.num, .int .u8 r.ses.src, .int .u8 r.ses.cur, .int .u32 r.ses.epoch, .slice lr.c r.ses.offer.length lr.k, .int .u32 r.ses.last] 28) (.cells #[.int .i64 p.kind, .int .u8 p.src, .int .u8 p.dst, .int .u32 p.num, .int .u8 p.cur, .int .u8 p.flt, .slice ln.a p.know.length ln.i, .int .u32 p.epoch, .slice ln.b p.ents.length ln.j, .int .u8 p.next, .bool p.done, .slice ln.c p.offer.length ln.k] 30) (.cells #[.int .i64 0, .int .u8 0, .int .u8 0, .int .u32 0, .int .u8 0, .int .u8 0, .slice none 0 0, .int .u32 0, .slice none 0 0, .int .u8 0, .bool false, .slice none 0 0] 30))
  have BA := Lib.hid (blk_three w #[.int .u8 r.rep, .int .u8 r.flt, .int .u32 r.epoch, .int .u32 r.seq, .slice lr.a r.know.length lr.i, .slice lr.b r.held.length lr.j, .bool r.ses.on, .int .u32 r.ses.num, .int .u8 r.ses.src, .int .u8 r.ses.cur, .int .u32 r.ses.epoch, .slice lr.c r.ses.offer.length lr.k, .int .u32 r.ses.last] 28 #[.int .i64 p.kind, .int .u8 p.src, .int .u8 p.dst, .int .u32 p.num, .int .u8 p.cur, .int .u8 p.flt, .slice ln.a p.know.length ln.i, .int .u32 p.epoch, .slice ln.b p.ents.length ln.j, .int .u8 p.next, .bool p.done, .slice ln.c p.offer.length ln.k] 30 #[.int .i64 0, .int .u8 0, .int .u8 0, .int .u32 0, .int .u8 0, .int .u8 0, .slice none 0 0, .int .u32 0, .slice none 0 0, .int .u8 0, .bool false, .slice none 0 0] 30)
  generalize ((w.alloc (.cells #[.int .u8 r.rep, .int .u8 r.flt, .int .u32 r.epoch, .int .u32 r.seq, .slice lr.a r.know.length lr.i, .slice lr.b r.held.length lr.j, .bool r.ses.on, .int .u32 r.ses.num, .int .u8 r.ses.src, .int .u8 r.ses.cur, .int .u32 r.ses.epoch, .slice lr.c r.ses.offer.length lr.k, .int .u32 r.ses.last] 28)).alloc (.cells #[.int .i64 p.kind, .int .u8 p.src, .int .u8 p.dst, .int .u32 p.num, .int .u8 p.cur, .int .u8 p.flt, .slice ln.a p.know.length ln.i, .int .u32 p.epoch, .slice ln.b p.ents.length ln.j, .int .u8 p.next, .bool p.done, .slice ln.c p.offer.length ln.k] 30)).alloc (.cells #[.int .i64 0, .int .u8 0, .int .u8 0, .int .u32 0, .int .u8 0, .int .u8 0, .slice none 0 0, .int .u32 0, .slice none 0 0, .int .u8 0, .bool false, .slice none 0 0] 30) = wz at HB BA ⊢
  have BR := Lib.hid BA.out.1
  have BP := Lib.hid BA.out.2.1
  have BZ := Lib.hid BA.out.2.2
  clear BA
  have c0 := BR.out.cell 0 (.int .u8 r.rep) rfl
  have c1 := BR.out.cell 1 (.int .u8 r.flt) rfl
  have c2 := BR.out.cell 2 (.int .u32 r.epoch) rfl
  have c3 := BR.out.cell 3 (.int .u32 r.seq) rfl
  have c4 := BR.out.cell 4 (.slice lr.a r.know.length lr.i) rfl
  have c5 := BR.out.cell 5 (.slice lr.b r.held.length lr.j) rfl
  have c6 := BR.out.cell 6 (.bool r.ses.on) rfl
  have c7 := BR.out.cell 7 (.int .u32 r.ses.num) rfl
  have c8 := BR.out.cell 8 (.int .u8 r.ses.src) rfl
  have c9 := BR.out.cell 9 (.int .u8 r.ses.cur) rfl
  have c10 := BR.out.cell 10 (.int .u32 r.ses.epoch) rfl
  have c11 := BR.out.cell 11 (.slice lr.c r.ses.offer.length lr.k) rfl
  have c12 := BR.out.cell 12 (.int .u32 r.ses.last) rfl
  have d0 := BP.out.cell 0 (.int .i64 p.kind) rfl
  have d1 := BP.out.cell 1 (.int .u8 p.src) rfl
  have d2 := BP.out.cell 2 (.int .u8 p.dst) rfl
  have d3 := BP.out.cell 3 (.int .u32 p.num) rfl
  have d4 := BP.out.cell 4 (.int .u8 p.cur) rfl
  have d5 := BP.out.cell 5 (.int .u8 p.flt) rfl
  have d6 := BP.out.cell 6 (.slice ln.a p.know.length ln.i) rfl
  have d7 := BP.out.cell 7 (.int .u32 p.epoch) rfl
  have d8 := BP.out.cell 8 (.slice ln.b p.ents.length ln.j) rfl
  have d9 := BP.out.cell 9 (.int .u8 p.next) rfl
  have d10 := BP.out.cell 10 (.bool p.done) rfl
  have d11 := BP.out.cell 11 (.slice ln.c p.offer.length ln.k) rfl
  have l1 : w.heap.size < wz.heap.size := BR.out.lt
  have l2 : w.heap.size + 1 < wz.heap.size := BP.out.lt
  go_wp2_with fail
  refine (HRF.out wz HB.out).mono ?_
  rintro e w1 ⟨rfl, hb⟩
  clear c0 c1 c2 c3 c4 c5 c6 c7 c8 c9 c10 c11 c12 d0 d1 d2 d3 d4 d5 d6 d7 d8 d9 d10 d11
  clear l1 l2
  have BR := Lib.hid (BR.out.keep hb)
  have BP := Lib.hid (BP.out.keep hb)
  have BZ := Lib.hid (BZ.out.keep hb)
  have HB := Lib.hid (HB.out.trans (hb.mono HB.out.size)); clear hb
  unfold refV
  have c0 := BR.out.cell 0 (.int .u8 r.rep) rfl
  have c1 := BR.out.cell 1 (.int .u8 r.flt) rfl
  have c2 := BR.out.cell 2 (.int .u32 r.epoch) rfl
  have c3 := BR.out.cell 3 (.int .u32 r.seq) rfl
  have c4 := BR.out.cell 4 (.slice lr.a r.know.length lr.i) rfl
  have c5 := BR.out.cell 5 (.slice lr.b r.held.length lr.j) rfl
  have c6 := BR.out.cell 6 (.bool r.ses.on) rfl
  have c7 := BR.out.cell 7 (.int .u32 r.ses.num) rfl
  have c8 := BR.out.cell 8 (.int .u8 r.ses.src) rfl
  have c9 := BR.out.cell 9 (.int .u8 r.ses.cur) rfl
  have c10 := BR.out.cell 10 (.int .u32 r.ses.epoch) rfl
  have c11 := BR.out.cell 11 (.slice lr.c r.ses.offer.length lr.k) rfl
  have c12 := BR.out.cell 12 (.int .u32 r.ses.last) rfl
  have d0 := BP.out.cell 0 (.int .i64 p.kind) rfl
  have d1 := BP.out.cell 1 (.int .u8 p.src) rfl
  have d2 := BP.out.cell 2 (.int .u8 p.dst) rfl
  have d3 := BP.out.cell 3 (.int .u32 p.num) rfl
  have d4 := BP.out.cell 4 (.int .u8 p.cur) rfl
  have d5 := BP.out.cell 5 (.int .u8 p.flt) rfl
  have d6 := BP.out.cell 6 (.slice ln.a p.know.length ln.i) rfl
  have d7 := BP.out.cell 7 (.int .u32 p.epoch) rfl
  have d8 := BP.out.cell 8 (.slice ln.b p.ents.length ln.j) rfl
  have d9 := BP.out.cell 9 (.int .u8 p.next) rfl
  have d10 := BP.out.cell 10 (.bool p.done) rfl
  have d11 := BP.out.cell 11 (.slice ln.c p.offer.length ln.k) rfl
  have l1 : w.heap.size < w1.heap.size := BR.out.lt
  have l2 : w.heap.size + 1 < w1.heap.size := BP.out.lt
  go_wp2_with fail
  have hb := al1 w1 (.cells #[.int .i64 2, .int .u8 r.rep, .int .u8 p.src, .int .u32 p.num, .int .u8 p.cur, .int .u8 0, .slice none 0 0, .int .u32 r.epoch, .slice none 0 0, .int .u8 0, .bool false, .slice none 0 0] 30)
  have BN := Lib.hid (Blk.new w1 #[.int .i64 2, .int .u8 r.rep, .int .u8 p.src, .int .u32 p.num, .int .u8 p.cur, .int .u8 0, .slice none 0 0, .int .u32 r.epoch, .slice none 0 0, .int .u8 0, .bool false, .slice none 0 0] 30)
  have l3 : w.heap.size + 1 + 1 < w1.heap.size := BZ.out.lt
  have BR := Lib.hid (BR.out.keep hb)
  have BP := Lib.hid (BP.out.keep hb)
  have BZ := Lib.hid (BZ.out.keep hb)
  have HB := Lib.hid (HB.out.trans (hb.mono HB.out.size)); clear hb
  clear c0 c1 c2 c3 c4 c5 c6 c7 c8 c9 c10 c11 c12 d0 d1 d2 d3 d4 d5 d6 d7 d8 d9 d10 d11
  clear l1 l2
  generalize w1.alloc (.cells #[.int .i64 2, .int .u8 r.rep, .int .u8 p.src, .int .u32 p.num, .int .u8 p.cur, .int .u8 0, .slice none 0 0, .int .u32 r.epoch, .slice none 0 0, .int .u8 0, .bool false, .slice none 0 0] 30) = w2 at BN BR BP BZ HB ⊢
  generalize w1.heap.size = gn at BN l3 ⊢
  refine (HTO.out w2 HB.out).mono ?_
  rintro e w3 ⟨A, c, rfl, ho, hb⟩
  have HO := Lib.hid ho; clear ho
  have BR := Lib.hid (BR.out.keep hb)
  have BP := Lib.hid (BP.out.keep hb)
  have BZ := Lib.hid (BZ.out.keep hb)
  have BN := Lib.hid (BN.out.keep hb)
  have HB := Lib.hid (HB.out.trans (hb.mono HB.out.size)); clear hb
  have n0 := BN.out.cell 0 (.int .i64 2) rfl
  have n1 := BN.out.cell 1 (.int .u8 r.rep) rfl
  have n2 := BN.out.cell 2 (.int .u8 p.src) rfl
  have n3 := BN.out.cell 3 (.int .u32 p.num) rfl
  have n4 := BN.out.cell 4 (.int .u8 p.cur) rfl
  have n5 := BN.out.cell 5 (.int .u8 0) rfl
  have n6 := BN.out.cell 6 (.slice none 0 0) rfl
  have n7 := BN.out.cell 7 (.int .u32 r.epoch) rfl
  have n8 := BN.out.cell 8 (.slice none 0 0) rfl
  have n9 := BN.out.cell 9 (.int .u8 0) rfl
  have n10 := BN.out.cell 10 (.bool false) rfl
  have n11 := BN.out.cell 11 (.slice none 0 0) rfl
  have f8 := BN.out.free 8
  have f10 := BN.out.free 10
  go_wp2_with fail
  have BNo := Lib.hid BN.out
  have BN := Lib.hid (show Blk ((w3.setCell ⟨gn, 8, none⟩ (.slice A L.length c)).setCell ⟨gn, 10, none⟩ (.bool d)) gn #[.int .i64 2, .int .u8 r.rep, .int .u8 p.src, .int .u32 p.num, .int .u8 p.cur, .int .u8 0, .slice none 0 0, .int .u32 r.epoch, .slice A L.length c, .int .u8 0, .bool d, .slice none 0 0] 30 from (BN.out.put 8 (.slice A L.length c)).put 10 (.bool d))
  have HO2 := Lib.hid ((HO.out.setBlk (BNo.out) (by decide) 8 (.slice A L.length c)).setBlk (BNo.out.put 8 (.slice A L.length c)) (by decide) 10 (.bool d))
  have BR := Lib.hid ((BR.out.setOther (k := gn) (by omega) 8 (.slice A L.length c)).setOther (k := gn) (by omega) 10 (.bool d))
  have BP := Lib.hid ((BP.out.setOther (k := gn) (by omega) 8 (.slice A L.length c)).setOther (k := gn) (by omega) 10 (.bool d))
  have BZ := Lib.hid ((BZ.out.setOther (k := gn) (by omega) 8 (.slice A L.length c)).setOther (k := gn) (by omega) 10 (.bool d))
  have HB := Lib.hid ((HB.out.setCell (p := ⟨gn, 8, none⟩) (by simp; omega) (.slice A L.length c)).setCell (p := ⟨gn, 10, none⟩) (by simp; omega) (.bool d))
  clear BNo HO
  clear n0 n1 n2 n3 n4 n5 n6 n7 n8 n9 n10 n11
  clear f8 f10
  generalize (w3.setCell ⟨gn, 8, none⟩ (.slice A L.length c)).setCell ⟨gn, 10, none⟩ (.bool d) = w4 at BN HO2 BR BP BZ HB ⊢
  refine (HNX.out w4 A c (HO2.out.sl HLO2.out)).mono ?_
  rintro e w5 ⟨rfl, hb⟩
  have HEL := Lib.hid ((HO2.out.sl HLO2.out).later hb)
  clear HO2
  have BR := Lib.hid (BR.out.keep hb)
  have BP := Lib.hid (BP.out.keep hb)
  have BZ := Lib.hid (BZ.out.keep hb)
  have BN := Lib.hid (BN.out.keep hb)
  have HB := Lib.hid (HB.out.trans (hb.mono HB.out.size)); clear hb
  have n0 := BN.out.cell 0 (.int .i64 2) rfl
  have n1 := BN.out.cell 1 (.int .u8 r.rep) rfl
  have n2 := BN.out.cell 2 (.int .u8 p.src) rfl
  have n3 := BN.out.cell 3 (.int .u32 p.num) rfl
  have n4 := BN.out.cell 4 (.int .u8 p.cur) rfl
  have n5 := BN.out.cell 5 (.int .u8 0) rfl
  have n6 := BN.out.cell 6 (.slice none 0 0) rfl
  have n7 := BN.out.cell 7 (.int .u32 r.epoch) rfl
  have n8 := BN.out.cell 8 (.slice A L.length c) rfl
  have n9 := BN.out.cell 9 (.int .u8 0) rfl
  have n10 := BN.out.cell 10 (.bool d) rfl
  have n11 := BN.out.cell 11 (.slice none 0 0) rfl
  have d0 := BP.out.cell 0 (.int .i64 p.kind) rfl
  have d1 := BP.out.cell 1 (.int .u8 p.src) rfl
  have d2 := BP.out.cell 2 (.int .u8 p.dst) rfl
  have d3 := BP.out.cell 3 (.int .u32 p.num) rfl
  have d4 := BP.out.cell 4 (.int .u8 p.cur) rfl
  have d5 := BP.out.cell 5 (.int .u8 p.flt) rfl
  have d6 := BP.out.cell 6 (.slice ln.a p.know.length ln.i) rfl
  have d7 := BP.out.cell 7 (.int .u32 p.epoch) rfl
  have d8 := BP.out.cell 8 (.slice ln.b p.ents.length ln.j) rfl
  have d9 := BP.out.cell 9 (.int .u8 p.next) rfl
  have d10 := BP.out.cell 10 (.bool p.done) rfl
  have d11 := BP.out.cell 11 (.slice ln.c p.offer.length ln.k) rfl
  have c0 := BR.out.cell 0 (.int .u8 r.rep) rfl
  have c1 := BR.out.cell 1 (.int .u8 r.flt) rfl
  have c2 := BR.out.cell 2 (.int .u32 r.epoch) rfl
  have c3 := BR.out.cell 3 (.int .u32 r.seq) rfl
  have c4 := BR.out.cell 4 (.slice lr.a r.know.length lr.i) rfl
  have c5 := BR.out.cell 5 (.slice lr.b r.held.length lr.j) rfl
  have c6 := BR.out.cell 6 (.bool r.ses.on) rfl
  have c7 := BR.out.cell 7 (.int .u32 r.ses.num) rfl
  have c8 := BR.out.cell 8 (.int .u8 r.ses.src) rfl
  have c9 := BR.out.cell 9 (.int .u8 r.ses.cur) rfl
  have c10 := BR.out.cell 10 (.int .u32 r.ses.epoch) rfl
  have c11 := BR.out.cell 11 (.slice lr.c r.ses.offer.length lr.k) rfl
  have c12 := BR.out.cell 12 (.int .u32 r.ses.last) rfl
  have l1 : w.heap.size < w5.heap.size := BR.out.lt
  have l2 : w.heap.size + 1 < w5.heap.size := BP.out.lt
  have l4 : gn < w5.heap.size := BN.out.lt
  have f9 := BN.out.free 9
  have BN2 := Lib.hid (show Blk (w5.setCell ⟨gn, 9, none⟩ (.int .u8 nx)) gn #[.int .i64 2, .int .u8 r.rep, .int .u8 p.src, .int .u32 p.num, .int .u8 p.cur, .int .u8 0, .slice none 0 0, .int .u32 r.epoch, .slice A L.length c, .int .u8 nx, .bool d, .slice none 0 0] 30 from BN.out.put 9 (.int .u8 nx))
  have BR2 := Lib.hid (BR.out.setOther (k := gn) (by omega) 9 (.int .u8 nx))
  have BP2 := Lib.hid (BP.out.setOther (k := gn) (by omega) 9 (.int .u8 nx))
  have BZ2 := Lib.hid (BZ.out.setOther (k := gn) (by omega) 9 (.int .u8 nx))
  have HB2 := Lib.hid (HB.out.setCell (p := ⟨gn, 9, none⟩) (by simp; omega) (.int .u8 nx))
  have HEL2 := Lib.hid (show ESl (w5.setCell ⟨gn, 9, none⟩ (.int .u8 nx)) (w5.setCell ⟨gn, 9, none⟩ (.int .u8 nx)).heap.size (.slice A L.length c) L from (HEL.out.noteCell (nrow BN.out)).more (by simp))
  have hne1 : w.heap.size ≠ gn := by omega
  have hne2 : w.heap.size + 1 ≠ gn := by omega
  have hgw : w.heap.size ≤ gn := by omega
  have hne3 := Lib.hid (show w.heap.size + 1 + 1 ≠ gn by omega)
  clear l3
  have hcq : (p.cur == 0) = true := by simpa using HC.out
  go_wp2_with fail
  clear n0 n1 n2 n3 n4 n5 n6 n7 n8 n9 n10 n11 c0 c1 c2 c3 c4 c5 c6 c7 c8 c9 c10 c11 c12 d0 d1 d2 d3 d4 d5 d6 d7 d8 d9 d10 d11
  clear l1 l2 l4 f9 hcq BN BR BP BZ HB HEL
  generalize w5.setCell ⟨gn, 9, none⟩ (.int .u8 nx) = w6 at BN2 BR2 BP2 BZ2 HB2 HEL2 ⊢
  refine (HOF.out w6 HB2.out).mono ?_
  cases D with
  | error cc =>
    rintro e w7 ⟨rfl, hb⟩
    have BM3 := Lib.hid (BN2.out.keep hb)
    have BZ3 := Lib.hid (BZ2.out.keep hb)
    have HB3 := Lib.hid (HB2.out.trans (hb.mono HB2.out.size)); clear hb
    have n11 := BM3.out.cell 11 (.slice none 0 0) rfl
    have f11 := BM3.out.free 11
    have BZ4 := Lib.hid (BZ3.out.setOther (k := gn) (fun e => hne3.out e) 11 (.slice none 0 0))
    go_wp2_with (refine wpList_store_row rfl _ _ _ rfl (w.heap.size + 1 + 1) #[.int .i64 0, .int .u8 0, .int .u8 0, .int .u32 0, .int .u8 0, .int .u8 0, .slice none 0 0, .int .u32 0, .slice none 0 0, .int .u8 0, .bool false, .slice none 0 0] rfl rfl 30 _ BZ4.out.at_ note_size rfl (by simp [Value.oneCell']) ?_)
    refine bodyPost_ret (v := .tuple #[.agg #[.int .i64 0, .int .u8 0, .int .u8 0, .int .u32 0, .int .u8 0, .int .u8 0, .slice none 0 0, .int .u32 0, .slice none 0 0, .int .u8 0, .bool false, .slice none 0 0], .iface 60 (.int .i64 cc)]) (results_cell_row1 Try.results7 _ _ (w.heap.size + 1 + 1) 30 #[.int .i64 0, .int .u8 0, .int .u8 0, .int .u32 0, .int .u8 0, .int .u8 0, .slice none 0 0, .int .u32 0, .slice none 0 0, .int .u8 0, .bool false, .slice none 0 0] (0, 0) _ rfl (BZ4.out.row _).at_ Try.underlying30 rfl note_size) rfl ?_
    exact ⟨_, _, rfl, below_setRow (HB3.out.setCell (p := ⟨gn, 11, none⟩) (by simp; omega) _) (Nat.le_trans (Nat.le_succ w.heap.size) (Nat.le_succ _)) _⟩
  | ok o =>
    rintro e w7 ⟨v7, rfl, hv7, hb⟩
    have HS7 := Lib.hid hv7
    obtain ⟨Ao, co, rfl, _⟩ := hv7
    have BM3 := Lib.hid (BN2.out.keep hb)
    have BZ3 := Lib.hid (BZ2.out.keep hb)
    have HE3 := Lib.hid (HEL2.out.later hb)
    have HB3 := Lib.hid (HB2.out.trans (hb.mono HB2.out.size)); clear hb
    have n0 := BM3.out.cell 0 (.int .i64 2) rfl
    have n1 := BM3.out.cell 1 (.int .u8 r.rep) rfl
    have n2 := BM3.out.cell 2 (.int .u8 p.src) rfl
    have n3 := BM3.out.cell 3 (.int .u32 p.num) rfl
    have n4 := BM3.out.cell 4 (.int .u8 p.cur) rfl
    have n5 := BM3.out.cell 5 (.int .u8 0) rfl
    have n6 := BM3.out.cell 6 (.slice none 0 0) rfl
    have n7 := BM3.out.cell 7 (.int .u32 r.epoch) rfl
    have n8 := BM3.out.cell 8 (.slice A L.length c) rfl
    have n9 := BM3.out.cell 9 (.int .u8 nx) rfl
    have n10 := BM3.out.cell 10 (.bool d) rfl
    have n11 := BM3.out.cell 11 (.slice none 0 0) rfl
    have f11 := BM3.out.free 11
    have l5 : gn < w7.heap.size := BM3.out.lt
    have BZ4 := Lib.hid (BZ3.out.setOther (k := gn) (fun e => hne3.out e) 11 (.slice Ao o.length co))
    go_wp2_with (refine wpList_store_row rfl _ _ _ rfl (w.heap.size + 1 + 1) #[.int .i64 2, .int .u8 r.rep, .int .u8 p.src, .int .u32 p.num, .int .u8 p.cur, .int .u8 0, .slice none 0 0, .int .u32 r.epoch, .slice A L.length c, .int .u8 nx, .bool d, .slice Ao o.length co] rfl rfl 30 _ BZ4.out.at_ note_size rfl (by simp [Value.oneCell']) ?_)
    refine bodyPost_ret (v := .tuple #[.agg #[.int .i64 2, .int .u8 r.rep, .int .u8 p.src, .int .u32 p.num, .int .u8 p.cur, .int .u8 0, .slice none 0 0, .int .u32 r.epoch, .slice A L.length c, .int .u8 nx, .bool d, .slice Ao o.length co], .nilIface]) (results_cell_row1 Try.results7 _ _ (w.heap.size + 1 + 1) 30 #[.int .i64 2, .int .u8 r.rep, .int .u8 p.src, .int .u32 p.num, .int .u8 p.cur, .int .u8 0, .slice none 0 0, .int .u32 r.epoch, .slice A L.length c, .int .u8 nx, .bool d, .slice Ao o.length co] (0, 0) _ rfl (BZ4.out.row _).at_ Try.underlying30 rfl note_size) rfl ?_
    show AnsPost w (.ok (answerN r p (dueL r.held p.know p.cur) o)) _ _
    rw [HAN.out]
    have hso := HS7.out
    refine ⟨_, rfl, ⟨_, _, _, rfl, Sl.nil _ _, ?_, ?_, HOK.out o (by obtain ⟨_, _, _, _, h, _⟩ := hso; exact h)⟩, below_setRow (HB3.out.setCell (p := ⟨gn, 11, none⟩) (by simp; omega) _) (Nat.le_trans (Nat.le_succ w.heap.size) (Nat.le_succ _)) _⟩
    · exact ((HE3.out.noteCell (nrow BM3.out)).note (zrow BZ4.out) _).more (by simp [World.setRow])
    · exact ((hso.noteCell (nrow BM3.out)).note (zrow BZ4.out) _).more (by simp [World.setRow])
end Go.Proofs.Ytfjaeohfigcciab

