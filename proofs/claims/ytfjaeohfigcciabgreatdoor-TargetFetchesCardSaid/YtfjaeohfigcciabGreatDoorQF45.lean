/- Texts in one: TFetchC. -/
import Derived.Test.YtfjaeohfigcciabGreatDoorQF44
set_option linter.unusedVariables false
set_option linter.unusedSimpArgs false
set_option linter.unusedSectionVars false
set_option linter.unnecessarySimpa false
namespace Go.Proofs.YtfjaeohfigcciabGreatDoor
open Go.RowKit

theorem cut10 {a0 a1 a2 a3 a4 a5 a6 a7 a8 a9 c : Code} (h : Tryz.f5.body = some (.seq a0 (.seq a1 (.seq a2 (.seq a3 (.seq a4 (.seq a5 (.seq a6 (.seq a7 (.seq a8 (.seq a9 c))))))))))) :
    Tryz.f5.body = some (.seq a0 (.seq a1 (.seq a2 (.seq a3 (.seq a4 (.seq a5 (.seq a6 (.seq a7 (.seq a8 (.seq a9 fetchRest)))))))))) := by
  have e : fetchRest = c := snd10 h
  rw [e]
  exact h

set_option maxHeartbeats 32000000 in
set_option maxRecDepth 100000 in
theorem fetch_go (v u : Value) (r s : Rp) (w : World) (hv : RpV w w.heap.size v r) (hu : RpV w w.heap.size u s) (hg : ErrVar w) (haw : AwakeSaidE 6) (hbe : BeginSaid 14) (hdu : DueSaid 24) (han : AnswerIs 25) (hac : AcceptSaid 9) (h1 : shortR r) (h2 : shortR s) (h3 : rpB r = true) (h4 : rpB s = true) (h5 : r.rep ≠ s.rep) (hl : r.ses.last ≠ 4294967295) :
    Calls Tryz.prog 5 #[v, u] w fun e w' => e = .returned (.bool true) ∧ Below w.heap.size w w' := by
  have hne : (r.rep == s.rep) = false := by simpa using h5
  have AW := Lib.hid (fun w1 (hb : Below w.heap.size w w1) => haw w1 (hg.later hb))
  have S1 := Lib.hid (fun w1 (hb : Below w.heap.size w w1) => by have := q5Short_any v r w1 (hv.later hb); rw [decide_eq_true (show r.know.length ≤ 300 ∧ r.held.length ≤ 300 ∧ r.ses.offer.length ≤ 300 from h1)] at this; exact this)
  have S2 := Lib.hid (fun w1 (hb : Below w.heap.size w w1) => by have := q5Short_any u s w1 (hu.later hb); rw [decide_eq_true (show s.know.length ≤ 300 ∧ s.held.length ≤ 300 ∧ s.ses.offer.length ≤ 300 from h2)] at this; exact this)
  have R3 := Lib.hid (fun w1 (hb : Below w.heap.size w w1) => by have := q5Right_any v r w1 (hv.later hb) (Nat.le_trans h1.1 (by decide)) (Nat.le_trans h1.2.1 (by decide)) (Nat.le_trans h1.2.2 (by decide)); rw [h3] at this; exact this)
  have R4 := Lib.hid (fun w1 (hb : Below w.heap.size w w1) => by have := q5Right_any u s w1 (hu.later hb) (Nat.le_trans h2.1 (by decide)) (Nat.le_trans h2.2.1 (by decide)) (Nat.le_trans h2.2.2 (by decide)); rw [h4] at this; exact this)
  have ROK := Lib.hid hv.okR
  have SOK := Lib.hid hu.okR
  have hbb : beginR r s.rep = (beginP r s.rep, pullP (beginP r s.rep), 0) := by
    unfold beginR
    rw [if_neg (by have := (rp_parts h4).1; simp [h3]; constructor; omega; exact fun h => h5 h.symm)]
    rw [if_neg hl]
  have BE := Lib.hid (fun w1 (hb : Below w.heap.size w w1) => by have := hbe v s.rep r w1 (hg.later hb) (hv.later hb) hu.okR.1 h1; rw [hbb] at this; exact this)
  have HGL := Lib.hid (fun w1 (hb : Below w.heap.size w w1) => hg.later hb)
  clear hbb haw hbe hl
  have H1 := Lib.hid h1
  have H2 := Lib.hid h2
  have H3 := Lib.hid h3
  have H4 := Lib.hid h4
  have H5 := Lib.hid h5
  have UV := Lib.hid hu
  clear h1 h2 h3 h4 h5 hg
  obtain ⟨lr, rfl⟩ := hv.rows
  obtain ⟨ls, rfl⟩ := hu.rows
  clear hv hu
  unfold repR repRow Rp.cells at S1 S2 R3 R4 BE ⊢
  refine calls_of_wp Tryz.func5 (cut10 rfl) ?_
  simp only [Tryz.ntmps5, List.size_toArray, List.length_cons, List.length_nil, Nat.reduceAdd, Nat.reduceSub, Array.replicate_succ, Array.replicate_zero, List.push_toArray, List.append_toArray, List.nil_append, List.cons_append]
  go_wp2_with fail
  have HB := Lib.hid (al2 w (.cells #[.int .u8 r.rep, .int .u8 r.flt, .int .u32 r.epoch, .int .u32 r.seq, .slice lr.a r.know.length lr.i, .slice lr.b r.held.length lr.j, .bool r.ses.on, .int .u32 r.ses.num, .int .u8 r.ses.src, .int .u8 r.ses.cur, .int .u32 r.ses.epoch, .slice lr.c r.ses.offer.length lr.k, .int .u32 r.ses.last] 28) (.cells #[.int .u8 s.rep, .int .u8 s.flt, .int .u32 s.epoch, .int .u32 s.seq, .slice ls.a s.know.length ls.i, .slice ls.b s.held.length ls.j, .bool s.ses.on, .int .u32 s.ses.num, .int .u8 s.ses.src, .int .u8 s.ses.cur, .int .u32 s.ses.epoch, .slice ls.c s.ses.offer.length ls.k, .int .u32 s.ses.last] 28))
  have BR := Lib.hid ((Blk.new w #[.int .u8 r.rep, .int .u8 r.flt, .int .u32 r.epoch, .int .u32 r.seq, .slice lr.a r.know.length lr.i, .slice lr.b r.held.length lr.j, .bool r.ses.on, .int .u32 r.ses.num, .int .u8 r.ses.src, .int .u8 r.ses.cur, .int .u32 r.ses.epoch, .slice lr.c r.ses.offer.length lr.k, .int .u32 r.ses.last] 28).alloc (.cells #[.int .u8 s.rep, .int .u8 s.flt, .int .u32 s.epoch, .int .u32 s.seq, .slice ls.a s.know.length ls.i, .slice ls.b s.held.length ls.j, .bool s.ses.on, .int .u32 s.ses.num, .int .u8 s.ses.src, .int .u8 s.ses.cur, .int .u32 s.ses.epoch, .slice ls.c s.ses.offer.length ls.k, .int .u32 s.ses.last] 28))
  have BS := Lib.hid (blk_two w (.cells #[.int .u8 r.rep, .int .u8 r.flt, .int .u32 r.epoch, .int .u32 r.seq, .slice lr.a r.know.length lr.i, .slice lr.b r.held.length lr.j, .bool r.ses.on, .int .u32 r.ses.num, .int .u8 r.ses.src, .int .u8 r.ses.cur, .int .u32 r.ses.epoch, .slice lr.c r.ses.offer.length lr.k, .int .u32 r.ses.last] 28) #[.int .u8 s.rep, .int .u8 s.flt, .int .u32 s.epoch, .int .u32 s.seq, .slice ls.a s.know.length ls.i, .slice ls.b s.held.length ls.j, .bool s.ses.on, .int .u32 s.ses.num, .int .u8 s.ses.src, .int .u8 s.ses.cur, .int .u32 s.ses.epoch, .slice ls.c s.ses.offer.length ls.k, .int .u32 s.ses.last] 28)
  generalize (w.alloc (.cells #[.int .u8 r.rep, .int .u8 r.flt, .int .u32 r.epoch, .int .u32 r.seq, .slice lr.a r.know.length lr.i, .slice lr.b r.held.length lr.j, .bool r.ses.on, .int .u32 r.ses.num, .int .u8 r.ses.src, .int .u8 r.ses.cur, .int .u32 r.ses.epoch, .slice lr.c r.ses.offer.length lr.k, .int .u32 r.ses.last] 28)).alloc (.cells #[.int .u8 s.rep, .int .u8 s.flt, .int .u32 s.epoch, .int .u32 s.seq, .slice ls.a s.know.length ls.i, .slice ls.b s.held.length ls.j, .bool s.ses.on, .int .u32 s.ses.num, .int .u8 s.ses.src, .int .u8 s.ses.cur, .int .u32 s.ses.epoch, .slice ls.c s.ses.offer.length ls.k, .int .u32 s.ses.last] 28) = wz at HB BR BS ⊢
  refine (AW.out wz HB.out).mono ?_
  rintro e w1 ⟨rfl, hb⟩
  have BR := Lib.hid (BR.out.keep hb)
  have BS := Lib.hid (BS.out.keep hb)
  have HB := Lib.hid (HB.out.trans (hb.mono HB.out.size)); clear hb
  have c0 := BR.out.cell 0 (.int .u8 r.rep) rfl
  have c1 := BR.out.cell 1 (.int .u8 r.flt) rfl
  have c2 := BR.out.cell 2 (.int .u32 r.epoch) rfl
  have c3 := BR.out.cell 3 (.int .u32 r.seq) rfl
  have c4 := BR.out.cell 4 (.slice lr.a r.know.length lr.i) rfl
  have c5 := BR.out.cell 5 (.slice lr.b r.held.length lr.j) rfl
  have c6 := BR.out.cell 6 (.bool r.ses.on) rfl
  have c7 := BR.out.cell 7 (.int .u32 r.ses.num) rfl
  have c8 := BR.out.cell 8 (.int .u8 r.ses.src) rfl
  have c9 := BR.out.cell 9 (.int .u8 r.ses.cur) rfl
  have c10 := BR.out.cell 10 (.int .u32 r.ses.epoch) rfl
  have c11 := BR.out.cell 11 (.slice lr.c r.ses.offer.length lr.k) rfl
  have c12 := BR.out.cell 12 (.int .u32 r.ses.last) rfl
  go_wp2_with fail
  refine (S1.out w1 HB.out).mono ?_
  rintro e w2 ⟨rfl, hb⟩
  clear c0 c1 c2 c3 c4 c5 c6 c7 c8 c9 c10 c11 c12
  have BR := Lib.hid (BR.out.keep hb)
  have BS := Lib.hid (BS.out.keep hb)
  have HB := Lib.hid (HB.out.trans (hb.mono HB.out.size)); clear hb
  have d0 := BS.out.cell 0 (.int .u8 s.rep) rfl
  have d1 := BS.out.cell 1 (.int .u8 s.flt) rfl
  have d2 := BS.out.cell 2 (.int .u32 s.epoch) rfl
  have d3 := BS.out.cell 3 (.int .u32 s.seq) rfl
  have d4 := BS.out.cell 4 (.slice ls.a s.know.length ls.i) rfl
  have d5 := BS.out.cell 5 (.slice ls.b s.held.length ls.j) rfl
  have d6 := BS.out.cell 6 (.bool s.ses.on) rfl
  have d7 := BS.out.cell 7 (.int .u32 s.ses.num) rfl
  have d8 := BS.out.cell 8 (.int .u8 s.ses.src) rfl
  have d9 := BS.out.cell 9 (.int .u8 s.ses.cur) rfl
  have d10 := BS.out.cell 10 (.int .u32 s.ses.epoch) rfl
  have d11 := BS.out.cell 11 (.slice ls.c s.ses.offer.length ls.k) rfl
  have d12 := BS.out.cell 12 (.int .u32 s.ses.last) rfl
  go_wp2_with fail
  refine (S2.out w2 HB.out).mono ?_
  rintro e w3 ⟨rfl, hb⟩
  clear d0 d1 d2 d3 d4 d5 d6 d7 d8 d9 d10 d11 d12
  have BR := Lib.hid (BR.out.keep hb)
  have BS := Lib.hid (BS.out.keep hb)
  have HB := Lib.hid (HB.out.trans (hb.mono HB.out.size)); clear hb
  have c0 := BR.out.cell 0 (.int .u8 r.rep) rfl
  have c1 := BR.out.cell 1 (.int .u8 r.flt) rfl
  have c2 := BR.out.cell 2 (.int .u32 r.epoch) rfl
  have c3 := BR.out.cell 3 (.int .u32 r.seq) rfl
  have c4 := BR.out.cell 4 (.slice lr.a r.know.length lr.i) rfl
  have c5 := BR.out.cell 5 (.slice lr.b r.held.length lr.j) rfl
  have c6 := BR.out.cell 6 (.bool r.ses.on) rfl
  have c7 := BR.out.cell 7 (.int .u32 r.ses.num) rfl
  have c8 := BR.out.cell 8 (.int .u8 r.ses.src) rfl
  have c9 := BR.out.cell 9 (.int .u8 r.ses.cur) rfl
  have c10 := BR.out.cell 10 (.int .u32 r.ses.epoch) rfl
  have c11 := BR.out.cell 11 (.slice lr.c r.ses.offer.length lr.k) rfl
  have c12 := BR.out.cell 12 (.int .u32 r.ses.last) rfl
  go_wp2_with fail
  refine (R3.out w3 HB.out).mono ?_
  rintro e w4 ⟨rfl, hb⟩
  clear c0 c1 c2 c3 c4 c5 c6 c7 c8 c9 c10 c11 c12
  have BR := Lib.hid (BR.out.keep hb)
  have BS := Lib.hid (BS.out.keep hb)
  have HB := Lib.hid (HB.out.trans (hb.mono HB.out.size)); clear hb
  have d0 := BS.out.cell 0 (.int .u8 s.rep) rfl
  have d1 := BS.out.cell 1 (.int .u8 s.flt) rfl
  have d2 := BS.out.cell 2 (.int .u32 s.epoch) rfl
  have d3 := BS.out.cell 3 (.int .u32 s.seq) rfl
  have d4 := BS.out.cell 4 (.slice ls.a s.know.length ls.i) rfl
  have d5 := BS.out.cell 5 (.slice ls.b s.held.length ls.j) rfl
  have d6 := BS.out.cell 6 (.bool s.ses.on) rfl
  have d7 := BS.out.cell 7 (.int .u32 s.ses.num) rfl
  have d8 := BS.out.cell 8 (.int .u8 s.ses.src) rfl
  have d9 := BS.out.cell 9 (.int .u8 s.ses.cur) rfl
  have d10 := BS.out.cell 10 (.int .u32 s.ses.epoch) rfl
  have d11 := BS.out.cell 11 (.slice ls.c s.ses.offer.length ls.k) rfl
  have d12 := BS.out.cell 12 (.int .u32 s.ses.last) rfl
  go_wp2_with fail
  refine (R4.out w4 HB.out).mono ?_
  rintro e w5 ⟨rfl, hb⟩
  clear d0 d1 d2 d3 d4 d5 d6 d7 d8 d9 d10 d11 d12
  have BR := Lib.hid (BR.out.keep hb)
  have BS := Lib.hid (BS.out.keep hb)
  have HB := Lib.hid (HB.out.trans (hb.mono HB.out.size)); clear hb
  have c0 := BR.out.cell 0 (.int .u8 r.rep) rfl
  have c1 := BR.out.cell 1 (.int .u8 r.flt) rfl
  have c2 := BR.out.cell 2 (.int .u32 r.epoch) rfl
  have c3 := BR.out.cell 3 (.int .u32 r.seq) rfl
  have c4 := BR.out.cell 4 (.slice lr.a r.know.length lr.i) rfl
  have c5 := BR.out.cell 5 (.slice lr.b r.held.length lr.j) rfl
  have c6 := BR.out.cell 6 (.bool r.ses.on) rfl
  have c7 := BR.out.cell 7 (.int .u32 r.ses.num) rfl
  have c8 := BR.out.cell 8 (.int .u8 r.ses.src) rfl
  have c9 := BR.out.cell 9 (.int .u8 r.ses.cur) rfl
  have c10 := BR.out.cell 10 (.int .u32 r.ses.epoch) rfl
  have c11 := BR.out.cell 11 (.slice lr.c r.ses.offer.length lr.k) rfl
  have c12 := BR.out.cell 12 (.int .u32 r.ses.last) rfl
  have d0 := BS.out.cell 0 (.int .u8 s.rep) rfl
  go_wp2_with fail
  refine (BE.out w5 HB.out).mono ?_
  rintro e w6 ⟨v1, v2, ev, rfl, hx, hy, he, hb⟩
  clear c0 c1 c2 c3 c4 c5 c6 c7 c8 c9 c10 c11 c12
  clear d0
  have BR := Lib.hid (BR.out.keep hb)
  have BS := Lib.hid (BS.out.keep hb)
  have HB := Lib.hid (HB.out.trans (hb.mono HB.out.size)); clear hb
  obtain rfl : ev = .nilIface := by
    rcases he.1 with h | h
    · exact h.2
    · exact absurd rfl h.1
  clear he
  have hfl : (beginP r s.rep).flt = r.flt ∧ (beginP r s.rep).epoch = r.epoch ∧ (beginP r s.rep).seq = r.seq := ⟨rfl, rfl, rfl⟩
  have hgo := going_start H3.out H4.out ROK.out
  have hdd : dueR s (pullP (beginP r s.rep)) = .ok (dueAll r s) := going_due H3.out H4.out H5.out hgo
  obtain ⟨x, hxx⟩ : ∃ x, beginP r s.rep = x := ⟨_, rfl⟩
  rw [hxx] at hx hy hgo hdd hfl
  clear hxx
  obtain ⟨y, hyy⟩ : ∃ y, pullP x = y := ⟨_, rfl⟩
  have hys : shortN y := by rw [← hyy]; exact ⟨Nat.le_trans ((right_iff _).1 hgo.know).1 (by decide), Nat.zero_le _, Nat.zero_le _⟩
  rw [hyy] at hy hdd
  obtain ⟨lx, rfl⟩ := hx.rows
  obtain ⟨ly, rfl⟩ := hy.rows
  have HX := Lib.hid hx
  have HY := Lib.hid hy
  have HGO := Lib.hid hgo
  have HPL := Lib.hid hyy
  have HFL := Lib.hid hfl
  have HYS := Lib.hid hys
  have HDD := Lib.hid hdd
  clear hx hy hgo hyy hfl hys hdd
  unfold repR repRow Rp.cells
  unfold noteR noteRow Nt.cells
  have hgw : w.heap.size + 1 < w6.heap.size := BS.out.lt
  have hgw0 : w.heap.size < w6.heap.size := Nat.lt_of_succ_lt hgw
  have d0 := BS.out.cell 0 (.int .u8 s.rep) rfl
  have d1 := BS.out.cell 1 (.int .u8 s.flt) rfl
  have d2 := BS.out.cell 2 (.int .u32 s.epoch) rfl
  have d3 := BS.out.cell 3 (.int .u32 s.seq) rfl
  have d4 := BS.out.cell 4 (.slice ls.a s.know.length ls.i) rfl
  have d5 := BS.out.cell 5 (.slice ls.b s.held.length ls.j) rfl
  have d6 := BS.out.cell 6 (.bool s.ses.on) rfl
  have d7 := BS.out.cell 7 (.int .u32 s.ses.num) rfl
  have d8 := BS.out.cell 8 (.int .u8 s.ses.src) rfl
  have d9 := BS.out.cell 9 (.int .u8 s.ses.cur) rfl
  have d10 := BS.out.cell 10 (.int .u32 s.ses.epoch) rfl
  have d11 := BS.out.cell 11 (.slice ls.c s.ses.offer.length ls.k) rfl
  have d12 := BS.out.cell 12 (.int .u32 s.ses.last) rfl
  go_wp2_with fail
  have HAL := Lib.hid (al2 w6 (.cells #[.int .u8 x.rep, .int .u8 x.flt, .int .u32 x.epoch, .int .u32 x.seq, .slice lx.a x.know.length lx.i, .slice lx.b x.held.length lx.j, .bool x.ses.on, .int .u32 x.ses.num, .int .u8 x.ses.src, .int .u8 x.ses.cur, .int .u32 x.ses.epoch, .slice lx.c x.ses.offer.length lx.k, .int .u32 x.ses.last] 28) (.cells #[.int .i64 y.kind, .int .u8 y.src, .int .u8 y.dst, .int .u32 y.num, .int .u8 y.cur, .int .u8 y.flt, .slice ly.a y.know.length ly.i, .int .u32 y.epoch, .slice ly.b y.ents.length ly.j, .int .u8 y.next, .bool y.done, .slice ly.c y.offer.length ly.k] 30))
  have B5 := Lib.hid ((Blk.new w6 #[.int .u8 x.rep, .int .u8 x.flt, .int .u32 x.epoch, .int .u32 x.seq, .slice lx.a x.know.length lx.i, .slice lx.b x.held.length lx.j, .bool x.ses.on, .int .u32 x.ses.num, .int .u8 x.ses.src, .int .u8 x.ses.cur, .int .u32 x.ses.epoch, .slice lx.c x.ses.offer.length lx.k, .int .u32 x.ses.last] 28).alloc (.cells #[.int .i64 y.kind, .int .u8 y.src, .int .u8 y.dst, .int .u32 y.num, .int .u8 y.cur, .int .u8 y.flt, .slice ly.a y.know.length ly.i, .int .u32 y.epoch, .slice ly.b y.ents.length ly.j, .int .u8 y.next, .bool y.done, .slice ly.c y.offer.length ly.k] 30))
  have B6 := Lib.hid (blk_two w6 (.cells #[.int .u8 x.rep, .int .u8 x.flt, .int .u32 x.epoch, .int .u32 x.seq, .slice lx.a x.know.length lx.i, .slice lx.b x.held.length lx.j, .bool x.ses.on, .int .u32 x.ses.num, .int .u8 x.ses.src, .int .u8 x.ses.cur, .int .u32 x.ses.epoch, .slice lx.c x.ses.offer.length lx.k, .int .u32 x.ses.last] 28) #[.int .i64 y.kind, .int .u8 y.src, .int .u8 y.dst, .int .u32 y.num, .int .u8 y.cur, .int .u8 y.flt, .slice ly.a y.know.length ly.i, .int .u32 y.epoch, .slice ly.b y.ents.length ly.j, .int .u8 y.next, .bool y.done, .slice ly.c y.offer.length ly.k] 30)
  generalize (w6.alloc (.cells #[.int .u8 x.rep, .int .u8 x.flt, .int .u32 x.epoch, .int .u32 x.seq, .slice lx.a x.know.length lx.i, .slice lx.b x.held.length lx.j, .bool x.ses.on, .int .u32 x.ses.num, .int .u8 x.ses.src, .int .u8 x.ses.cur, .int .u32 x.ses.epoch, .slice lx.c x.ses.offer.length lx.k, .int .u32 x.ses.last] 28)).alloc (.cells #[.int .i64 y.kind, .int .u8 y.src, .int .u8 y.dst, .int .u32 y.num, .int .u8 y.cur, .int .u8 y.flt, .slice ly.a y.know.length ly.i, .int .u32 y.epoch, .slice ly.b y.ents.length ly.j, .int .u8 y.next, .bool y.done, .slice ly.c y.offer.length ly.k] 30) = w7 at HAL B5 B6 ⊢
  have B5X := Lib.hid (RpIn.new (x := x) (l := lx) B5.out HX.out HAL.out)
  have B6Y := Lib.hid (NtIn.new (x := y) (l := ly) B6.out HY.out HAL.out)
  have BSX := Lib.hid (⟨BS.out.keep HAL.out, UV.out.later (HB.out.trans (HAL.out.mono HB.out.size))⟩ : RpIn w7 (w.heap.size + 1) s ls)
  have HB7 := Lib.hid (HB.out.trans (HAL.out.mono HB.out.size))
  clear BR BS B5 B6 HX HY HAL HB
  clear d0 d1 d2 d3 d4 d5 d6 d7 d8 d9 d10 d11 d12
  generalize hG : w6.heap.size = G at *
  have du := hdu _ _ s y w7 BSX.out.val B6Y.out.val H2.out HYS.out
  rw [HDD.out] at du
  unfold repR repRow Rp.cells at du
  unfold noteR noteRow Nt.cells at du
  have DU := Lib.hid du
  clear du
  refine DU.out.mono ?_
  rintro e w8 ⟨Ad, cd, rfl, hle, hD, hb⟩
  clear hle
  have F0 := Lib.hid (⟨⟨fun _ => ⟨HGO.out, HPL.out.symm⟩, fun h => by cases h⟩, Nat.zero_le _, ⟨B5X.out.keep hb, B6Y.out.keep hb, BSX.out.keep hb, EOwn.nil _ _, hD, B5X.out.val.av.mono (fun _ _ h => by cases h), B6Y.out.val.av.mono (fun _ _ h => by cases h), BSX.out.val.av.mono (fun _ _ h => by cases h), hD.av.mono (fun _ _ h => by cases h), HB7.out.trans (hb.mono HB7.out.size), HFL.out⟩⟩ : FRel w G r s ls (.slice Ad (dueAll r s).length cd) w8 x y [] true (.slice none 0 0) lx ly)
  clear hb hD B5X B6Y BSX HB7 HGO HPL HFL HYS HDD DU AW S1 S2 R3 R4 BE
  have HSL := Lib.hid (held_len (rp_parts H4.out).2.2.1 SOK.out.2.2.2.2.2.1)
  have HRL := Lib.hid (held_len (rp_parts H3.out).2.2.1 ROK.out.2.2.2.2.2.1)
  have HDL := Lib.hid (Nat.le_trans (List.length_filter_le _ _) HSL.out : (dueAll r s).length ≤ 64)
  have HGW := Lib.hid hgw
  clear hgw hgw0
  have HM := Lib.hid (by kernel_rfl : Tryz.prog.follows .mixedOrders = true)
  go_wp2_with fail
  go_loopw [10, 11] (fun tv mv wr => ∃ x y told more lx ly, mv = .bool more ∧ Hid (FRel w G r s ls (.slice Ad (dueAll r s).length cd) wr x y told more tv lx ly)) (fun tv mv _ => 2 * ((dueAll r s).length - lenV tv) + onV mv)
  case atStart => exact ⟨x, y, [], true, lx, ly, rfl, F0⟩
  case round =>
    rename World => wr
    clear F0
    obtain ⟨x, y, told, more, lx, ly, rfl, HF⟩ := hrel
    have HFT := Lib.hid HF.out.mem.tv_.form
    cases more
    case true =>
      have hgo := (HF.out.st.1 rfl).1
      have hyy := (HF.out.st.1 rfl).2
      have hys : shortN y := by rw [hyy]; exact ⟨Nat.le_trans ((right_iff _).1 hgo.know).1 (by decide), Nat.zero_le _, Nat.zero_le _⟩
      have HSX := Lib.hid (⟨Nat.le_trans ((right_iff _).1 hgo.know).1 (by decide), by have h1 := hgo.hlen; have h2 := hgo.len; have h3 := HDL.out; have h4 := HRL.out; omega, Nat.le_trans hgo.olen (by decide)⟩ : shortR x)
      have an := han _ _ s y wr (HGL.out wr HF.out.mem.bel) HF.out.mem.bs.val HF.out.mem.b6.val H2.out hys
      have HLV := Lib.hid HF.out.le
      have d0 := HF.out.mem.bs.blk.cell 0 (.int .u8 s.rep) rfl
      have d1 := HF.out.mem.bs.blk.cell 1 (.int .u8 s.flt) rfl
      have d2 := HF.out.mem.bs.blk.cell 2 (.int .u32 s.epoch) rfl
      have d3 := HF.out.mem.bs.blk.cell 3 (.int .u32 s.seq) rfl
      have d4 := HF.out.mem.bs.blk.cell 4 (.slice ls.a s.know.length ls.i) rfl
      have d5 := HF.out.mem.bs.blk.cell 5 (.slice ls.b s.held.length ls.j) rfl
      have d6 := HF.out.mem.bs.blk.cell 6 (.bool s.ses.on) rfl
      have d7 := HF.out.mem.bs.blk.cell 7 (.int .u32 s.ses.num) rfl
      have d8 := HF.out.mem.bs.blk.cell 8 (.int .u8 s.ses.src) rfl
      have d9 := HF.out.mem.bs.blk.cell 9 (.int .u8 s.ses.cur) rfl
      have d10 := HF.out.mem.bs.blk.cell 10 (.int .u32 s.ses.epoch) rfl
      have d11 := HF.out.mem.bs.blk.cell 11 (.slice ls.c s.ses.offer.length ls.k) rfl
      have d12 := HF.out.mem.bs.blk.cell 12 (.int .u32 s.ses.last) rfl
      have e0 := HF.out.mem.b6.blk.cell 0 (.int .i64 y.kind) rfl
      have e1 := HF.out.mem.b6.blk.cell 1 (.int .u8 y.src) rfl
      have e2 := HF.out.mem.b6.blk.cell 2 (.int .u8 y.dst) rfl
      have e3 := HF.out.mem.b6.blk.cell 3 (.int .u32 y.num) rfl
      have e4 := HF.out.mem.b6.blk.cell 4 (.int .u8 y.cur) rfl
      have e5 := HF.out.mem.b6.blk.cell 5 (.int .u8 y.flt) rfl
      have e6 := HF.out.mem.b6.blk.cell 6 (.slice ly.a y.know.length ly.i) rfl
      have e7 := HF.out.mem.b6.blk.cell 7 (.int .u32 y.epoch) rfl
      have e8 := HF.out.mem.b6.blk.cell 8 (.slice ly.b y.ents.length ly.j) rfl
      have e9 := HF.out.mem.b6.blk.cell 9 (.int .u8 y.next) rfl
      have e10 := HF.out.mem.b6.blk.cell 10 (.bool y.done) rfl
      have e11 := HF.out.mem.b6.blk.cell 11 (.slice ly.c y.offer.length ly.k) rfl
      rw [hyy] at an
      rcases going_answer H3.out H4.out H5.out hgo with h5 | ⟨o, ho, hoc, hans⟩
      · skip
        rw [h5] at an
        rw [← hyy] at an
        unfold repR repRow Rp.cells at an
        unfold noteR noteRow Nt.cells at an
        have AN := Lib.hid an
        clear an h5 hgo hyy hys
        go_wp2_with fail
        refine AN.out.mono ?_
        rintro e w9 ⟨ty, uu, rfl, he, hb⟩
        have HE := Lib.hid he
        have HB := Lib.hid (HF.out.mem.bel.trans (hb.mono HF.out.mem.bel.size))
        clear he hb
        unfold zeroC
        go_wp2_with fail
        refine (HE.out.2 _ (al1 w9 _)).mono ?_
        rintro e w10 ⟨rfl, hb⟩
        go_wp2_with fail
        go_ret
        exact ⟨rfl, HB.out.trans (((al1 w9 _).trans (hb.mono (al1 w9 _).size)).mono HB.out.size)⟩
      · skip
        rw [hans] at an
        rw [← hyy] at an hans
        have HGA := Lib.hid (fun b hb => going_accept H3.out H4.out H5.out hgo ho hoc (b := b) hb)
        rw [← hyy] at HGA
        have hsb : shortN (answerN s y (dueL s.held x.know x.ses.cur) o) := ⟨Nat.zero_le _, by simp [answerN]; omega, Nat.le_trans ((right_iff _).1 ho).1 (by decide)⟩
        generalize hbd : answerN s y (dueL s.held x.know x.ses.cur) o = b at an HGA hans hsb
        have HSB := Lib.hid hsb
        clear hbd hans ho hoc hsb
        unfold repR repRow Rp.cells at an
        unfold noteR noteRow Nt.cells at an
        have AN := Lib.hid an
        have HLN := Lib.hid ((HGA.out b rfl).2.1)
        clear an hgo hyy hys
        go_wp2_with fail
        refine AN.out.mono ?_
        rintro e w9 ⟨vb, rfl, hnb, hb, hav⟩
        obtain ⟨lb, rfl⟩ := hnb.rows
        have HVB := Lib.hid (NtAv.free HF.out.mem.tv_ (hav _ HF.out.mem.as_ HF.out.mem.a6))
        have BX := Lib.hid (NtIn.new (x := b) (l := lb) (Blk.new w9 (noteR b lb) 30) hnb (al1 w9 _))
        have HF1 := Lib.hid ((HF.out.mem.keep hb).keep (al1 w9 (.cells (noteR b lb) 30)))
        clear AN hnb hav hb
        clear d0 d1 d2 d3 d4 d5 d6 d7 d8 d9 d10 d11 d12 e0 e1 e2 e3 e4 e5 e6 e7 e8 e9 e10 e11
        unfold noteR noteRow Nt.cells
        go_wp2_with (at_builtin; (refine append_ents2 rfl (.tmp 81) (.tmp 83) rfl w.heap.size _ told rfl HF1.out.tv_ _ _ b.ents rfl BX.out.ents (by have h1 := HLN.out; have h2 := HDL.out; omega) HF1.out.bel.size ?_); intro tv1 w11 ho hgr hkb; obtain ⟨hm1, hb1, ha1⟩ := HF1.out.app BX.out HVB.out ho hgr hkb; have HF2 := Lib.hid hm1; have BX2 := Lib.hid hb1; have HVB2 := Lib.hid ha1; clear hm1 hb1 ha1 ho hgr hkb; have c0 := HF2.out.b5.blk.cell 0 (.int .u8 x.rep) rfl; have c1 := HF2.out.b5.blk.cell 1 (.int .u8 x.flt) rfl; have c2 := HF2.out.b5.blk.cell 2 (.int .u32 x.epoch) rfl; have c3 := HF2.out.b5.blk.cell 3 (.int .u32 x.seq) rfl; have c4 := HF2.out.b5.blk.cell 4 (.slice lx.a x.know.length lx.i) rfl; have c5 := HF2.out.b5.blk.cell 5 (.slice lx.b x.held.length lx.j) rfl; have c6 := HF2.out.b5.blk.cell 6 (.bool x.ses.on) rfl; have c7 := HF2.out.b5.blk.cell 7 (.int .u32 x.ses.num) rfl; have c8 := HF2.out.b5.blk.cell 8 (.int .u8 x.ses.src) rfl; have c9 := HF2.out.b5.blk.cell 9 (.int .u8 x.ses.cur) rfl; have c10 := HF2.out.b5.blk.cell 10 (.int .u32 x.ses.epoch) rfl; have c11 := HF2.out.b5.blk.cell 11 (.slice lx.c x.ses.offer.length lx.k) rfl; have c12 := HF2.out.b5.blk.cell 12 (.int .u32 x.ses.last) rfl; have e0 := BX2.out.blk.cell 0 (.int .i64 b.kind) rfl; have e1 := BX2.out.blk.cell 1 (.int .u8 b.src) rfl; have e2 := BX2.out.blk.cell 2 (.int .u8 b.dst) rfl; have e3 := BX2.out.blk.cell 3 (.int .u32 b.num) rfl; have e4 := BX2.out.blk.cell 4 (.int .u8 b.cur) rfl; have e5 := BX2.out.blk.cell 5 (.int .u8 b.flt) rfl; have e6 := BX2.out.blk.cell 6 (.slice lb.a b.know.length lb.i) rfl; have e7 := BX2.out.blk.cell 7 (.int .u32 b.epoch) rfl; have e8 := BX2.out.blk.cell 8 (.slice lb.b b.ents.length lb.j) rfl; have e9 := BX2.out.blk.cell 9 (.int .u8 b.next) rfl; have e10 := BX2.out.blk.cell 10 (.bool b.done) rfl; have e11 := BX2.out.blk.cell 11 (.slice lb.c b.offer.length lb.k) rfl)
        have hac1 := hac _ _ x b w11 (HGL.out w11 HF2.out.bel) HF2.out.b5.val BX2.out.val HSX.out HSB.out
        have HGB := Lib.hid (HGA.out b rfl).1
        clear HF1 BX HVB
        generalize hG12 : w9.heap.size = G12 at *
        rcases (HGA.out b rfl).2.2 with ⟨c, hacc, hc⟩ | ⟨q, hacc, hfl, hoff, hlen, hall, hhas, hqh⟩ | ⟨q, hacc, hfl, hgo2, hlt⟩
        · skip
          rw [hacc] at hac1
          unfold repR repRow Rp.cells at hac1
          unfold noteR noteRow Nt.cells at hac1
          have AC := Lib.hid hac1
          clear hac1 hacc
          refine AC.out.mono ?_
          rintro e w12 ⟨v1, v2, ev, rfl, hr1, hn1, he1, hb, _⟩
          obtain ⟨lz, rfl⟩ := hr1.rows
          obtain ⟨lz2, rfl⟩ := hn1.rows
          obtain ⟨ty, uu, rfl⟩ : ∃ t u, ev = .iface t u := by
            rcases he1.1 with h | h
            · have h0 : c = 0 := h.1
              rcases hc with h1 | h1 <;> rw [h1] at h0 <;> exact absurd h0 (by decide)
            · exact h.2
          have HE := Lib.hid he1
          have HB := Lib.hid (HF2.out.bel.trans (hb.mono HF2.out.bel.size))
          clear hr1 hn1 he1 hb AC
          clear c0 c1 c2 c3 c4 c5 c6 c7 c8 c9 c10 c11 c12 e0 e1 e2 e3 e4 e5 e6 e7 e8 e9 e10 e11
          unfold repR repRow Rp.cells
          unfold noteR noteRow Nt.cells
          unfold noAcc zeroP zeroN
          dsimp only [List.length_nil]
          rcases hc with rfl | rfl
          · skip
            go_wp2_with fail
            refine (HE.out.2 _ (al2 w12 _ _)).mono ?_
            rintro e w13 ⟨rfl, hb⟩
            have HB := Lib.hid (HB.out.trans (((al2 w12 _ _).trans (hb.mono (al2 w12 _ _).size)).mono HB.out.size))
            clear hb
            unfold noAcc
            go_wp2_with fail
            go_ret
            exact ⟨rfl, HB.out⟩
          · skip
            go_wp2_with fail
            refine (HE.out.2 _ (al2 w12 _ _)).mono ?_
            rintro e w13 ⟨rfl, hb⟩
            have HB13 := Lib.hid ((al2 w12 _ _).trans (hb.mono (al2 w12 _ _).size))
            clear hb
            unfold noAcc
            go_wp2_with fail
            refine (HE.out.2 _ HB13.out).mono ?_
            rintro e w14 ⟨rfl, hb⟩
            have HB := Lib.hid (HB.out.trans ((HB13.out.trans (hb.mono HB13.out.size)).mono HB.out.size))
            clear hb HB13
            go_wp2_with fail
            go_ret
            exact ⟨rfl, HB.out⟩
        · skip
          rw [hacc] at hac1
          have HFL := Lib.hid hfl
          clear hacc hfl
          unfold repR repRow Rp.cells at hac1
          unfold noteR noteRow Nt.cells at hac1
          have AC := Lib.hid hac1
          clear hac1
          have HEND := Lib.hid (⟨hoff, hlen, hall, hhas, hqh⟩ : q.ses.on = false ∧ (told ++ b.ents).length = (dueAll r s).length ∧ (told ++ b.ents) = (dueAll r s).map (fitE r.flt) ∧ (∀ y ∈ told ++ b.ents, ∃ v, verAt q.held y.id = some v ∧ ltV v y.ver = false) ∧ q.held.length ≤ r.held.length + (dueAll r s).length)
          clear hoff hlen hall hhas hqh
          have HL1 := Lib.hid (by rw [List.length_append]; exact HLN.out : (told ++ b.ents).length ≤ (dueAll r s).length)
          refine AC.out.mono ?_
          rintro e w12 ⟨v1, v2, ev, rfl, hr1, hn1, he1, hb, hav⟩
          obtain rfl : ev = .nilIface := by
            rcases he1.1 with h | h
            · exact h.2
            · exact absurd rfl h.1
          clear he1
          have hav := hav _ HF2.out.a5 HVB2.out
          obtain ⟨lq, rfl⟩ := hr1.rows
          obtain ⟨lm, rfl⟩ := hn1.rows
          have AQ := Lib.hid (RpAv.free HF2.out.tv_ hav.1)
          have AM := Lib.hid (NtAv.free HF2.out.tv_ hav.2)
          clear hav AC
          have hwl : G12 < w12.heap.size := (BX2.out.blk.keep hb).lt
          have hwl1 : G12 < w12.heap.size + 1 := Nat.lt_succ_of_lt hwl
          have HW := Lib.hid (al2 w12 (.cells (repR q lq) 28) (.cells (noteR (zeroN) lm) 30))
          have BQ := Lib.hid (RpIn.new (x := q) (l := lq) ((Blk.new w12 (repR q lq) 28).alloc (.cells (noteR (zeroN) lm) 30)) hr1 HW.out)
          have BM := Lib.hid (NtIn.new (x := zeroN) (l := lm) (blk_two w12 (.cells (repR q lq) 28) (noteR (zeroN) lm) 30) hn1 HW.out)
          have HF3 := Lib.hid ((HF2.out.keep hb).keep HW.out)
          have BX3 := Lib.hid ((BX2.out.keep hb).keep HW.out)
          have BXE := Lib.hid (BX2.out.blk.keep hb)
          have HGG := Lib.hid (HF2.out.b5.blk.keep hb).lt
          clear HF2 BX2 HVB2 hr1 hn1 hb
          clear c0 c1 c2 c3 c4 c5 c6 c7 c8 c9 c10 c11 c12 e0 e1 e2 e3 e4 e5 e6 e7 e8 e9 e10 e11
          have e0 := BXE.out.cell 0 (.int .i64 b.kind) rfl
          have e1 := BXE.out.cell 1 (.int .u8 b.src) rfl
          have e2 := BXE.out.cell 2 (.int .u8 b.dst) rfl
          have e3 := BXE.out.cell 3 (.int .u32 b.num) rfl
          have e4 := BXE.out.cell 4 (.int .u8 b.cur) rfl
          have e5 := BXE.out.cell 5 (.int .u8 b.flt) rfl
          have e6 := BXE.out.cell 6 (.slice lb.a b.know.length lb.i) rfl
          have e7 := BXE.out.cell 7 (.int .u32 b.epoch) rfl
          have e8 := BXE.out.cell 8 (.slice lb.b b.ents.length lb.j) rfl
          have e9 := BXE.out.cell 9 (.int .u8 b.next) rfl
          have e10 := BXE.out.cell 10 (.bool b.done) rfl
          have e11 := BXE.out.cell 11 (.slice lb.c b.offer.length lb.k) rfl
          obtain ⟨m, hm⟩ : ∃ m, zeroN = m := ⟨_, rfl⟩
          rw [hm] at HW BM HF3 BX3 BQ AM ⊢
          have HPM := Lib.hid hm
          clear hm
          unfold repR repRow Rp.cells at HW BM HF3 BX3 BQ ⊢
          unfold noteR noteRow Nt.cells at HW BM HF3 BX3 BQ ⊢
          go_wp2_with fail
          generalize (w12.alloc (.cells #[.int .u8 q.rep, .int .u8 q.flt, .int .u32 q.epoch, .int .u32 q.seq, .slice lq.a q.know.length lq.i, .slice lq.b q.held.length lq.j, .bool q.ses.on, .int .u32 q.ses.num, .int .u8 q.ses.src, .int .u8 q.ses.cur, .int .u32 q.ses.epoch, .slice lq.c q.ses.offer.length lq.k, .int .u32 q.ses.last] 28)).alloc (.cells #[.int .i64 m.kind, .int .u8 m.src, .int .u8 m.dst, .int .u32 m.num, .int .u8 m.cur, .int .u8 m.flt, .slice lm.a m.know.length lm.i, .int .u32 m.epoch, .slice lm.b m.ents.length lm.j, .int .u8 m.next, .bool m.done, .slice lm.c m.offer.length lm.k] 30) = w13 at HW BM HF3 BX3 BQ ⊢
          generalize hG14 : w12.heap.size = G14 at *
          have r4 := q4Right_any _ b w13 BX3.out.val (by have h := HSB.out.1; omega) (by have h := HSB.out.2.1; omega) (by have h := HSB.out.2.2; omega)
          rw [HGB.out] at r4
          unfold noteR noteRow Nt.cells at r4
          have R4 := Lib.hid r4
          clear r4
          refine R4.out.mono ?_
          rintro e w14 ⟨rfl, hb⟩
          have HF4 := Lib.hid (HF3.out.keep hb)
          have BQ4 := Lib.hid (BQ.out.keep hb)
          have BM4 := Lib.hid (BM.out.keep hb)
          clear HF3 BX3 BQ BM BXE HW R4 hb hwl hwl1
          clear e0 e1 e2 e3 e4 e5 e6 e7 e8 e9 e10 e11
          have f0 := BQ4.out.blk.cell 0 (.int .u8 q.rep) rfl
          have f1 := BQ4.out.blk.cell 1 (.int .u8 q.flt) rfl
          have f2 := BQ4.out.blk.cell 2 (.int .u32 q.epoch) rfl
          have f3 := BQ4.out.blk.cell 3 (.int .u32 q.seq) rfl
          have f4 := BQ4.out.blk.cell 4 (.slice lq.a q.know.length lq.i) rfl
          have f5 := BQ4.out.blk.cell 5 (.slice lq.b q.held.length lq.j) rfl
          have f6 := BQ4.out.blk.cell 6 (.bool q.ses.on) rfl
          have f7 := BQ4.out.blk.cell 7 (.int .u32 q.ses.num) rfl
          have f8 := BQ4.out.blk.cell 8 (.int .u8 q.ses.src) rfl
          have f9 := BQ4.out.blk.cell 9 (.int .u8 q.ses.cur) rfl
          have f10 := BQ4.out.blk.cell 10 (.int .u32 q.ses.epoch) rfl
          have f11 := BQ4.out.blk.cell 11 (.slice lq.c q.ses.offer.length lq.k) rfl
          have f12 := BQ4.out.blk.cell 12 (.int .u32 q.ses.last) rfl
          obtain ⟨At, ct, rfl, _⟩ := HF4.out.tv_.form
          have hl1 := HL1.out
          generalize hnn : (told ++ b.ents).length = nn at hl1 ⊢
          have HNL := Lib.hid hnn
          clear hnn
          go_wp2_with (first | (refine wpList_store_row rfl _ _ _ rfl G #[.int .u8 q.rep, .int .u8 q.flt, .int .u32 q.epoch, .int .u32 q.seq, .slice lq.a q.know.length lq.i, .slice lq.b q.held.length lq.j, .bool q.ses.on, .int .u32 q.ses.num, .int .u8 q.ses.src, .int .u8 q.ses.cur, .int .u32 q.ses.epoch, .slice lq.c q.ses.offer.length lq.k, .int .u32 q.ses.last] rfl rfl 28 _ HF4.out.b5.blk.at_ rep_size rfl (by simp [Value.oneCell']) ?_; clear f0 f1 f2 f3 f4 f5 f6 f7 f8 f9 f10 f11 f12; have BM5 := Lib.hid (BM4.out.blk.other (g := G14 + 1) (k := G) (by have h1 := HGG.out; omega) #[.int .u8 q.rep, .int .u8 q.flt, .int .u32 q.epoch, .int .u32 q.seq, .slice lq.a q.know.length lq.i, .slice lq.b q.held.length lq.j, .bool q.ses.on, .int .u32 q.ses.num, .int .u8 q.ses.src, .int .u8 q.ses.cur, .int .u32 q.ses.epoch, .slice lq.c q.ses.offer.length lq.k, .int .u32 q.ses.last]); have h0 := BM5.out.cell 0 (.int .i64 m.kind) rfl; have h1 := BM5.out.cell 1 (.int .u8 m.src) rfl; have h2 := BM5.out.cell 2 (.int .u8 m.dst) rfl; have h3 := BM5.out.cell 3 (.int .u32 m.num) rfl; have h4 := BM5.out.cell 4 (.int .u8 m.cur) rfl; have h5 := BM5.out.cell 5 (.int .u8 m.flt) rfl; have h6 := BM5.out.cell 6 (.slice lm.a m.know.length lm.i) rfl; have h7 := BM5.out.cell 7 (.int .u32 m.epoch) rfl; have h8 := BM5.out.cell 8 (.slice lm.b m.ents.length lm.j) rfl; have h9 := BM5.out.cell 9 (.int .u8 m.next) rfl; have h10 := BM5.out.cell 10 (.bool m.done) rfl; have h11 := BM5.out.cell 11 (.slice lm.c m.offer.length lm.k) rfl) | (refine wpList_store_row rfl _ _ _ rfl (G + 1) #[.int .i64 m.kind, .int .u8 m.src, .int .u8 m.dst, .int .u32 m.num, .int .u8 m.cur, .int .u8 m.flt, .slice lm.a m.know.length lm.i, .int .u32 m.epoch, .slice lm.b m.ents.length lm.j, .int .u8 m.next, .bool m.done, .slice lm.c m.offer.length lm.k] rfl rfl 30 _ (HF4.out.b6.blk.other (by omega) _).at_ note_size rfl (by simp [Value.oneCell']) ?_))
          go_roundw
          case rel =>
            have hn := HNL.out
            subst hn
            exact ⟨q, m, told ++ b.ents, false, lq, lm, rfl, Lib.hid ⟨⟨(fun h => by cases h), fun _ => HEND.out⟩, HL1.out, HF4.out.step BQ4.out.val BM4.out.val AQ.out AM.out ⟨HFL.out.1.trans HF4.out.fl.1, HFL.out.2.1.trans HF4.out.fl.2.1, HFL.out.2.2.trans HF4.out.fl.2.2⟩ HGW.out⟩⟩
          case measure =>
            obtain ⟨A0, c0, e0, _⟩ := HFT.out
            have h1 := HNL.out
            rw [List.length_append] at h1
            have h2 := HLV.out
            have h3 := HL1.out
            rw [List.length_append] at h3
            skip
            rw [e0]
            simp only [lenV, onV]
            omega
        · skip
          rw [hacc] at hac1
          have HFL := Lib.hid hfl
          clear hacc hfl
          unfold repR repRow Rp.cells at hac1
          unfold noteR noteRow Nt.cells at hac1
          have AC := Lib.hid hac1
          clear hac1
          have HGO := Lib.hid hgo2
          have HLT := Lib.hid hlt
          clear hgo2 hlt
          have HL1 := Lib.hid (by rw [List.length_append]; exact HLN.out : (told ++ b.ents).length ≤ (dueAll r s).length)
          refine AC.out.mono ?_
          rintro e w12 ⟨v1, v2, ev, rfl, hr1, hn1, he1, hb, hav⟩
          obtain rfl : ev = .nilIface := by
            rcases he1.1 with h | h
            · exact h.2
            · exact absurd rfl h.1
          clear he1
          have hav := hav _ HF2.out.a5 HVB2.out
          obtain ⟨lq, rfl⟩ := hr1.rows
          obtain ⟨lm, rfl⟩ := hn1.rows
          have AQ := Lib.hid (RpAv.free HF2.out.tv_ hav.1)
          have AM := Lib.hid (NtAv.free HF2.out.tv_ hav.2)
          clear hav AC
          have hwl : G12 < w12.heap.size := (BX2.out.blk.keep hb).lt
          have hwl1 : G12 < w12.heap.size + 1 := Nat.lt_succ_of_lt hwl
          have HW := Lib.hid (al2 w12 (.cells (repR q lq) 28) (.cells (noteR (pullP q) lm) 30))
          have BQ := Lib.hid (RpIn.new (x := q) (l := lq) ((Blk.new w12 (repR q lq) 28).alloc (.cells (noteR (pullP q) lm) 30)) hr1 HW.out)
          have BM := Lib.hid (NtIn.new (x := pullP q) (l := lm) (blk_two w12 (.cells (repR q lq) 28) (noteR (pullP q) lm) 30) hn1 HW.out)
          have HF3 := Lib.hid ((HF2.out.keep hb).keep HW.out)
          have BX3 := Lib.hid ((BX2.out.keep hb).keep HW.out)
          have BXE := Lib.hid (BX2.out.blk.keep hb)
          have HGG := Lib.hid (HF2.out.b5.blk.keep hb).lt
          clear HF2 BX2 HVB2 hr1 hn1 hb
          clear c0 c1 c2 c3 c4 c5 c6 c7 c8 c9 c10 c11 c12 e0 e1 e2 e3 e4 e5 e6 e7 e8 e9 e10 e11
          have e0 := BXE.out.cell 0 (.int .i64 b.kind) rfl
          have e1 := BXE.out.cell 1 (.int .u8 b.src) rfl
          have e2 := BXE.out.cell 2 (.int .u8 b.dst) rfl
          have e3 := BXE.out.cell 3 (.int .u32 b.num) rfl
          have e4 := BXE.out.cell 4 (.int .u8 b.cur) rfl
          have e5 := BXE.out.cell 5 (.int .u8 b.flt) rfl
          have e6 := BXE.out.cell 6 (.slice lb.a b.know.length lb.i) rfl
          have e7 := BXE.out.cell 7 (.int .u32 b.epoch) rfl
          have e8 := BXE.out.cell 8 (.slice lb.b b.ents.length lb.j) rfl
          have e9 := BXE.out.cell 9 (.int .u8 b.next) rfl
          have e10 := BXE.out.cell 10 (.bool b.done) rfl
          have e11 := BXE.out.cell 11 (.slice lb.c b.offer.length lb.k) rfl
          obtain ⟨m, hm⟩ : ∃ m, pullP q = m := ⟨_, rfl⟩
          rw [hm] at HW BM HF3 BX3 BQ AM ⊢
          have HPM := Lib.hid hm
          clear hm
          unfold repR repRow Rp.cells at HW BM HF3 BX3 BQ ⊢
          unfold noteR noteRow Nt.cells at HW BM HF3 BX3 BQ ⊢
          go_wp2_with fail
          generalize (w12.alloc (.cells #[.int .u8 q.rep, .int .u8 q.flt, .int .u32 q.epoch, .int .u32 q.seq, .slice lq.a q.know.length lq.i, .slice lq.b q.held.length lq.j, .bool q.ses.on, .int .u32 q.ses.num, .int .u8 q.ses.src, .int .u8 q.ses.cur, .int .u32 q.ses.epoch, .slice lq.c q.ses.offer.length lq.k, .int .u32 q.ses.last] 28)).alloc (.cells #[.int .i64 m.kind, .int .u8 m.src, .int .u8 m.dst, .int .u32 m.num, .int .u8 m.cur, .int .u8 m.flt, .slice lm.a m.know.length lm.i, .int .u32 m.epoch, .slice lm.b m.ents.length lm.j, .int .u8 m.next, .bool m.done, .slice lm.c m.offer.length lm.k] 30) = w13 at HW BM HF3 BX3 BQ ⊢
          generalize hG14 : w12.heap.size = G14 at *
          have r4 := q4Right_any _ b w13 BX3.out.val (by have h := HSB.out.1; omega) (by have h := HSB.out.2.1; omega) (by have h := HSB.out.2.2; omega)
          rw [HGB.out] at r4
          unfold noteR noteRow Nt.cells at r4
          have R4 := Lib.hid r4
          clear r4
          refine R4.out.mono ?_
          rintro e w14 ⟨rfl, hb⟩
          have HF4 := Lib.hid (HF3.out.keep hb)
          have BQ4 := Lib.hid (BQ.out.keep hb)
          have BM4 := Lib.hid (BM.out.keep hb)
          clear HF3 BX3 BQ BM BXE HW R4 hb hwl hwl1
          clear e0 e1 e2 e3 e4 e5 e6 e7 e8 e9 e10 e11
          have f0 := BQ4.out.blk.cell 0 (.int .u8 q.rep) rfl
          have f1 := BQ4.out.blk.cell 1 (.int .u8 q.flt) rfl
          have f2 := BQ4.out.blk.cell 2 (.int .u32 q.epoch) rfl
          have f3 := BQ4.out.blk.cell 3 (.int .u32 q.seq) rfl
          have f4 := BQ4.out.blk.cell 4 (.slice lq.a q.know.length lq.i) rfl
          have f5 := BQ4.out.blk.cell 5 (.slice lq.b q.held.length lq.j) rfl
          have f6 := BQ4.out.blk.cell 6 (.bool q.ses.on) rfl
          have f7 := BQ4.out.blk.cell 7 (.int .u32 q.ses.num) rfl
          have f8 := BQ4.out.blk.cell 8 (.int .u8 q.ses.src) rfl
          have f9 := BQ4.out.blk.cell 9 (.int .u8 q.ses.cur) rfl
          have f10 := BQ4.out.blk.cell 10 (.int .u32 q.ses.epoch) rfl
          have f11 := BQ4.out.blk.cell 11 (.slice lq.c q.ses.offer.length lq.k) rfl
          have f12 := BQ4.out.blk.cell 12 (.int .u32 q.ses.last) rfl
          obtain ⟨At, ct, rfl, _⟩ := HF4.out.tv_.form
          have hl1 := HL1.out
          generalize hnn : (told ++ b.ents).length = nn at hl1 ⊢
          have HNL := Lib.hid hnn
          clear hnn
          go_wp2_with (first | (refine wpList_store_row rfl _ _ _ rfl G #[.int .u8 q.rep, .int .u8 q.flt, .int .u32 q.epoch, .int .u32 q.seq, .slice lq.a q.know.length lq.i, .slice lq.b q.held.length lq.j, .bool q.ses.on, .int .u32 q.ses.num, .int .u8 q.ses.src, .int .u8 q.ses.cur, .int .u32 q.ses.epoch, .slice lq.c q.ses.offer.length lq.k, .int .u32 q.ses.last] rfl rfl 28 _ HF4.out.b5.blk.at_ rep_size rfl (by simp [Value.oneCell']) ?_; clear f0 f1 f2 f3 f4 f5 f6 f7 f8 f9 f10 f11 f12; have BM5 := Lib.hid (BM4.out.blk.other (g := G14 + 1) (k := G) (by have h1 := HGG.out; omega) #[.int .u8 q.rep, .int .u8 q.flt, .int .u32 q.epoch, .int .u32 q.seq, .slice lq.a q.know.length lq.i, .slice lq.b q.held.length lq.j, .bool q.ses.on, .int .u32 q.ses.num, .int .u8 q.ses.src, .int .u8 q.ses.cur, .int .u32 q.ses.epoch, .slice lq.c q.ses.offer.length lq.k, .int .u32 q.ses.last]); have h0 := BM5.out.cell 0 (.int .i64 m.kind) rfl; have h1 := BM5.out.cell 1 (.int .u8 m.src) rfl; have h2 := BM5.out.cell 2 (.int .u8 m.dst) rfl; have h3 := BM5.out.cell 3 (.int .u32 m.num) rfl; have h4 := BM5.out.cell 4 (.int .u8 m.cur) rfl; have h5 := BM5.out.cell 5 (.int .u8 m.flt) rfl; have h6 := BM5.out.cell 6 (.slice lm.a m.know.length lm.i) rfl; have h7 := BM5.out.cell 7 (.int .u32 m.epoch) rfl; have h8 := BM5.out.cell 8 (.slice lm.b m.ents.length lm.j) rfl; have h9 := BM5.out.cell 9 (.int .u8 m.next) rfl; have h10 := BM5.out.cell 10 (.bool m.done) rfl; have h11 := BM5.out.cell 11 (.slice lm.c m.offer.length lm.k) rfl) | (refine wpList_store_row rfl _ _ _ rfl (G + 1) #[.int .i64 m.kind, .int .u8 m.src, .int .u8 m.dst, .int .u32 m.num, .int .u8 m.cur, .int .u8 m.flt, .slice lm.a m.know.length lm.i, .int .u32 m.epoch, .slice lm.b m.ents.length lm.j, .int .u8 m.next, .bool m.done, .slice lm.c m.offer.length lm.k] rfl rfl 30 _ (HF4.out.b6.blk.other (by omega) _).at_ note_size rfl (by simp [Value.oneCell']) ?_))
          go_roundw
          case rel =>
            have hn := HNL.out
            subst hn
            exact ⟨q, m, told ++ b.ents, true, lq, lm, rfl, Lib.hid ⟨⟨fun _ => ⟨HGO.out, HPM.out.symm⟩, (fun h => by cases h)⟩, HL1.out, HF4.out.step BQ4.out.val BM4.out.val AQ.out AM.out ⟨HFL.out.1.trans HF4.out.fl.1, HFL.out.2.1.trans HF4.out.fl.2.1, HFL.out.2.2.trans HF4.out.fl.2.2⟩ HGW.out⟩⟩
          case measure =>
            obtain ⟨A0, c0, e0, _⟩ := HFT.out
            have h1 := HNL.out
            rw [List.length_append] at h1
            have h2 := HLV.out
            have h3 := HL1.out
            rw [List.length_append] at h3
            have h4 := HLT.out
            rw [List.length_append] at h4
            rw [e0]
            simp only [lenV, onV]
            omega
    case false =>
      have hst := HF.out.st.2 rfl
      have HFM := Lib.hid HF.out.mem
      have HST := Lib.hid hst
      have HXL : Hid (x.held.length ≤ 9223372036854775807) := Lib.hid (by have h1 := hst.2.2.2.2; have h2 := HRL.out; have h3 := HDL.out; omega)
      obtain ⟨At, ct, rfl, _⟩ := HFT.out
      have hl := hst.2.1
      have f6 : wr.cell? ⟨G, 6, none⟩ = some (.bool false) := by
        have := HFM.out.b5.blk.cell 6 (.bool x.ses.on) rfl
        rw [HST.out.1] at this
        exact this
      rw [hl]
      clear hl hst HF HFT
      obtain ⟨nd, hnd⟩ : ∃ nd, (dueAll r s).length = nd := ⟨_, rfl⟩
      rw [hnd]
      have HND := Lib.hid hnd
      have hnd64 : nd ≤ 64 := by rw [← hnd]; exact HDL.out
      clear hnd
      go_wp2_with fail
      exact fetch_rest (x := x) (lx := lx) (due := dueAll r s) (told := told) (base := w.heap.size) HND.out hnd64 (fun k d hd => end_at HST.out.2.2.1 HST.out.2.2.2.1 hd) (HND.out ▸ HFM.out.dv_ : ESl wr wr.heap.size (.slice Ad nd cd) (dueAll r s)) (HND.out ▸ HST.out.2.1 ▸ HFM.out.tv_ : EOwn wr w.heap.size (.slice At nd ct) told) HFM.out.b5.held HXL.out HFM.out.b5.blk HFM.out.bel
end Go.Proofs.YtfjaeohfigcciabGreatDoor

