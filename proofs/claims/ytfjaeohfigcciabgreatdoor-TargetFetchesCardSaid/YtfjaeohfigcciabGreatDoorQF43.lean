/- Texts in one: TFetchB. -/
import Derived.Test.YtfjaeohfigcciabGreatDoorQF42
set_option linter.unusedVariables false
set_option linter.unusedSimpArgs false
set_option linter.unusedSectionVars false
set_option linter.unnecessarySimpa false
namespace Go.Proofs.YtfjaeohfigcciabGreatDoor
open Go.RowKit

set_option maxHeartbeats 8000000 in
set_option maxRecDepth 100000 in
theorem fetch_full (v u : Value) (r s : Rp) (w : World) (hv : RpV w w.heap.size v r) (hu : RpV w w.heap.size u s) (hg : ErrVar w) (haw : AwakeSaidE 6) (hbe : BeginSaid 14) (hdu : DueSaid 24) (han : AnswerIs 25) (hac : AcceptSaid 9) (h1 : shortR r) (h2 : shortR s) (h3 : rpB r = true) (h4 : rpB s = true) (h5 : r.rep ≠ s.rep) (hl : r.ses.last = 4294967295) :
    Calls Tryz.prog 5 #[v, u] w fun e w' => e = .returned (.bool true) ∧ Below w.heap.size w w' := by
  have hne : (r.rep == s.rep) = false := by simpa using h5
  have AW := Lib.hid (fun w1 (hb : Below w.heap.size w w1) => haw w1 (hg.later hb))
  have S1 := Lib.hid (fun w1 (hb : Below w.heap.size w w1) => by have := q5Short_any v r w1 (hv.later hb); rw [decide_eq_true (show r.know.length ≤ 300 ∧ r.held.length ≤ 300 ∧ r.ses.offer.length ≤ 300 from h1)] at this; exact this)
  have S2 := Lib.hid (fun w1 (hb : Below w.heap.size w w1) => by have := q5Short_any u s w1 (hu.later hb); rw [decide_eq_true (show s.know.length ≤ 300 ∧ s.held.length ≤ 300 ∧ s.ses.offer.length ≤ 300 from h2)] at this; exact this)
  have R3 := Lib.hid (fun w1 (hb : Below w.heap.size w w1) => by have := q5Right_any v r w1 (hv.later hb) (Nat.le_trans h1.1 (by decide)) (Nat.le_trans h1.2.1 (by decide)) (Nat.le_trans h1.2.2 (by decide)); rw [h3] at this; exact this)
  have R4 := Lib.hid (fun w1 (hb : Below w.heap.size w w1) => by have := q5Right_any u s w1 (hu.later hb) (Nat.le_trans h2.1 (by decide)) (Nat.le_trans h2.2.1 (by decide)) (Nat.le_trans h2.2.2 (by decide)); rw [h4] at this; exact this)
  have ROK := Lib.hid hv.okR
  have SOK := Lib.hid hu.okR
  have hbb : beginR r s.rep = (zeroP, zeroN, 5) := by
    unfold beginR
    rw [if_neg (by have := (rp_parts h4).1; simp [h3]; constructor; omega; exact fun h => h5 h.symm)]
    rw [if_pos hl]
  have BE := Lib.hid (fun w1 (hb : Below w.heap.size w w1) => by have := hbe v s.rep r w1 (hg.later hb) (hv.later hb) hu.okR.1 h1; rw [hbb] at this; exact this)
  have HGL := Lib.hid (fun w1 (hb : Below w.heap.size w w1) => hg.later hb)
  clear hbb haw hbe hl
  have H1 := Lib.hid h1
  have H2 := Lib.hid h2
  have H3 := Lib.hid h3
  have H4 := Lib.hid h4
  have H5 := Lib.hid h5
  have UV := Lib.hid hu
  clear h1 h2 h3 h4 h5 hg
  obtain ⟨lr, rfl⟩ := hv.rows
  obtain ⟨ls, rfl⟩ := hu.rows
  clear hv hu
  unfold repR repRow Rp.cells at S1 S2 R3 R4 BE ⊢
  go_enter Tryz.func5, Tryz.ntmps5
  go_wp2_with fail
  have HB := Lib.hid (al2 w (.cells #[.int .u8 r.rep, .int .u8 r.flt, .int .u32 r.epoch, .int .u32 r.seq, .slice lr.a r.know.length lr.i, .slice lr.b r.held.length lr.j, .bool r.ses.on, .int .u32 r.ses.num, .int .u8 r.ses.src, .int .u8 r.ses.cur, .int .u32 r.ses.epoch, .slice lr.c r.ses.offer.length lr.k, .int .u32 r.ses.last] 28) (.cells #[.int .u8 s.rep, .int .u8 s.flt, .int .u32 s.epoch, .int .u32 s.seq, .slice ls.a s.know.length ls.i, .slice ls.b s.held.length ls.j, .bool s.ses.on, .int .u32 s.ses.num, .int .u8 s.ses.src, .int .u8 s.ses.cur, .int .u32 s.ses.epoch, .slice ls.c s.ses.offer.length ls.k, .int .u32 s.ses.last] 28))
  have BR := Lib.hid ((Blk.new w #[.int .u8 r.rep, .int .u8 r.flt, .int .u32 r.epoch, .int .u32 r.seq, .slice lr.a r.know.length lr.i, .slice lr.b r.held.length lr.j, .bool r.ses.on, .int .u32 r.ses.num, .int .u8 r.ses.src, .int .u8 r.ses.cur, .int .u32 r.ses.epoch, .slice lr.c r.ses.offer.length lr.k, .int .u32 r.ses.last] 28).alloc (.cells #[.int .u8 s.rep, .int .u8 s.flt, .int .u32 s.epoch, .int .u32 s.seq, .slice ls.a s.know.length ls.i, .slice ls.b s.held.length ls.j, .bool s.ses.on, .int .u32 s.ses.num, .int .u8 s.ses.src, .int .u8 s.ses.cur, .int .u32 s.ses.epoch, .slice ls.c s.ses.offer.length ls.k, .int .u32 s.ses.last] 28))
  have BS := Lib.hid (blk_two w (.cells #[.int .u8 r.rep, .int .u8 r.flt, .int .u32 r.epoch, .int .u32 r.seq, .slice lr.a r.know.length lr.i, .slice lr.b r.held.length lr.j, .bool r.ses.on, .int .u32 r.ses.num, .int .u8 r.ses.src, .int .u8 r.ses.cur, .int .u32 r.ses.epoch, .slice lr.c r.ses.offer.length lr.k, .int .u32 r.ses.last] 28) #[.int .u8 s.rep, .int .u8 s.flt, .int .u32 s.epoch, .int .u32 s.seq, .slice ls.a s.know.length ls.i, .slice ls.b s.held.length ls.j, .bool s.ses.on, .int .u32 s.ses.num, .int .u8 s.ses.src, .int .u8 s.ses.cur, .int .u32 s.ses.epoch, .slice ls.c s.ses.offer.length ls.k, .int .u32 s.ses.last] 28)
  generalize (w.alloc (.cells #[.int .u8 r.rep, .int .u8 r.flt, .int .u32 r.epoch, .int .u32 r.seq, .slice lr.a r.know.length lr.i, .slice lr.b r.held.length lr.j, .bool r.ses.on, .int .u32 r.ses.num, .int .u8 r.ses.src, .int .u8 r.ses.cur, .int .u32 r.ses.epoch, .slice lr.c r.ses.offer.length lr.k, .int .u32 r.ses.last] 28)).alloc (.cells #[.int .u8 s.rep, .int .u8 s.flt, .int .u32 s.epoch, .int .u32 s.seq, .slice ls.a s.know.length ls.i, .slice ls.b s.held.length ls.j, .bool s.ses.on, .int .u32 s.ses.num, .int .u8 s.ses.src, .int .u8 s.ses.cur, .int .u32 s.ses.epoch, .slice ls.c s.ses.offer.length ls.k, .int .u32 s.ses.last] 28) = wz at HB BR BS ⊢
  refine (AW.out wz HB.out).mono ?_
  rintro e w1 ⟨rfl, hb⟩
  have BR := Lib.hid (BR.out.keep hb)
  have BS := Lib.hid (BS.out.keep hb)
  have HB := Lib.hid (HB.out.trans (hb.mono HB.out.size)); clear hb
  have c0 := BR.out.cell 0 (.int .u8 r.rep) rfl
  have c1 := BR.out.cell 1 (.int .u8 r.flt) rfl
  have c2 := BR.out.cell 2 (.int .u32 r.epoch) rfl
  have c3 := BR.out.cell 3 (.int .u32 r.seq) rfl
  have c4 := BR.out.cell 4 (.slice lr.a r.know.length lr.i) rfl
  have c5 := BR.out.cell 5 (.slice lr.b r.held.length lr.j) rfl
  have c6 := BR.out.cell 6 (.bool r.ses.on) rfl
  have c7 := BR.out.cell 7 (.int .u32 r.ses.num) rfl
  have c8 := BR.out.cell 8 (.int .u8 r.ses.src) rfl
  have c9 := BR.out.cell 9 (.int .u8 r.ses.cur) rfl
  have c10 := BR.out.cell 10 (.int .u32 r.ses.epoch) rfl
  have c11 := BR.out.cell 11 (.slice lr.c r.ses.offer.length lr.k) rfl
  have c12 := BR.out.cell 12 (.int .u32 r.ses.last) rfl
  go_wp2_with fail
  refine (S1.out w1 HB.out).mono ?_
  rintro e w2 ⟨rfl, hb⟩
  clear c0 c1 c2 c3 c4 c5 c6 c7 c8 c9 c10 c11 c12
  have BR := Lib.hid (BR.out.keep hb)
  have BS := Lib.hid (BS.out.keep hb)
  have HB := Lib.hid (HB.out.trans (hb.mono HB.out.size)); clear hb
  have d0 := BS.out.cell 0 (.int .u8 s.rep) rfl
  have d1 := BS.out.cell 1 (.int .u8 s.flt) rfl
  have d2 := BS.out.cell 2 (.int .u32 s.epoch) rfl
  have d3 := BS.out.cell 3 (.int .u32 s.seq) rfl
  have d4 := BS.out.cell 4 (.slice ls.a s.know.length ls.i) rfl
  have d5 := BS.out.cell 5 (.slice ls.b s.held.length ls.j) rfl
  have d6 := BS.out.cell 6 (.bool s.ses.on) rfl
  have d7 := BS.out.cell 7 (.int .u32 s.ses.num) rfl
  have d8 := BS.out.cell 8 (.int .u8 s.ses.src) rfl
  have d9 := BS.out.cell 9 (.int .u8 s.ses.cur) rfl
  have d10 := BS.out.cell 10 (.int .u32 s.ses.epoch) rfl
  have d11 := BS.out.cell 11 (.slice ls.c s.ses.offer.length ls.k) rfl
  have d12 := BS.out.cell 12 (.int .u32 s.ses.last) rfl
  go_wp2_with fail
  refine (S2.out w2 HB.out).mono ?_
  rintro e w3 ⟨rfl, hb⟩
  clear d0 d1 d2 d3 d4 d5 d6 d7 d8 d9 d10 d11 d12
  have BR := Lib.hid (BR.out.keep hb)
  have BS := Lib.hid (BS.out.keep hb)
  have HB := Lib.hid (HB.out.trans (hb.mono HB.out.size)); clear hb
  have c0 := BR.out.cell 0 (.int .u8 r.rep) rfl
  have c1 := BR.out.cell 1 (.int .u8 r.flt) rfl
  have c2 := BR.out.cell 2 (.int .u32 r.epoch) rfl
  have c3 := BR.out.cell 3 (.int .u32 r.seq) rfl
  have c4 := BR.out.cell 4 (.slice lr.a r.know.length lr.i) rfl
  have c5 := BR.out.cell 5 (.slice lr.b r.held.length lr.j) rfl
  have c6 := BR.out.cell 6 (.bool r.ses.on) rfl
  have c7 := BR.out.cell 7 (.int .u32 r.ses.num) rfl
  have c8 := BR.out.cell 8 (.int .u8 r.ses.src) rfl
  have c9 := BR.out.cell 9 (.int .u8 r.ses.cur) rfl
  have c10 := BR.out.cell 10 (.int .u32 r.ses.epoch) rfl
  have c11 := BR.out.cell 11 (.slice lr.c r.ses.offer.length lr.k) rfl
  have c12 := BR.out.cell 12 (.int .u32 r.ses.last) rfl
  go_wp2_with fail
  refine (R3.out w3 HB.out).mono ?_
  rintro e w4 ⟨rfl, hb⟩
  clear c0 c1 c2 c3 c4 c5 c6 c7 c8 c9 c10 c11 c12
  have BR := Lib.hid (BR.out.keep hb)
  have BS := Lib.hid (BS.out.keep hb)
  have HB := Lib.hid (HB.out.trans (hb.mono HB.out.size)); clear hb
  have d0 := BS.out.cell 0 (.int .u8 s.rep) rfl
  have d1 := BS.out.cell 1 (.int .u8 s.flt) rfl
  have d2 := BS.out.cell 2 (.int .u32 s.epoch) rfl
  have d3 := BS.out.cell 3 (.int .u32 s.seq) rfl
  have d4 := BS.out.cell 4 (.slice ls.a s.know.length ls.i) rfl
  have d5 := BS.out.cell 5 (.slice ls.b s.held.length ls.j) rfl
  have d6 := BS.out.cell 6 (.bool s.ses.on) rfl
  have d7 := BS.out.cell 7 (.int .u32 s.ses.num) rfl
  have d8 := BS.out.cell 8 (.int .u8 s.ses.src) rfl
  have d9 := BS.out.cell 9 (.int .u8 s.ses.cur) rfl
  have d10 := BS.out.cell 10 (.int .u32 s.ses.epoch) rfl
  have d11 := BS.out.cell 11 (.slice ls.c s.ses.offer.length ls.k) rfl
  have d12 := BS.out.cell 12 (.int .u32 s.ses.last) rfl
  go_wp2_with fail
  refine (R4.out w4 HB.out).mono ?_
  rintro e w5 ⟨rfl, hb⟩
  clear d0 d1 d2 d3 d4 d5 d6 d7 d8 d9 d10 d11 d12
  have BR := Lib.hid (BR.out.keep hb)
  have BS := Lib.hid (BS.out.keep hb)
  have HB := Lib.hid (HB.out.trans (hb.mono HB.out.size)); clear hb
  have c0 := BR.out.cell 0 (.int .u8 r.rep) rfl
  have c1 := BR.out.cell 1 (.int .u8 r.flt) rfl
  have c2 := BR.out.cell 2 (.int .u32 r.epoch) rfl
  have c3 := BR.out.cell 3 (.int .u32 r.seq) rfl
  have c4 := BR.out.cell 4 (.slice lr.a r.know.length lr.i) rfl
  have c5 := BR.out.cell 5 (.slice lr.b r.held.length lr.j) rfl
  have c6 := BR.out.cell 6 (.bool r.ses.on) rfl
  have c7 := BR.out.cell 7 (.int .u32 r.ses.num) rfl
  have c8 := BR.out.cell 8 (.int .u8 r.ses.src) rfl
  have c9 := BR.out.cell 9 (.int .u8 r.ses.cur) rfl
  have c10 := BR.out.cell 10 (.int .u32 r.ses.epoch) rfl
  have c11 := BR.out.cell 11 (.slice lr.c r.ses.offer.length lr.k) rfl
  have c12 := BR.out.cell 12 (.int .u32 r.ses.last) rfl
  have d0 := BS.out.cell 0 (.int .u8 s.rep) rfl
  go_wp2_with fail
  refine (BE.out w5 HB.out).mono ?_
  rintro e w6 ⟨v1, v2, ev, rfl, hx, hy, he, hb⟩
  clear c0 c1 c2 c3 c4 c5 c6 c7 c8 c9 c10 c11 c12
  clear d0
  have BR := Lib.hid (BR.out.keep hb)
  have BS := Lib.hid (BS.out.keep hb)
  have HB := Lib.hid (HB.out.trans (hb.mono HB.out.size)); clear hb
  obtain ⟨lx, rfl⟩ := hx.rows
  obtain ⟨ly, rfl⟩ := hy.rows
  obtain ⟨ty, uu, rfl⟩ : ∃ t u, ev = .iface t u := by
    rcases he.1 with h | h
    · exact absurd h.1 (by decide)
    · exact h.2
  clear he hx hy
  unfold repR repRow Rp.cells
  unfold noteR noteRow Nt.cells
  unfold zeroP zeroN
  dsimp only [List.length_nil]
  go_wp2_with fail
  go_ret
  exact ⟨rfl, HB.out.trans ((al2 w6 _ _).mono HB.out.size)⟩
end Go.Proofs.YtfjaeohfigcciabGreatDoor

