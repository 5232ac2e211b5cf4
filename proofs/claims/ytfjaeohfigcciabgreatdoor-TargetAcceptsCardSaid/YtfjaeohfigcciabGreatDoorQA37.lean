/- Texts in one: TAccepts. -/
import Derived.Test.YtfjaeohfigcciabGreatDoorQA34
import Derived.Test.YtfjaeohfigcciabGreatDoorQA35
import Derived.Test.YtfjaeohfigcciabGreatDoorQA36
import Derived.Test.YtfjaeohfigcciabGreatDoorQA19
set_option linter.all false
namespace Go.Proofs.YtfjaeohfigcciabGreatDoor
open Go.RowKit

def RefAcceptSaid (f : FuncId) : Prop := ∀ v u r b w,RpV w w.heap.size v r → NtV w w.heap.size u b → shortR r → shortN b → Calls Tryz.prog f #[v,u] w (AccPost w (acceptR r b))
theorem add_len {k k' : List Rn} {p n : Int} (h : addR k p n = .ok k') : k'.length ≤ 64 := ((right_iff _).1 (add_right h)).1
theorem takes_klen {f : Int} : ∀ (l : List En) (k : List Rn) (h : List En) (k' : List Rn) (h' : List En),takesR f l k h = .ok (k',h') → k.length ≤ 300 → k'.length ≤ 300
  | [],k,h,k',h',he,hk => by
    simp only [takesR,Except.ok.injEq,Prod.mk.injEq] at he
    rw [← he.1]; exact hk
  | e :: l,k,h,k',h',he,hk => by
    simp only [takesR] at he
    split at he
    · exact takes_klen l _ _ _ _ he hk
    · cases ha : addR k e.rep e.seq with
      | error c => rw [ha] at he; cases he
      | ok k2 => rw [ha] at he; exact takes_klen l _ _ _ _ he (Nat.le_trans (add_len ha) (by decide))
def lensA (a : Acc) : Prop := (a.r.know.length ≤ 1000 ∧ a.r.held.length ≤ 1000 ∧ a.r.ses.offer.length ≤ 1000) ∧ a.p.know.length ≤ 1000 ∧ a.p.ents.length ≤ 1000 ∧ a.p.offer.length ≤ 1000
theorem no_lens (c : Int) : lensA (noAcc c) := by unfold lensA noAcc zeroP zeroN; simp
theorem accept_lens {r : Rp} {b : Nt} (h : shortR r) (hb : shortN b) : lensA (acceptR r b) := by
  obtain ⟨h1,h2,h3⟩ := h
  obtain ⟨g1,g2,g3⟩ := hb
  unfold acceptR
  by_cases c1 : rpB r = false
  · rw [if_pos c1]; exact no_lens _
  rw [if_neg c1]
  split
  · exact no_lens _
  split
  · exact no_lens _
  split
  · exact no_lens _
  split
  · unfold lensA offP zeroN; simp; omega
  unfold takeP
  cases ht : takesR r.flt b.ents r.know r.held with
  | error c => exact no_lens _
  | ok z =>
    obtain ⟨k2,h2'⟩ := z
    have T := tookB _ _ _ _ _ _ (rise_of_right (rp_parts (by simpa using c1)).2.2.1) ht
    have hk := takes_klen _ _ _ _ _ ht h1
    have hl := T.len
    have ho : (if b.cur = 0 then b.offer else r.ses.offer).length ≤ 300 := by split <;> assumption
    unfold endR
    dsimp only
    split
    · cases hu : unionR (afterP r b k2 h2').know (afterP r b k2 h2').ses.offer with
      | error c => exact no_lens _
      | ok k3 =>
        have h3 := ((right_iff _).1 (union_told hu).2.2.1).1
        unfold lensA offP knowP afterP zeroN
        simp
        omega
    · unfold lensA pullP moveP afterP
      simp
      omega
set_option maxHeartbeats 16000000 in
set_option maxRecDepth 100000 in
theorem taccept_long1 (v u : Value) (r : Rp) (b : Nt) (w : World) (hv : RpV w w.heap.size v r) (hu : NtV w w.heap.size u b) (hg : ErrVar w) (haw : AwakeSaidE 6) (hac : AcceptSaid 9) (hra : RefAcceptSaid 10) (hs : ¬ shortR r) :
    Calls Tryz.prog 3 #[v,u] w fun e w' => e = .returned (.bool true) ∧ Below w.heap.size w w' := by
  have AW := Lib.hid (fun w1 (hb : Below w.heap.size w w1) => haw w1 (hg.later hb))
  have S5 := Lib.hid (fun w1 (hb : Below w.heap.size w w1) => by have := q5Short_any v r w1 (hv.later hb); rw [decide_eq_false (show ¬ (r.know.length ≤ 300 ∧ r.held.length ≤ 300 ∧ r.ses.offer.length ≤ 300) from hs)] at this; exact this)
  clear haw hac hra hg hs
  obtain ⟨lr,rfl⟩ := hv.rows
  obtain ⟨lb,rfl⟩ := hu.rows
  clear hv hu
  unfold repR repRow Rp.cells at S5 ⊢
  unfold noteR noteRow Nt.cells at ⊢
  go_enter Tryz.func3,Tryz.ntmps3
  go_wp2_with fail
  have HB := Lib.hid (al2 w (.cells #[.int .u8 r.rep,.int .u8 r.flt,.int .u32 r.epoch,.int .u32 r.seq,.slice lr.a r.know.length lr.i,.slice lr.b r.held.length lr.j,.bool r.ses.on,.int .u32 r.ses.num,.int .u8 r.ses.src,.int .u8 r.ses.cur,.int .u32 r.ses.epoch,.slice lr.c r.ses.offer.length lr.k,.int .u32 r.ses.last] 28) (.cells #[.int .i64 b.kind,.int .u8 b.src,.int .u8 b.dst,.int .u32 b.num,.int .u8 b.cur,.int .u8 b.flt,.slice lb.a b.know.length lb.i,.int .u32 b.epoch,.slice lb.b b.ents.length lb.j,.int .u8 b.next,.bool b.done,.slice lb.c b.offer.length lb.k] 30))
  have BR := Lib.hid ((Blk.new w #[.int .u8 r.rep,.int .u8 r.flt,.int .u32 r.epoch,.int .u32 r.seq,.slice lr.a r.know.length lr.i,.slice lr.b r.held.length lr.j,.bool r.ses.on,.int .u32 r.ses.num,.int .u8 r.ses.src,.int .u8 r.ses.cur,.int .u32 r.ses.epoch,.slice lr.c r.ses.offer.length lr.k,.int .u32 r.ses.last] 28).alloc (.cells #[.int .i64 b.kind,.int .u8 b.src,.int .u8 b.dst,.int .u32 b.num,.int .u8 b.cur,.int .u8 b.flt,.slice lb.a b.know.length lb.i,.int .u32 b.epoch,.slice lb.b b.ents.length lb.j,.int .u8 b.next,.bool b.done,.slice lb.c b.offer.length lb.k] 30))
  have BN := Lib.hid (blk_two w (.cells #[.int .u8 r.rep,.int .u8 r.flt,.int .u32 r.epoch,.int .u32 r.seq,.slice lr.a r.know.length lr.i,.slice lr.b r.held.length lr.j,.bool r.ses.on,.int .u32 r.ses.num,.int .u8 r.ses.src,.int .u8 r.ses.cur,.int .u32 r.ses.epoch,.slice lr.c r.ses.offer.length lr.k,.int .u32 r.ses.last] 28) #[.int .i64 b.kind,.int .u8 b.src,.int .u8 b.dst,.int .u32 b.num,.int .u8 b.cur,.int .u8 b.flt,.slice lb.a b.know.length lb.i,.int .u32 b.epoch,.slice lb.b b.ents.length lb.j,.int .u8 b.next,.bool b.done,.slice lb.c b.offer.length lb.k] 30)
  generalize (w.alloc (.cells #[.int .u8 r.rep,.int .u8 r.flt,.int .u32 r.epoch,.int .u32 r.seq,.slice lr.a r.know.length lr.i,.slice lr.b r.held.length lr.j,.bool r.ses.on,.int .u32 r.ses.num,.int .u8 r.ses.src,.int .u8 r.ses.cur,.int .u32 r.ses.epoch,.slice lr.c r.ses.offer.length lr.k,.int .u32 r.ses.last] 28)).alloc (.cells #[.int .i64 b.kind,.int .u8 b.src,.int .u8 b.dst,.int .u32 b.num,.int .u8 b.cur,.int .u8 b.flt,.slice lb.a b.know.length lb.i,.int .u32 b.epoch,.slice lb.b b.ents.length lb.j,.int .u8 b.next,.bool b.done,.slice lb.c b.offer.length lb.k] 30) = wz at HB BR BN ⊢
  refine (AW.out wz HB.out).mono ?_
  rintro e w1 ⟨rfl,hb⟩
  have BR := Lib.hid (BR.out.keep hb)
  have BN := Lib.hid (BN.out.keep hb)
  have HB := Lib.hid (HB.out.trans (hb.mono HB.out.size)); clear hb
  have c0 := BR.out.cell 0 (.int .u8 r.rep) rfl
  have c1 := BR.out.cell 1 (.int .u8 r.flt) rfl
  have c2 := BR.out.cell 2 (.int .u32 r.epoch) rfl
  have c3 := BR.out.cell 3 (.int .u32 r.seq) rfl
  have c4 := BR.out.cell 4 (.slice lr.a r.know.length lr.i) rfl
  have c5 := BR.out.cell 5 (.slice lr.b r.held.length lr.j) rfl
  have c6 := BR.out.cell 6 (.bool r.ses.on) rfl
  have c7 := BR.out.cell 7 (.int .u32 r.ses.num) rfl
  have c8 := BR.out.cell 8 (.int .u8 r.ses.src) rfl
  have c9 := BR.out.cell 9 (.int .u8 r.ses.cur) rfl
  have c10 := BR.out.cell 10 (.int .u32 r.ses.epoch) rfl
  have c11 := BR.out.cell 11 (.slice lr.c r.ses.offer.length lr.k) rfl
  have c12 := BR.out.cell 12 (.int .u32 r.ses.last) rfl
  go_wp2_with fail
  refine (S5.out w1 HB.out).mono ?_
  rintro e w2 ⟨rfl,hb⟩
  clear c0 c1 c2 c3 c4 c5 c6 c7 c8 c9 c10 c11 c12
  have BR := Lib.hid (BR.out.keep hb)
  have BN := Lib.hid (BN.out.keep hb)
  have HB := Lib.hid (HB.out.trans (hb.mono HB.out.size)); clear hb
  go_wp2_with fail
  go_ret
  exact ⟨rfl,HB.out⟩
set_option maxHeartbeats 16000000 in
set_option maxRecDepth 100000 in
theorem taccept_long2 (v u : Value) (r : Rp) (b : Nt) (w : World) (hv : RpV w w.heap.size v r) (hu : NtV w w.heap.size u b) (hg : ErrVar w) (haw : AwakeSaidE 6) (hac : AcceptSaid 9) (hra : RefAcceptSaid 10) (hs : shortR r) (hp : ¬ shortN b) :
    Calls Tryz.prog 3 #[v,u] w fun e w' => e = .returned (.bool true) ∧ Below w.heap.size w w' := by
  have AW := Lib.hid (fun w1 (hb : Below w.heap.size w w1) => haw w1 (hg.later hb))
  have S5 := Lib.hid (fun w1 (hb : Below w.heap.size w w1) => by have := q5Short_any v r w1 (hv.later hb); rw [decide_eq_true (show r.know.length ≤ 300 ∧ r.held.length ≤ 300 ∧ r.ses.offer.length ≤ 300 from hs)] at this; exact this)
  have S4 := Lib.hid (fun w1 (hb : Below w.heap.size w w1) => by have := q4Short_any u b w1 (hu.later hb); rw [decide_eq_false (show ¬ (b.know.length ≤ 300 ∧ b.ents.length ≤ 300 ∧ b.offer.length ≤ 300) from hp)] at this; exact this)
  clear haw hac hra hg hs hp
  obtain ⟨lr,rfl⟩ := hv.rows
  obtain ⟨lb,rfl⟩ := hu.rows
  clear hv hu
  unfold repR repRow Rp.cells at S5 ⊢
  unfold noteR noteRow Nt.cells at S4 ⊢
  go_enter Tryz.func3,Tryz.ntmps3
  go_wp2_with fail
  have HB := Lib.hid (al2 w (.cells #[.int .u8 r.rep,.int .u8 r.flt,.int .u32 r.epoch,.int .u32 r.seq,.slice lr.a r.know.length lr.i,.slice lr.b r.held.length lr.j,.bool r.ses.on,.int .u32 r.ses.num,.int .u8 r.ses.src,.int .u8 r.ses.cur,.int .u32 r.ses.epoch,.slice lr.c r.ses.offer.length lr.k,.int .u32 r.ses.last] 28) (.cells #[.int .i64 b.kind,.int .u8 b.src,.int .u8 b.dst,.int .u32 b.num,.int .u8 b.cur,.int .u8 b.flt,.slice lb.a b.know.length lb.i,.int .u32 b.epoch,.slice lb.b b.ents.length lb.j,.int .u8 b.next,.bool b.done,.slice lb.c b.offer.length lb.k] 30))
  have BR := Lib.hid ((Blk.new w #[.int .u8 r.rep,.int .u8 r.flt,.int .u32 r.epoch,.int .u32 r.seq,.slice lr.a r.know.length lr.i,.slice lr.b r.held.length lr.j,.bool r.ses.on,.int .u32 r.ses.num,.int .u8 r.ses.src,.int .u8 r.ses.cur,.int .u32 r.ses.epoch,.slice lr.c r.ses.offer.length lr.k,.int .u32 r.ses.last] 28).alloc (.cells #[.int .i64 b.kind,.int .u8 b.src,.int .u8 b.dst,.int .u32 b.num,.int .u8 b.cur,.int .u8 b.flt,.slice lb.a b.know.length lb.i,.int .u32 b.epoch,.slice lb.b b.ents.length lb.j,.int .u8 b.next,.bool b.done,.slice lb.c b.offer.length lb.k] 30))
  have BN := Lib.hid (blk_two w (.cells #[.int .u8 r.rep,.int .u8 r.flt,.int .u32 r.epoch,.int .u32 r.seq,.slice lr.a r.know.length lr.i,.slice lr.b r.held.length lr.j,.bool r.ses.on,.int .u32 r.ses.num,.int .u8 r.ses.src,.int .u8 r.ses.cur,.int .u32 r.ses.epoch,.slice lr.c r.ses.offer.length lr.k,.int .u32 r.ses.last] 28) #[.int .i64 b.kind,.int .u8 b.src,.int .u8 b.dst,.int .u32 b.num,.int .u8 b.cur,.int .u8 b.flt,.slice lb.a b.know.length lb.i,.int .u32 b.epoch,.slice lb.b b.ents.length lb.j,.int .u8 b.next,.bool b.done,.slice lb.c b.offer.length lb.k] 30)
  generalize (w.alloc (.cells #[.int .u8 r.rep,.int .u8 r.flt,.int .u32 r.epoch,.int .u32 r.seq,.slice lr.a r.know.length lr.i,.slice lr.b r.held.length lr.j,.bool r.ses.on,.int .u32 r.ses.num,.int .u8 r.ses.src,.int .u8 r.ses.cur,.int .u32 r.ses.epoch,.slice lr.c r.ses.offer.length lr.k,.int .u32 r.ses.last] 28)).alloc (.cells #[.int .i64 b.kind,.int .u8 b.src,.int .u8 b.dst,.int .u32 b.num,.int .u8 b.cur,.int .u8 b.flt,.slice lb.a b.know.length lb.i,.int .u32 b.epoch,.slice lb.b b.ents.length lb.j,.int .u8 b.next,.bool b.done,.slice lb.c b.offer.length lb.k] 30) = wz at HB BR BN ⊢
  refine (AW.out wz HB.out).mono ?_
  rintro e w1 ⟨rfl,hb⟩
  have BR := Lib.hid (BR.out.keep hb)
  have BN := Lib.hid (BN.out.keep hb)
  have HB := Lib.hid (HB.out.trans (hb.mono HB.out.size)); clear hb
  have c0 := BR.out.cell 0 (.int .u8 r.rep) rfl
  have c1 := BR.out.cell 1 (.int .u8 r.flt) rfl
  have c2 := BR.out.cell 2 (.int .u32 r.epoch) rfl
  have c3 := BR.out.cell 3 (.int .u32 r.seq) rfl
  have c4 := BR.out.cell 4 (.slice lr.a r.know.length lr.i) rfl
  have c5 := BR.out.cell 5 (.slice lr.b r.held.length lr.j) rfl
  have c6 := BR.out.cell 6 (.bool r.ses.on) rfl
  have c7 := BR.out.cell 7 (.int .u32 r.ses.num) rfl
  have c8 := BR.out.cell 8 (.int .u8 r.ses.src) rfl
  have c9 := BR.out.cell 9 (.int .u8 r.ses.cur) rfl
  have c10 := BR.out.cell 10 (.int .u32 r.ses.epoch) rfl
  have c11 := BR.out.cell 11 (.slice lr.c r.ses.offer.length lr.k) rfl
  have c12 := BR.out.cell 12 (.int .u32 r.ses.last) rfl
  go_wp2_with fail
  refine (S5.out w1 HB.out).mono ?_
  rintro e w2 ⟨rfl,hb⟩
  clear c0 c1 c2 c3 c4 c5 c6 c7 c8 c9 c10 c11 c12
  have BR := Lib.hid (BR.out.keep hb)
  have BN := Lib.hid (BN.out.keep hb)
  have HB := Lib.hid (HB.out.trans (hb.mono HB.out.size)); clear hb
  have n0 := BN.out.cell 0 (.int .i64 b.kind) rfl
  have n1 := BN.out.cell 1 (.int .u8 b.src) rfl
  have n2 := BN.out.cell 2 (.int .u8 b.dst) rfl
  have n3 := BN.out.cell 3 (.int .u32 b.num) rfl
  have n4 := BN.out.cell 4 (.int .u8 b.cur) rfl
  have n5 := BN.out.cell 5 (.int .u8 b.flt) rfl
  have n6 := BN.out.cell 6 (.slice lb.a b.know.length lb.i) rfl
  have n7 := BN.out.cell 7 (.int .u32 b.epoch) rfl
  have n8 := BN.out.cell 8 (.slice lb.b b.ents.length lb.j) rfl
  have n9 := BN.out.cell 9 (.int .u8 b.next) rfl
  have n10 := BN.out.cell 10 (.bool b.done) rfl
  have n11 := BN.out.cell 11 (.slice lb.c b.offer.length lb.k) rfl
  go_wp2_with fail
  refine (S4.out w2 HB.out).mono ?_
  rintro e w3 ⟨rfl,hb⟩
  clear n0 n1 n2 n3 n4 n5 n6 n7 n8 n9 n10 n11
  have BR := Lib.hid (BR.out.keep hb)
  have BN := Lib.hid (BN.out.keep hb)
  have HB := Lib.hid (HB.out.trans (hb.mono HB.out.size)); clear hb
  go_wp2_with fail
  go_ret
  exact ⟨rfl,HB.out⟩
set_option maxHeartbeats 16000000 in
set_option maxRecDepth 100000 in
theorem taccept_go (v u : Value) (r : Rp) (b : Nt) (w : World) (hv : RpV w w.heap.size v r) (hu : NtV w w.heap.size u b) (hg : ErrVar w) (haw : AwakeSaidE 6) (hac : AcceptSaid 9) (hra : RefAcceptSaid 10) (hs : shortR r) (hp : shortN b) :
    Calls Tryz.prog 3 #[v,u] w fun e w' => e = .returned (.bool true) ∧ Below w.heap.size w w' := by
  have AW := Lib.hid (fun w1 (hb : Below w.heap.size w w1) => haw w1 (hg.later hb))
  have S5 := Lib.hid (fun w1 (hb : Below w.heap.size w w1) => by have := q5Short_any v r w1 (hv.later hb); rw [decide_eq_true (show r.know.length ≤ 300 ∧ r.held.length ≤ 300 ∧ r.ses.offer.length ≤ 300 from hs)] at this; exact this)
  have S4 := Lib.hid (fun w1 (hb : Below w.heap.size w w1) => by have := q4Short_any u b w1 (hu.later hb); rw [decide_eq_true (show b.know.length ≤ 300 ∧ b.ents.length ≤ 300 ∧ b.offer.length ≤ 300 from hp)] at this; exact this)
  have AC := Lib.hid (fun w1 (hb : Below w.heap.size w w1) => hac v u r b w1 (hg.later hb) (hv.later hb) (hu.later hb) hs hp)
  have RA := Lib.hid (fun w1 (hb : Below w.heap.size w w1) => hra v u r b w1 (hv.later hb) (hu.later hb) hs hp)
  have LN := Lib.hid (accept_lens hs hp)
  generalize acceptR r b = a at AC RA LN
  obtain ⟨x,y,m,c⟩ := a
  clear haw hac hra hg hs hp
  obtain ⟨lr,rfl⟩ := hv.rows
  obtain ⟨lb,rfl⟩ := hu.rows
  clear hv hu
  unfold AccPost at RA
  unfold repR repRow Rp.cells at S5 AC RA ⊢
  unfold noteR noteRow Nt.cells at S4 AC RA ⊢
  go_enter Tryz.func3,Tryz.ntmps3
  go_wp2_with fail
  have HB := Lib.hid (al2 w (.cells #[.int .u8 r.rep,.int .u8 r.flt,.int .u32 r.epoch,.int .u32 r.seq,.slice lr.a r.know.length lr.i,.slice lr.b r.held.length lr.j,.bool r.ses.on,.int .u32 r.ses.num,.int .u8 r.ses.src,.int .u8 r.ses.cur,.int .u32 r.ses.epoch,.slice lr.c r.ses.offer.length lr.k,.int .u32 r.ses.last] 28) (.cells #[.int .i64 b.kind,.int .u8 b.src,.int .u8 b.dst,.int .u32 b.num,.int .u8 b.cur,.int .u8 b.flt,.slice lb.a b.know.length lb.i,.int .u32 b.epoch,.slice lb.b b.ents.length lb.j,.int .u8 b.next,.bool b.done,.slice lb.c b.offer.length lb.k] 30))
  have BR := Lib.hid ((Blk.new w #[.int .u8 r.rep,.int .u8 r.flt,.int .u32 r.epoch,.int .u32 r.seq,.slice lr.a r.know.length lr.i,.slice lr.b r.held.length lr.j,.bool r.ses.on,.int .u32 r.ses.num,.int .u8 r.ses.src,.int .u8 r.ses.cur,.int .u32 r.ses.epoch,.slice lr.c r.ses.offer.length lr.k,.int .u32 r.ses.last] 28).alloc (.cells #[.int .i64 b.kind,.int .u8 b.src,.int .u8 b.dst,.int .u32 b.num,.int .u8 b.cur,.int .u8 b.flt,.slice lb.a b.know.length lb.i,.int .u32 b.epoch,.slice lb.b b.ents.length lb.j,.int .u8 b.next,.bool b.done,.slice lb.c b.offer.length lb.k] 30))
  have BN := Lib.hid (blk_two w (.cells #[.int .u8 r.rep,.int .u8 r.flt,.int .u32 r.epoch,.int .u32 r.seq,.slice lr.a r.know.length lr.i,.slice lr.b r.held.length lr.j,.bool r.ses.on,.int .u32 r.ses.num,.int .u8 r.ses.src,.int .u8 r.ses.cur,.int .u32 r.ses.epoch,.slice lr.c r.ses.offer.length lr.k,.int .u32 r.ses.last] 28) #[.int .i64 b.kind,.int .u8 b.src,.int .u8 b.dst,.int .u32 b.num,.int .u8 b.cur,.int .u8 b.flt,.slice lb.a b.know.length lb.i,.int .u32 b.epoch,.slice lb.b b.ents.length lb.j,.int .u8 b.next,.bool b.done,.slice lb.c b.offer.length lb.k] 30)
  generalize (w.alloc (.cells #[.int .u8 r.rep,.int .u8 r.flt,.int .u32 r.epoch,.int .u32 r.seq,.slice lr.a r.know.length lr.i,.slice lr.b r.held.length lr.j,.bool r.ses.on,.int .u32 r.ses.num,.int .u8 r.ses.src,.int .u8 r.ses.cur,.int .u32 r.ses.epoch,.slice lr.c r.ses.offer.length lr.k,.int .u32 r.ses.last] 28)).alloc (.cells #[.int .i64 b.kind,.int .u8 b.src,.int .u8 b.dst,.int .u32 b.num,.int .u8 b.cur,.int .u8 b.flt,.slice lb.a b.know.length lb.i,.int .u32 b.epoch,.slice lb.b b.ents.length lb.j,.int .u8 b.next,.bool b.done,.slice lb.c b.offer.length lb.k] 30) = wz at HB BR BN ⊢
  refine (AW.out wz HB.out).mono ?_
  rintro e w1 ⟨rfl,hb⟩
  have BR := Lib.hid (BR.out.keep hb)
  have BN := Lib.hid (BN.out.keep hb)
  have HB := Lib.hid (HB.out.trans (hb.mono HB.out.size)); clear hb
  have c0 := BR.out.cell 0 (.int .u8 r.rep) rfl
  have c1 := BR.out.cell 1 (.int .u8 r.flt) rfl
  have c2 := BR.out.cell 2 (.int .u32 r.epoch) rfl
  have c3 := BR.out.cell 3 (.int .u32 r.seq) rfl
  have c4 := BR.out.cell 4 (.slice lr.a r.know.length lr.i) rfl
  have c5 := BR.out.cell 5 (.slice lr.b r.held.length lr.j) rfl
  have c6 := BR.out.cell 6 (.bool r.ses.on) rfl
  have c7 := BR.out.cell 7 (.int .u32 r.ses.num) rfl
  have c8 := BR.out.cell 8 (.int .u8 r.ses.src) rfl
  have c9 := BR.out.cell 9 (.int .u8 r.ses.cur) rfl
  have c10 := BR.out.cell 10 (.int .u32 r.ses.epoch) rfl
  have c11 := BR.out.cell 11 (.slice lr.c r.ses.offer.length lr.k) rfl
  have c12 := BR.out.cell 12 (.int .u32 r.ses.last) rfl
  go_wp2_with fail
  refine (S5.out w1 HB.out).mono ?_
  rintro e w2 ⟨rfl,hb⟩
  clear c0 c1 c2 c3 c4 c5 c6 c7 c8 c9 c10 c11 c12
  have BR := Lib.hid (BR.out.keep hb)
  have BN := Lib.hid (BN.out.keep hb)
  have HB := Lib.hid (HB.out.trans (hb.mono HB.out.size)); clear hb
  have n0 := BN.out.cell 0 (.int .i64 b.kind) rfl
  have n1 := BN.out.cell 1 (.int .u8 b.src) rfl
  have n2 := BN.out.cell 2 (.int .u8 b.dst) rfl
  have n3 := BN.out.cell 3 (.int .u32 b.num) rfl
  have n4 := BN.out.cell 4 (.int .u8 b.cur) rfl
  have n5 := BN.out.cell 5 (.int .u8 b.flt) rfl
  have n6 := BN.out.cell 6 (.slice lb.a b.know.length lb.i) rfl
  have n7 := BN.out.cell 7 (.int .u32 b.epoch) rfl
  have n8 := BN.out.cell 8 (.slice lb.b b.ents.length lb.j) rfl
  have n9 := BN.out.cell 9 (.int .u8 b.next) rfl
  have n10 := BN.out.cell 10 (.bool b.done) rfl
  have n11 := BN.out.cell 11 (.slice lb.c b.offer.length lb.k) rfl
  go_wp2_with fail
  refine (S4.out w2 HB.out).mono ?_
  rintro e w3 ⟨rfl,hb⟩
  clear n0 n1 n2 n3 n4 n5 n6 n7 n8 n9 n10 n11
  have BR := Lib.hid (BR.out.keep hb)
  have BN := Lib.hid (BN.out.keep hb)
  have HB := Lib.hid (HB.out.trans (hb.mono HB.out.size)); clear hb
  have c0 := BR.out.cell 0 (.int .u8 r.rep) rfl
  have c1 := BR.out.cell 1 (.int .u8 r.flt) rfl
  have c2 := BR.out.cell 2 (.int .u32 r.epoch) rfl
  have c3 := BR.out.cell 3 (.int .u32 r.seq) rfl
  have c4 := BR.out.cell 4 (.slice lr.a r.know.length lr.i) rfl
  have c5 := BR.out.cell 5 (.slice lr.b r.held.length lr.j) rfl
  have c6 := BR.out.cell 6 (.bool r.ses.on) rfl
  have c7 := BR.out.cell 7 (.int .u32 r.ses.num) rfl
  have c8 := BR.out.cell 8 (.int .u8 r.ses.src) rfl
  have c9 := BR.out.cell 9 (.int .u8 r.ses.cur) rfl
  have c10 := BR.out.cell 10 (.int .u32 r.ses.epoch) rfl
  have c11 := BR.out.cell 11 (.slice lr.c r.ses.offer.length lr.k) rfl
  have c12 := BR.out.cell 12 (.int .u32 r.ses.last) rfl
  have n0 := BN.out.cell 0 (.int .i64 b.kind) rfl
  have n1 := BN.out.cell 1 (.int .u8 b.src) rfl
  have n2 := BN.out.cell 2 (.int .u8 b.dst) rfl
  have n3 := BN.out.cell 3 (.int .u32 b.num) rfl
  have n4 := BN.out.cell 4 (.int .u8 b.cur) rfl
  have n5 := BN.out.cell 5 (.int .u8 b.flt) rfl
  have n6 := BN.out.cell 6 (.slice lb.a b.know.length lb.i) rfl
  have n7 := BN.out.cell 7 (.int .u32 b.epoch) rfl
  have n8 := BN.out.cell 8 (.slice lb.b b.ents.length lb.j) rfl
  have n9 := BN.out.cell 9 (.int .u8 b.next) rfl
  have n10 := BN.out.cell 10 (.bool b.done) rfl
  have n11 := BN.out.cell 11 (.slice lb.c b.offer.length lb.k) rfl
  go_wp2_with fail
  refine (AC.out w3 HB.out).mono ?_
  rintro e w4 ⟨v1,v2,ev,rfl,hx,hy,he,hb,_⟩
  clear c0 c1 c2 c3 c4 c5 c6 c7 c8 c9 c10 c11 c12 n0 n1 n2 n3 n4 n5 n6 n7 n8 n9 n10 n11
  have H1 := Lib.hid (Below.refl w4.heap.size w4)
  have BR := Lib.hid (BR.out.keep hb)
  have BN := Lib.hid (BN.out.keep hb)
  have HB := Lib.hid (HB.out.trans (hb.mono HB.out.size)); clear hb
  obtain ⟨lx,rfl⟩ := hx.rows
  obtain ⟨ly,rfl⟩ := hy.rows
  have HX := Lib.hid hx
  have HY := Lib.hid hy
  have HE := Lib.hid he.2
  clear hx hy he
  unfold repR repRow Rp.cells
  unfold noteR noteRow Nt.cells
  have l1 : w.heap.size < w4.heap.size := BR.out.lt
  have l2 : w.heap.size + 1 < w4.heap.size := BN.out.lt
  have c0 := BR.out.cell 0 (.int .u8 r.rep) rfl
  have c1 := BR.out.cell 1 (.int .u8 r.flt) rfl
  have c2 := BR.out.cell 2 (.int .u32 r.epoch) rfl
  have c3 := BR.out.cell 3 (.int .u32 r.seq) rfl
  have c4 := BR.out.cell 4 (.slice lr.a r.know.length lr.i) rfl
  have c5 := BR.out.cell 5 (.slice lr.b r.held.length lr.j) rfl
  have c6 := BR.out.cell 6 (.bool r.ses.on) rfl
  have c7 := BR.out.cell 7 (.int .u32 r.ses.num) rfl
  have c8 := BR.out.cell 8 (.int .u8 r.ses.src) rfl
  have c9 := BR.out.cell 9 (.int .u8 r.ses.cur) rfl
  have c10 := BR.out.cell 10 (.int .u32 r.ses.epoch) rfl
  have c11 := BR.out.cell 11 (.slice lr.c r.ses.offer.length lr.k) rfl
  have c12 := BR.out.cell 12 (.int .u32 r.ses.last) rfl
  have n0 := BN.out.cell 0 (.int .i64 b.kind) rfl
  have n1 := BN.out.cell 1 (.int .u8 b.src) rfl
  have n2 := BN.out.cell 2 (.int .u8 b.dst) rfl
  have n3 := BN.out.cell 3 (.int .u32 b.num) rfl
  have n4 := BN.out.cell 4 (.int .u8 b.cur) rfl
  have n5 := BN.out.cell 5 (.int .u8 b.flt) rfl
  have n6 := BN.out.cell 6 (.slice lb.a b.know.length lb.i) rfl
  have n7 := BN.out.cell 7 (.int .u32 b.epoch) rfl
  have n8 := BN.out.cell 8 (.slice lb.b b.ents.length lb.j) rfl
  have n9 := BN.out.cell 9 (.int .u8 b.next) rfl
  have n10 := BN.out.cell 10 (.bool b.done) rfl
  have n11 := BN.out.cell 11 (.slice lb.c b.offer.length lb.k) rfl
  go_wp2_with fail
  have hb := al2 w4 (.cells #[.int .u8 x.rep,.int .u8 x.flt,.int .u32 x.epoch,.int .u32 x.seq,.slice lx.a x.know.length lx.i,.slice lx.b x.held.length lx.j,.bool x.ses.on,.int .u32 x.ses.num,.int .u8 x.ses.src,.int .u8 x.ses.cur,.int .u32 x.ses.epoch,.slice lx.c x.ses.offer.length lx.k,.int .u32 x.ses.last] 28) (.cells #[.int .i64 y.kind,.int .u8 y.src,.int .u8 y.dst,.int .u32 y.num,.int .u8 y.cur,.int .u8 y.flt,.slice ly.a y.know.length ly.i,.int .u32 y.epoch,.slice ly.b y.ents.length ly.j,.int .u8 y.next,.bool y.done,.slice ly.c y.offer.length ly.k] 30)
  have K5 := Lib.hid ((Blk.new w4 #[.int .u8 x.rep,.int .u8 x.flt,.int .u32 x.epoch,.int .u32 x.seq,.slice lx.a x.know.length lx.i,.slice lx.b x.held.length lx.j,.bool x.ses.on,.int .u32 x.ses.num,.int .u8 x.ses.src,.int .u8 x.ses.cur,.int .u32 x.ses.epoch,.slice lx.c x.ses.offer.length lx.k,.int .u32 x.ses.last] 28).alloc (.cells #[.int .i64 y.kind,.int .u8 y.src,.int .u8 y.dst,.int .u32 y.num,.int .u8 y.cur,.int .u8 y.flt,.slice ly.a y.know.length ly.i,.int .u32 y.epoch,.slice ly.b y.ents.length ly.j,.int .u8 y.next,.bool y.done,.slice ly.c y.offer.length ly.k] 30))
  have K6 := Lib.hid (blk_two w4 (.cells #[.int .u8 x.rep,.int .u8 x.flt,.int .u32 x.epoch,.int .u32 x.seq,.slice lx.a x.know.length lx.i,.slice lx.b x.held.length lx.j,.bool x.ses.on,.int .u32 x.ses.num,.int .u8 x.ses.src,.int .u8 x.ses.cur,.int .u32 x.ses.epoch,.slice lx.c x.ses.offer.length lx.k,.int .u32 x.ses.last] 28) #[.int .i64 y.kind,.int .u8 y.src,.int .u8 y.dst,.int .u32 y.num,.int .u8 y.cur,.int .u8 y.flt,.slice ly.a y.know.length ly.i,.int .u32 y.epoch,.slice ly.b y.ents.length ly.j,.int .u8 y.next,.bool y.done,.slice ly.c y.offer.length ly.k] 30)
  generalize (w4.alloc (.cells #[.int .u8 x.rep,.int .u8 x.flt,.int .u32 x.epoch,.int .u32 x.seq,.slice lx.a x.know.length lx.i,.slice lx.b x.held.length lx.j,.bool x.ses.on,.int .u32 x.ses.num,.int .u8 x.ses.src,.int .u8 x.ses.cur,.int .u32 x.ses.epoch,.slice lx.c x.ses.offer.length lx.k,.int .u32 x.ses.last] 28)).alloc (.cells #[.int .i64 y.kind,.int .u8 y.src,.int .u8 y.dst,.int .u32 y.num,.int .u8 y.cur,.int .u8 y.flt,.slice ly.a y.know.length ly.i,.int .u32 y.epoch,.slice ly.b y.ents.length ly.j,.int .u8 y.next,.bool y.done,.slice ly.c y.offer.length ly.k] 30) = wa at hb K5 K6 ⊢
  have BR := Lib.hid (BR.out.keep hb)
  have BN := Lib.hid (BN.out.keep hb)
  have H1 := Lib.hid (H1.out.trans (hb.mono H1.out.size))
  have HB := Lib.hid (HB.out.trans (hb.mono HB.out.size)); clear hb
  clear c0 c1 c2 c3 c4 c5 c6 c7 c8 c9 c10 c11 c12 n0 n1 n2 n3 n4 n5 n6 n7 n8 n9 n10 n11
  clear l1 l2
  refine (RA.out wa HB.out).mono ?_
  rintro e w5 ⟨v3,v4,rfl,hx,hy,hb⟩
  have H2 := Lib.hid (Below.refl w5.heap.size w5)
  have BR := Lib.hid (BR.out.keep hb)
  have BN := Lib.hid (BN.out.keep hb)
  have K5 := Lib.hid (K5.out.keep hb)
  have K6 := Lib.hid (K6.out.keep hb)
  have H1 := Lib.hid (H1.out.trans (hb.mono H1.out.size))
  have HB := Lib.hid (HB.out.trans (hb.mono HB.out.size)); clear hb
  obtain ⟨lz,rfl⟩ := hx.rows
  obtain ⟨lv,rfl⟩ := hy.rows
  have HZ := Lib.hid hx
  have HV := Lib.hid hy
  clear hx hy
  unfold repR repRow Rp.cells
  unfold noteR noteRow Nt.cells
  go_wp2_with fail
  have hb := al2 w5 (.cells #[.int .u8 x.rep,.int .u8 x.flt,.int .u32 x.epoch,.int .u32 x.seq,.slice lz.a x.know.length lz.i,.slice lz.b x.held.length lz.j,.bool x.ses.on,.int .u32 x.ses.num,.int .u8 x.ses.src,.int .u8 x.ses.cur,.int .u32 x.ses.epoch,.slice lz.c x.ses.offer.length lz.k,.int .u32 x.ses.last] 28) (.cells #[.int .i64 y.kind,.int .u8 y.src,.int .u8 y.dst,.int .u32 y.num,.int .u8 y.cur,.int .u8 y.flt,.slice lv.a y.know.length lv.i,.int .u32 y.epoch,.slice lv.b y.ents.length lv.j,.int .u8 y.next,.bool y.done,.slice lv.c y.offer.length lv.k] 30)
  have K9 := Lib.hid ((Blk.new w5 #[.int .u8 x.rep,.int .u8 x.flt,.int .u32 x.epoch,.int .u32 x.seq,.slice lz.a x.know.length lz.i,.slice lz.b x.held.length lz.j,.bool x.ses.on,.int .u32 x.ses.num,.int .u8 x.ses.src,.int .u8 x.ses.cur,.int .u32 x.ses.epoch,.slice lz.c x.ses.offer.length lz.k,.int .u32 x.ses.last] 28).alloc (.cells #[.int .i64 y.kind,.int .u8 y.src,.int .u8 y.dst,.int .u32 y.num,.int .u8 y.cur,.int .u8 y.flt,.slice lv.a y.know.length lv.i,.int .u32 y.epoch,.slice lv.b y.ents.length lv.j,.int .u8 y.next,.bool y.done,.slice lv.c y.offer.length lv.k] 30))
  have KA := Lib.hid (blk_two w5 (.cells #[.int .u8 x.rep,.int .u8 x.flt,.int .u32 x.epoch,.int .u32 x.seq,.slice lz.a x.know.length lz.i,.slice lz.b x.held.length lz.j,.bool x.ses.on,.int .u32 x.ses.num,.int .u8 x.ses.src,.int .u8 x.ses.cur,.int .u32 x.ses.epoch,.slice lz.c x.ses.offer.length lz.k,.int .u32 x.ses.last] 28) #[.int .i64 y.kind,.int .u8 y.src,.int .u8 y.dst,.int .u32 y.num,.int .u8 y.cur,.int .u8 y.flt,.slice lv.a y.know.length lv.i,.int .u32 y.epoch,.slice lv.b y.ents.length lv.j,.int .u8 y.next,.bool y.done,.slice lv.c y.offer.length lv.k] 30)
  generalize (w5.alloc (.cells #[.int .u8 x.rep,.int .u8 x.flt,.int .u32 x.epoch,.int .u32 x.seq,.slice lz.a x.know.length lz.i,.slice lz.b x.held.length lz.j,.bool x.ses.on,.int .u32 x.ses.num,.int .u8 x.ses.src,.int .u8 x.ses.cur,.int .u32 x.ses.epoch,.slice lz.c x.ses.offer.length lz.k,.int .u32 x.ses.last] 28)).alloc (.cells #[.int .i64 y.kind,.int .u8 y.src,.int .u8 y.dst,.int .u32 y.num,.int .u8 y.cur,.int .u8 y.flt,.slice lv.a y.know.length lv.i,.int .u32 y.epoch,.slice lv.b y.ents.length lv.j,.int .u8 y.next,.bool y.done,.slice lv.c y.offer.length lv.k] 30) = wb at hb K9 KA ⊢
  have K5 := Lib.hid (K5.out.keep hb)
  have K6 := Lib.hid (K6.out.keep hb)
  have H1 := Lib.hid (H1.out.trans (hb.mono H1.out.size))
  have H2 := Lib.hid (H2.out.trans (hb.mono H2.out.size))
  have HB := Lib.hid (HB.out.trans (hb.mono HB.out.size)); clear hb
  refine (HE.out wb H1.out).mono ?_
  rintro e w6 ⟨rfl,hb⟩
  have K5 := Lib.hid (K5.out.keep hb)
  have K6 := Lib.hid (K6.out.keep hb)
  have K9 := Lib.hid (K9.out.keep hb)
  have KA := Lib.hid (KA.out.keep hb)
  have H1 := Lib.hid (H1.out.trans (hb.mono H1.out.size))
  have H2 := Lib.hid (H2.out.trans (hb.mono H2.out.size))
  have HB := Lib.hid (HB.out.trans (hb.mono HB.out.size)); clear hb
  have c0 := K5.out.cell 0 (.int .u8 x.rep) rfl
  have c1 := K5.out.cell 1 (.int .u8 x.flt) rfl
  have c2 := K5.out.cell 2 (.int .u32 x.epoch) rfl
  have c3 := K5.out.cell 3 (.int .u32 x.seq) rfl
  have c4 := K5.out.cell 4 (.slice lx.a x.know.length lx.i) rfl
  have c5 := K5.out.cell 5 (.slice lx.b x.held.length lx.j) rfl
  have c6 := K5.out.cell 6 (.bool x.ses.on) rfl
  have c7 := K5.out.cell 7 (.int .u32 x.ses.num) rfl
  have c8 := K5.out.cell 8 (.int .u8 x.ses.src) rfl
  have c9 := K5.out.cell 9 (.int .u8 x.ses.cur) rfl
  have c10 := K5.out.cell 10 (.int .u32 x.ses.epoch) rfl
  have c11 := K5.out.cell 11 (.slice lx.c x.ses.offer.length lx.k) rfl
  have c12 := K5.out.cell 12 (.int .u32 x.ses.last) rfl
  have d0 := K9.out.cell 0 (.int .u8 x.rep) rfl
  have d1 := K9.out.cell 1 (.int .u8 x.flt) rfl
  have d2 := K9.out.cell 2 (.int .u32 x.epoch) rfl
  have d3 := K9.out.cell 3 (.int .u32 x.seq) rfl
  have d4 := K9.out.cell 4 (.slice lz.a x.know.length lz.i) rfl
  have d5 := K9.out.cell 5 (.slice lz.b x.held.length lz.j) rfl
  have d6 := K9.out.cell 6 (.bool x.ses.on) rfl
  have d7 := K9.out.cell 7 (.int .u32 x.ses.num) rfl
  have d8 := K9.out.cell 8 (.int .u8 x.ses.src) rfl
  have d9 := K9.out.cell 9 (.int .u8 x.ses.cur) rfl
  have d10 := K9.out.cell 10 (.int .u32 x.ses.epoch) rfl
  have d11 := K9.out.cell 11 (.slice lz.c x.ses.offer.length lz.k) rfl
  have d12 := K9.out.cell 12 (.int .u32 x.ses.last) rfl
  have sm := q5Same_eq _ _ x w6 (HX.out.later H1.out) (HZ.out.later H2.out) LN.out.1.1 LN.out.1.2.1 LN.out.1.2.2
  unfold repR repRow Rp.cells at sm
  have SM := Lib.hid sm
  clear sm
  go_wp2_with fail
  refine SM.out.mono ?_
  rintro e w7 ⟨rfl,hb⟩
  clear c0 c1 c2 c3 c4 c5 c6 c7 c8 c9 c10 c11 c12 d0 d1 d2 d3 d4 d5 d6 d7 d8 d9 d10 d11 d12
  have K6 := Lib.hid (K6.out.keep hb)
  have KA := Lib.hid (KA.out.keep hb)
  have H1 := Lib.hid (H1.out.trans (hb.mono H1.out.size))
  have H2 := Lib.hid (H2.out.trans (hb.mono H2.out.size))
  have HB := Lib.hid (HB.out.trans (hb.mono HB.out.size)); clear hb
  have c0 := K6.out.cell 0 (.int .i64 y.kind) rfl
  have c1 := K6.out.cell 1 (.int .u8 y.src) rfl
  have c2 := K6.out.cell 2 (.int .u8 y.dst) rfl
  have c3 := K6.out.cell 3 (.int .u32 y.num) rfl
  have c4 := K6.out.cell 4 (.int .u8 y.cur) rfl
  have c5 := K6.out.cell 5 (.int .u8 y.flt) rfl
  have c6 := K6.out.cell 6 (.slice ly.a y.know.length ly.i) rfl
  have c7 := K6.out.cell 7 (.int .u32 y.epoch) rfl
  have c8 := K6.out.cell 8 (.slice ly.b y.ents.length ly.j) rfl
  have c9 := K6.out.cell 9 (.int .u8 y.next) rfl
  have c10 := K6.out.cell 10 (.bool y.done) rfl
  have c11 := K6.out.cell 11 (.slice ly.c y.offer.length ly.k) rfl
  have d0 := KA.out.cell 0 (.int .i64 y.kind) rfl
  have d1 := KA.out.cell 1 (.int .u8 y.src) rfl
  have d2 := KA.out.cell 2 (.int .u8 y.dst) rfl
  have d3 := KA.out.cell 3 (.int .u32 y.num) rfl
  have d4 := KA.out.cell 4 (.int .u8 y.cur) rfl
  have d5 := KA.out.cell 5 (.int .u8 y.flt) rfl
  have d6 := KA.out.cell 6 (.slice lv.a y.know.length lv.i) rfl
  have d7 := KA.out.cell 7 (.int .u32 y.epoch) rfl
  have d8 := KA.out.cell 8 (.slice lv.b y.ents.length lv.j) rfl
  have d9 := KA.out.cell 9 (.int .u8 y.next) rfl
  have d10 := KA.out.cell 10 (.bool y.done) rfl
  have d11 := KA.out.cell 11 (.slice lv.c y.offer.length lv.k) rfl
  have sn := q4Same_eq _ _ y w7 (HY.out.later H1.out) (HV.out.later H2.out) LN.out.2.1 LN.out.2.2.1 LN.out.2.2.2
  unfold noteR noteRow Nt.cells at sn
  have SN := Lib.hid sn
  clear sn
  go_wp2_with fail
  refine SN.out.mono ?_
  rintro e w8 ⟨rfl,hb⟩
  clear c0 c1 c2 c3 c4 c5 c6 c7 c8 c9 c10 c11 d0 d1 d2 d3 d4 d5 d6 d7 d8 d9 d10 d11
  have HB := Lib.hid (HB.out.trans (hb.mono HB.out.size)); clear hb
  go_wp2_with fail
  go_ret
  exact ⟨rfl,HB.out⟩
theorem taccepts_any (v u : Value) (r : Rp) (b : Nt) (w : World) (hv : RpV w w.heap.size v r) (hu : NtV w w.heap.size u b) (hg : ErrVar w) (haw : AwakeSaidE 6) (hac : AcceptSaid 9) (hra : RefAcceptSaid 10) :
    Calls Tryz.prog 3 #[v,u] w fun e w' => e = .returned (.bool true) ∧ Below w.heap.size w w' := by
  by_cases hs : shortR r
  · by_cases hp : shortN b
    · exact taccept_go v u r b w hv hu hg haw hac hra hs hp
    · exact taccept_long2 v u r b w hv hu hg haw hac hra hs hp
  · exact taccept_long1 v u r b w hv hu hg haw hac hra hs
end Go.Proofs.YtfjaeohfigcciabGreatDoor

