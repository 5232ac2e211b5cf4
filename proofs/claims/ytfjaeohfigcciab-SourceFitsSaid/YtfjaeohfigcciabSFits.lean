/- The law SourceFits, walked: it answers true, whatever contracts of this form the code's Answer and Due have. -/
import Derived.Test.YtfjaeohfigcciabZg
import Derived.Test.YtfjaeohfigcciabPRef2
import Derived.Test.YtfjaeohfigcciabBlk
import Derived.Test.YtfjaeohfigcciabNCRight3
import Derived.Test.YtfjaeohfigcciabRefHas
import Derived.Test.YtfjaeohfigcciabISame
namespace Go.Proofs.Ytfjaeohfigcciab
open Go.RowKit

theorem cut_ok {p n : Nt} (h : p.ok) (hn : n.ok) : (cutAt p n.next).ok := by
  obtain ⟨h1, h2, h3, h4, h5, h6, h7, h8, h9, h10, h11⟩ := h
  exact ⟨h1, h2, h3, h4, hn.2.2.2.2.2.2.2.2.2.1, h6, h7, h8, h9, h10, h11⟩
def shortR (r : Rp) : Prop := r.know.length ≤ 300 ∧ r.held.length ≤ 300 ∧ r.ses.offer.length ≤ 300
def shortN (n : Nt) : Prop := n.know.length ≤ 300 ∧ n.ents.length ≤ 300 ∧ n.offer.length ≤ 300
def AwakeSaid (f : FuncId) : Prop := ∀ w, Calls Try.prog f #[] w fun e w' => e = .returned (.bool true) ∧ Below w.heap.size w w'
def AnswerSaid (f : FuncId) : Prop := ∀ v u r p w, RpV w w.heap.size v r → NtV w w.heap.size u p → shortR r → shortN p → Calls Try.prog f #[v, u] w (AnsPost w (answerR r p))
def DueSaid (f : FuncId) : Prop := ∀ v u r p w, RpV w w.heap.size v r → NtV w w.heap.size u p → shortR r → shortN p → Calls Try.prog f #[v, u] w (DuePost w (dueR r p))
set_option maxHeartbeats 16000000 in
set_option maxRecDepth 100000 in
theorem fits_long1 (v u : Value) (r : Rp) (p : Nt) (w : World) (hv : RpV w w.heap.size v r) (hu : NtV w w.heap.size u p) (haw : AwakeSaid 4) (han : AnswerSaid 7) (hdu : DueSaid 8) (hs : ¬ shortR r) :
    Calls Try.prog 3 #[v, u] w fun e w' => e = .returned (.bool true) ∧ Below w.heap.size w w' := by
  have RV := Lib.hid hv
  have PV := Lib.hid hu
  have S5 := Lib.hid (fun w1 (hb : Below w.heap.size w w1) => q5Short_any v r w1 (hv.later hb))
  have S4 := Lib.hid (fun w1 (hb : Below w.heap.size w w1) => q4Short_any u p w1 (hu.later hb))
  have AW := Lib.hid haw
  have AN := Lib.hid (fun hs hp w1 (hb : Below w.heap.size w w1) => han v u r p w1 (hv.later hb) (hu.later hb) hs hp)
  have DU := Lib.hid (fun hs hp w1 (hb : Below w.heap.size w w1) => hdu v u r p w1 (hv.later hb) (hu.later hb) hs hp)
  have HDU := Lib.hid hdu
  clear haw han hdu
  obtain ⟨vk, vh, vo, rfl, hk, hh, ho, hok⟩ := hv
  obtain ⟨uk, ue, uo, rfl, jk, je, jo, jok⟩ := hu
  have PK := Lib.hid jk
  have POK := Lib.hid jok
  have PE := Lib.hid je
  have PO := Lib.hid jo
  clear hok jok
  obtain ⟨Ak, ck, rfl, _⟩ := hk
  obtain ⟨Ah, ch, rfl, _⟩ := hh
  obtain ⟨Ao, co, rfl, _⟩ := ho
  obtain ⟨Bk, dk, rfl, _⟩ := jk
  obtain ⟨Be, de, rfl, _⟩ := je
  obtain ⟨Bo, d0, rfl, _⟩ := jo
  unfold Rp.cells at S5 AN DU RV ⊢
  unfold Nt.cells at S4 AN DU PV ⊢
  have hs' : decide (r.know.length ≤ 300 ∧ r.held.length ≤ 300 ∧ r.ses.offer.length ≤ 300) = false := decide_eq_false hs
  rw [hs'] at S5
  clear hs hs'
  go_enter Try.func3, Try.ntmps3
  go_wp2_with fail
  have HB0 := Lib.hid (al2 w (.cells #[.int .u8 r.rep, .int .u8 r.flt, .int .u32 r.epoch, .int .u32 r.seq, .slice Ak r.know.length ck, .slice Ah r.held.length ch, .bool r.ses.on, .int .u32 r.ses.num, .int .u8 r.ses.src, .int .u8 r.ses.cur, .int .u32 r.ses.epoch, .slice Ao r.ses.offer.length co, .int .u32 r.ses.last] 28) (.cells #[.int .i64 p.kind, .int .u8 p.src, .int .u8 p.dst, .int .u32 p.num, .int .u8 p.cur, .int .u8 p.flt, .slice Bk p.know.length dk, .int .u32 p.epoch, .slice Be p.ents.length de, .int .u8 p.next, .bool p.done, .slice Bo p.offer.length d0] 30))
  have BR := Lib.hid ((Blk.new w #[.int .u8 r.rep, .int .u8 r.flt, .int .u32 r.epoch, .int .u32 r.seq, .slice Ak r.know.length ck, .slice Ah r.held.length ch, .bool r.ses.on, .int .u32 r.ses.num, .int .u8 r.ses.src, .int .u8 r.ses.cur, .int .u32 r.ses.epoch, .slice Ao r.ses.offer.length co, .int .u32 r.ses.last] 28).alloc (.cells #[.int .i64 p.kind, .int .u8 p.src, .int .u8 p.dst, .int .u32 p.num, .int .u8 p.cur, .int .u8 p.flt, .slice Bk p.know.length dk, .int .u32 p.epoch, .slice Be p.ents.length de, .int .u8 p.next, .bool p.done, .slice Bo p.offer.length d0] 30))
  have BP := Lib.hid (blk_two w (.cells #[.int .u8 r.rep, .int .u8 r.flt, .int .u32 r.epoch, .int .u32 r.seq, .slice Ak r.know.length ck, .slice Ah r.held.length ch, .bool r.ses.on, .int .u32 r.ses.num, .int .u8 r.ses.src, .int .u8 r.ses.cur, .int .u32 r.ses.epoch, .slice Ao r.ses.offer.length co, .int .u32 r.ses.last] 28) #[.int .i64 p.kind, .int .u8 p.src, .int .u8 p.dst, .int .u32 p.num, .int .u8 p.cur, .int .u8 p.flt, .slice Bk p.know.length dk, .int .u32 p.epoch, .slice Be p.ents.length de, .int .u8 p.next, .bool p.done, .slice Bo p.offer.length d0] 30)
  generalize (w.alloc (.cells #[.int .u8 r.rep, .int .u8 r.flt, .int .u32 r.epoch, .int .u32 r.seq, .slice Ak r.know.length ck, .slice Ah r.held.length ch, .bool r.ses.on, .int .u32 r.ses.num, .int .u8 r.ses.src, .int .u8 r.ses.cur, .int .u32 r.ses.epoch, .slice Ao r.ses.offer.length co, .int .u32 r.ses.last] 28)).alloc (.cells #[.int .i64 p.kind, .int .u8 p.src, .int .u8 p.dst, .int .u32 p.num, .int .u8 p.cur, .int .u8 p.flt, .slice Bk p.know.length dk, .int .u32 p.epoch, .slice Be p.ents.length de, .int .u8 p.next, .bool p.done, .slice Bo p.offer.length d0] 30) = wz at HB0 BR BP ⊢
  refine (AW.out wz).mono ?_
  rintro e w1 ⟨rfl, hb⟩
  have BR := Lib.hid (BR.out.keep hb)
  have BP := Lib.hid (BP.out.keep hb)
  have HB := Lib.hid (HB0.out.trans (hb.mono HB0.out.size)); clear hb HB0
  have c0 := BR.out.cell 0 (.int .u8 r.rep) rfl
  have c1 := BR.out.cell 1 (.int .u8 r.flt) rfl
  have c2 := BR.out.cell 2 (.int .u32 r.epoch) rfl
  have c3 := BR.out.cell 3 (.int .u32 r.seq) rfl
  have c4 := BR.out.cell 4 (.slice Ak r.know.length ck) rfl
  have c5 := BR.out.cell 5 (.slice Ah r.held.length ch) rfl
  have c6 := BR.out.cell 6 (.bool r.ses.on) rfl
  have c7 := BR.out.cell 7 (.int .u32 r.ses.num) rfl
  have c8 := BR.out.cell 8 (.int .u8 r.ses.src) rfl
  have c9 := BR.out.cell 9 (.int .u8 r.ses.cur) rfl
  have c10 := BR.out.cell 10 (.int .u32 r.ses.epoch) rfl
  have c11 := BR.out.cell 11 (.slice Ao r.ses.offer.length co) rfl
  have c12 := BR.out.cell 12 (.int .u32 r.ses.last) rfl
  go_wp2_with fail
  refine (S5.out w1 HB.out).mono ?_
  rintro e w2 ⟨rfl, hb⟩
  have BR := Lib.hid (BR.out.keep hb)
  have BP := Lib.hid (BP.out.keep hb)
  have HB := Lib.hid (HB.out.trans (hb.mono HB.out.size)); clear hb c0 c1 c2 c3 c4 c5 c6 c7 c8 c9 c10 c11 c12
  go_wp2_with fail
  go_ret
  exact ⟨rfl, HB.out⟩

set_option maxHeartbeats 16000000 in
set_option maxRecDepth 100000 in
theorem fits_long2 (v u : Value) (r : Rp) (p : Nt) (w : World) (hv : RpV w w.heap.size v r) (hu : NtV w w.heap.size u p) (haw : AwakeSaid 4) (han : AnswerSaid 7) (hdu : DueSaid 8) (hs : shortR r) (hp : ¬ shortN p) :
    Calls Try.prog 3 #[v, u] w fun e w' => e = .returned (.bool true) ∧ Below w.heap.size w w' := by
  have RV := Lib.hid hv
  have PV := Lib.hid hu
  have S5 := Lib.hid (fun w1 (hb : Below w.heap.size w w1) => q5Short_any v r w1 (hv.later hb))
  have S4 := Lib.hid (fun w1 (hb : Below w.heap.size w w1) => q4Short_any u p w1 (hu.later hb))
  have AW := Lib.hid haw
  have AN := Lib.hid (fun hs hp w1 (hb : Below w.heap.size w w1) => han v u r p w1 (hv.later hb) (hu.later hb) hs hp)
  have DU := Lib.hid (fun hs hp w1 (hb : Below w.heap.size w w1) => hdu v u r p w1 (hv.later hb) (hu.later hb) hs hp)
  have HDU := Lib.hid hdu
  clear haw han hdu
  obtain ⟨vk, vh, vo, rfl, hk, hh, ho, hok⟩ := hv
  obtain ⟨uk, ue, uo, rfl, jk, je, jo, jok⟩ := hu
  have PK := Lib.hid jk
  have POK := Lib.hid jok
  have PE := Lib.hid je
  have PO := Lib.hid jo
  clear hok jok
  obtain ⟨Ak, ck, rfl, _⟩ := hk
  obtain ⟨Ah, ch, rfl, _⟩ := hh
  obtain ⟨Ao, co, rfl, _⟩ := ho
  obtain ⟨Bk, dk, rfl, _⟩ := jk
  obtain ⟨Be, de, rfl, _⟩ := je
  obtain ⟨Bo, d0, rfl, _⟩ := jo
  unfold Rp.cells at S5 AN DU RV ⊢
  unfold Nt.cells at S4 AN DU PV ⊢
  have hs' : decide (r.know.length ≤ 300 ∧ r.held.length ≤ 300 ∧ r.ses.offer.length ≤ 300) = true := decide_eq_true hs
  rw [hs'] at S5
  have hp' : decide (p.know.length ≤ 300 ∧ p.ents.length ≤ 300 ∧ p.offer.length ≤ 300) = false := decide_eq_false hp
  rw [hp'] at S4
  clear hs hs' hp hp'
  go_enter Try.func3, Try.ntmps3
  go_wp2_with fail
  have HB0 := Lib.hid (al2 w (.cells #[.int .u8 r.rep, .int .u8 r.flt, .int .u32 r.epoch, .int .u32 r.seq, .slice Ak r.know.length ck, .slice Ah r.held.length ch, .bool r.ses.on, .int .u32 r.ses.num, .int .u8 r.ses.src, .int .u8 r.ses.cur, .int .u32 r.ses.epoch, .slice Ao r.ses.offer.length co, .int .u32 r.ses.last] 28) (.cells #[.int .i64 p.kind, .int .u8 p.src, .int .u8 p.dst, .int .u32 p.num, .int .u8 p.cur, .int .u8 p.flt, .slice Bk p.know.length dk, .int .u32 p.epoch, .slice Be p.ents.length de, .int .u8 p.next, .bool p.done, .slice Bo p.offer.length d0] 30))
  have BR := Lib.hid ((Blk.new w #[.int .u8 r.rep, .int .u8 r.flt, .int .u32 r.epoch, .int .u32 r.seq, .slice Ak r.know.length ck, .slice Ah r.held.length ch, .bool r.ses.on, .int .u32 r.ses.num, .int .u8 r.ses.src, .int .u8 r.ses.cur, .int .u32 r.ses.epoch, .slice Ao r.ses.offer.length co, .int .u32 r.ses.last] 28).alloc (.cells #[.int .i64 p.kind, .int .u8 p.src, .int .u8 p.dst, .int .u32 p.num, .int .u8 p.cur, .int .u8 p.flt, .slice Bk p.know.length dk, .int .u32 p.epoch, .slice Be p.ents.length de, .int .u8 p.next, .bool p.done, .slice Bo p.offer.length d0] 30))
  have BP := Lib.hid (blk_two w (.cells #[.int .u8 r.rep, .int .u8 r.flt, .int .u32 r.epoch, .int .u32 r.seq, .slice Ak r.know.length ck, .slice Ah r.held.length ch, .bool r.ses.on, .int .u32 r.ses.num, .int .u8 r.ses.src, .int .u8 r.ses.cur, .int .u32 r.ses.epoch, .slice Ao r.ses.offer.length co, .int .u32 r.ses.last] 28) #[.int .i64 p.kind, .int .u8 p.src, .int .u8 p.dst, .int .u32 p.num, .int .u8 p.cur, .int .u8 p.flt, .slice Bk p.know.length dk, .int .u32 p.epoch, .slice Be p.ents.length de, .int .u8 p.next, .bool p.done, .slice Bo p.offer.length d0] 30)
  generalize (w.alloc (.cells #[.int .u8 r.rep, .int .u8 r.flt, .int .u32 r.epoch, .int .u32 r.seq, .slice Ak r.know.length ck, .slice Ah r.held.length ch, .bool r.ses.on, .int .u32 r.ses.num, .int .u8 r.ses.src, .int .u8 r.ses.cur, .int .u32 r.ses.epoch, .slice Ao r.ses.offer.length co, .int .u32 r.ses.last] 28)).alloc (.cells #[.int .i64 p.kind, .int .u8 p.src, .int .u8 p.dst, .int .u32 p.num, .int .u8 p.cur, .int .u8 p.flt, .slice Bk p.know.length dk, .int .u32 p.epoch, .slice Be p.ents.length de, .int .u8 p.next, .bool p.done, .slice Bo p.offer.length d0] 30) = wz at HB0 BR BP ⊢
  refine (AW.out wz).mono ?_
  rintro e w1 ⟨rfl, hb⟩
  have BR := Lib.hid (BR.out.keep hb)
  have BP := Lib.hid (BP.out.keep hb)
  have HB := Lib.hid (HB0.out.trans (hb.mono HB0.out.size)); clear hb HB0
  have c0 := BR.out.cell 0 (.int .u8 r.rep) rfl
  have c1 := BR.out.cell 1 (.int .u8 r.flt) rfl
  have c2 := BR.out.cell 2 (.int .u32 r.epoch) rfl
  have c3 := BR.out.cell 3 (.int .u32 r.seq) rfl
  have c4 := BR.out.cell 4 (.slice Ak r.know.length ck) rfl
  have c5 := BR.out.cell 5 (.slice Ah r.held.length ch) rfl
  have c6 := BR.out.cell 6 (.bool r.ses.on) rfl
  have c7 := BR.out.cell 7 (.int .u32 r.ses.num) rfl
  have c8 := BR.out.cell 8 (.int .u8 r.ses.src) rfl
  have c9 := BR.out.cell 9 (.int .u8 r.ses.cur) rfl
  have c10 := BR.out.cell 10 (.int .u32 r.ses.epoch) rfl
  have c11 := BR.out.cell 11 (.slice Ao r.ses.offer.length co) rfl
  have c12 := BR.out.cell 12 (.int .u32 r.ses.last) rfl
  go_wp2_with fail
  refine (S5.out w1 HB.out).mono ?_
  rintro e w2 ⟨rfl, hb⟩
  have BR := Lib.hid (BR.out.keep hb)
  have BP := Lib.hid (BP.out.keep hb)
  have HB := Lib.hid (HB.out.trans (hb.mono HB.out.size)); clear hb c0 c1 c2 c3 c4 c5 c6 c7 c8 c9 c10 c11 c12
  have b0 := BP.out.cell 0 (.int .i64 p.kind) rfl
  have b1 := BP.out.cell 1 (.int .u8 p.src) rfl
  have b2 := BP.out.cell 2 (.int .u8 p.dst) rfl
  have b3 := BP.out.cell 3 (.int .u32 p.num) rfl
  have b4 := BP.out.cell 4 (.int .u8 p.cur) rfl
  have b5 := BP.out.cell 5 (.int .u8 p.flt) rfl
  have b6 := BP.out.cell 6 (.slice Bk p.know.length dk) rfl
  have b7 := BP.out.cell 7 (.int .u32 p.epoch) rfl
  have b8 := BP.out.cell 8 (.slice Be p.ents.length de) rfl
  have b9 := BP.out.cell 9 (.int .u8 p.next) rfl
  have b10 := BP.out.cell 10 (.bool p.done) rfl
  have b11 := BP.out.cell 11 (.slice Bo p.offer.length d0) rfl
  go_wp2_with fail
  refine (S4.out w2 HB.out).mono ?_
  rintro e w3 ⟨rfl, hb⟩
  have BR := Lib.hid (BR.out.keep hb)
  have BP := Lib.hid (BP.out.keep hb)
  have HB := Lib.hid (HB.out.trans (hb.mono HB.out.size)); clear hb b0 b1 b2 b3 b4 b5 b6 b7 b8 b9 b10 b11
  go_wp2_with fail
  go_ret
  exact ⟨rfl, HB.out⟩

set_option maxHeartbeats 16000000 in
set_option maxRecDepth 100000 in
theorem fits_no (v u : Value) (r : Rp) (p : Nt) (w : World) (hv : RpV w w.heap.size v r) (hu : NtV w w.heap.size u p) (haw : AwakeSaid 4) (han : AnswerSaid 7) (hdu : DueSaid 8) (hs : shortR r) (hp : shortN p) (c : Int) (he : answerR r p = .error c) :
    Calls Try.prog 3 #[v, u] w fun e w' => e = .returned (.bool true) ∧ Below w.heap.size w w' := by
  have RV := Lib.hid hv
  have PV := Lib.hid hu
  have S5 := Lib.hid (fun w1 (hb : Below w.heap.size w w1) => q5Short_any v r w1 (hv.later hb))
  have S4 := Lib.hid (fun w1 (hb : Below w.heap.size w w1) => q4Short_any u p w1 (hu.later hb))
  have AW := Lib.hid haw
  have AN := Lib.hid (fun hs hp w1 (hb : Below w.heap.size w w1) => han v u r p w1 (hv.later hb) (hu.later hb) hs hp)
  have DU := Lib.hid (fun hs hp w1 (hb : Below w.heap.size w w1) => hdu v u r p w1 (hv.later hb) (hu.later hb) hs hp)
  have HDU := Lib.hid hdu
  clear haw han hdu
  obtain ⟨vk, vh, vo, rfl, hk, hh, ho, hok⟩ := hv
  obtain ⟨uk, ue, uo, rfl, jk, je, jo, jok⟩ := hu
  have PK := Lib.hid jk
  have POK := Lib.hid jok
  have PE := Lib.hid je
  have PO := Lib.hid jo
  clear hok jok
  obtain ⟨Ak, ck, rfl, _⟩ := hk
  obtain ⟨Ah, ch, rfl, _⟩ := hh
  obtain ⟨Ao, co, rfl, _⟩ := ho
  obtain ⟨Bk, dk, rfl, _⟩ := jk
  obtain ⟨Be, de, rfl, _⟩ := je
  obtain ⟨Bo, d0, rfl, _⟩ := jo
  unfold Rp.cells at S5 AN DU RV ⊢
  unfold Nt.cells at S4 AN DU PV ⊢
  have hs' : decide (r.know.length ≤ 300 ∧ r.held.length ≤ 300 ∧ r.ses.offer.length ≤ 300) = true := decide_eq_true hs
  rw [hs'] at S5
  have hp' : decide (p.know.length ≤ 300 ∧ p.ents.length ≤ 300 ∧ p.offer.length ≤ 300) = true := decide_eq_true hp
  rw [hp'] at S4
  have HS := Lib.hid hs
  have HP := Lib.hid hp
  clear hs hs' hp hp'
  have EQ := Lib.hid he
  clear he
  go_enter Try.func3, Try.ntmps3
  go_wp2_with fail
  have HB0 := Lib.hid (al2 w (.cells #[.int .u8 r.rep, .int .u8 r.flt, .int .u32 r.epoch, .int .u32 r.seq, .slice Ak r.know.length ck, .slice Ah r.held.length ch, .bool r.ses.on, .int .u32 r.ses.num, .int .u8 r.ses.src, .int .u8 r.ses.cur, .int .u32 r.ses.epoch, .slice Ao r.ses.offer.length co, .int .u32 r.ses.last] 28) (.cells #[.int .i64 p.kind, .int .u8 p.src, .int .u8 p.dst, .int .u32 p.num, .int .u8 p.cur, .int .u8 p.flt, .slice Bk p.know.length dk, .int .u32 p.epoch, .slice Be p.ents.length de, .int .u8 p.next, .bool p.done, .slice Bo p.offer.length d0] 30))
  have BR := Lib.hid ((Blk.new w #[.int .u8 r.rep, .int .u8 r.flt, .int .u32 r.epoch, .int .u32 r.seq, .slice Ak r.know.length ck, .slice Ah r.held.length ch, .bool r.ses.on, .int .u32 r.ses.num, .int .u8 r.ses.src, .int .u8 r.ses.cur, .int .u32 r.ses.epoch, .slice Ao r.ses.offer.length co, .int .u32 r.ses.last] 28).alloc (.cells #[.int .i64 p.kind, .int .u8 p.src, .int .u8 p.dst, .int .u32 p.num, .int .u8 p.cur, .int .u8 p.flt, .slice Bk p.know.length dk, .int .u32 p.epoch, .slice Be p.ents.length de, .int .u8 p.next, .bool p.done, .slice Bo p.offer.length d0] 30))
  have BP := Lib.hid (blk_two w (.cells #[.int .u8 r.rep, .int .u8 r.flt, .int .u32 r.epoch, .int .u32 r.seq, .slice Ak r.know.length ck, .slice Ah r.held.length ch, .bool r.ses.on, .int .u32 r.ses.num, .int .u8 r.ses.src, .int .u8 r.ses.cur, .int .u32 r.ses.epoch, .slice Ao r.ses.offer.length co, .int .u32 r.ses.last] 28) #[.int .i64 p.kind, .int .u8 p.src, .int .u8 p.dst, .int .u32 p.num, .int .u8 p.cur, .int .u8 p.flt, .slice Bk p.know.length dk, .int .u32 p.epoch, .slice Be p.ents.length de, .int .u8 p.next, .bool p.done, .slice Bo p.offer.length d0] 30)
  generalize (w.alloc (.cells #[.int .u8 r.rep, .int .u8 r.flt, .int .u32 r.epoch, .int .u32 r.seq, .slice Ak r.know.length ck, .slice Ah r.held.length ch, .bool r.ses.on, .int .u32 r.ses.num, .int .u8 r.ses.src, .int .u8 r.ses.cur, .int .u32 r.ses.epoch, .slice Ao r.ses.offer.length co, .int .u32 r.ses.last] 28)).alloc (.cells #[.int .i64 p.kind, .int .u8 p.src, .int .u8 p.dst, .int .u32 p.num, .int .u8 p.cur, .int .u8 p.flt, .slice Bk p.know.length dk, .int .u32 p.epoch, .slice Be p.ents.length de, .int .u8 p.next, .bool p.done, .slice Bo p.offer.length d0] 30) = wz at HB0 BR BP ⊢
  refine (AW.out wz).mono ?_
  rintro e w1 ⟨rfl, hb⟩
  have BR := Lib.hid (BR.out.keep hb)
  have BP := Lib.hid (BP.out.keep hb)
  have HB := Lib.hid (HB0.out.trans (hb.mono HB0.out.size)); clear hb HB0
  have c0 := BR.out.cell 0 (.int .u8 r.rep) rfl
  have c1 := BR.out.cell 1 (.int .u8 r.flt) rfl
  have c2 := BR.out.cell 2 (.int .u32 r.epoch) rfl
  have c3 := BR.out.cell 3 (.int .u32 r.seq) rfl
  have c4 := BR.out.cell 4 (.slice Ak r.know.length ck) rfl
  have c5 := BR.out.cell 5 (.slice Ah r.held.length ch) rfl
  have c6 := BR.out.cell 6 (.bool r.ses.on) rfl
  have c7 := BR.out.cell 7 (.int .u32 r.ses.num) rfl
  have c8 := BR.out.cell 8 (.int .u8 r.ses.src) rfl
  have c9 := BR.out.cell 9 (.int .u8 r.ses.cur) rfl
  have c10 := BR.out.cell 10 (.int .u32 r.ses.epoch) rfl
  have c11 := BR.out.cell 11 (.slice Ao r.ses.offer.length co) rfl
  have c12 := BR.out.cell 12 (.int .u32 r.ses.last) rfl
  go_wp2_with fail
  refine (S5.out w1 HB.out).mono ?_
  rintro e w2 ⟨rfl, hb⟩
  have BR := Lib.hid (BR.out.keep hb)
  have BP := Lib.hid (BP.out.keep hb)
  have HB := Lib.hid (HB.out.trans (hb.mono HB.out.size)); clear hb c0 c1 c2 c3 c4 c5 c6 c7 c8 c9 c10 c11 c12
  have b0 := BP.out.cell 0 (.int .i64 p.kind) rfl
  have b1 := BP.out.cell 1 (.int .u8 p.src) rfl
  have b2 := BP.out.cell 2 (.int .u8 p.dst) rfl
  have b3 := BP.out.cell 3 (.int .u32 p.num) rfl
  have b4 := BP.out.cell 4 (.int .u8 p.cur) rfl
  have b5 := BP.out.cell 5 (.int .u8 p.flt) rfl
  have b6 := BP.out.cell 6 (.slice Bk p.know.length dk) rfl
  have b7 := BP.out.cell 7 (.int .u32 p.epoch) rfl
  have b8 := BP.out.cell 8 (.slice Be p.ents.length de) rfl
  have b9 := BP.out.cell 9 (.int .u8 p.next) rfl
  have b10 := BP.out.cell 10 (.bool p.done) rfl
  have b11 := BP.out.cell 11 (.slice Bo p.offer.length d0) rfl
  go_wp2_with fail
  refine (S4.out w2 HB.out).mono ?_
  rintro e w3 ⟨rfl, hb⟩
  have BR := Lib.hid (BR.out.keep hb)
  have BP := Lib.hid (BP.out.keep hb)
  have HB := Lib.hid (HB.out.trans (hb.mono HB.out.size)); clear hb b0 b1 b2 b3 b4 b5 b6 b7 b8 b9 b10 b11
  have c0 := BR.out.cell 0 (.int .u8 r.rep) rfl
  have c1 := BR.out.cell 1 (.int .u8 r.flt) rfl
  have c2 := BR.out.cell 2 (.int .u32 r.epoch) rfl
  have c3 := BR.out.cell 3 (.int .u32 r.seq) rfl
  have c4 := BR.out.cell 4 (.slice Ak r.know.length ck) rfl
  have c5 := BR.out.cell 5 (.slice Ah r.held.length ch) rfl
  have c6 := BR.out.cell 6 (.bool r.ses.on) rfl
  have c7 := BR.out.cell 7 (.int .u32 r.ses.num) rfl
  have c8 := BR.out.cell 8 (.int .u8 r.ses.src) rfl
  have c9 := BR.out.cell 9 (.int .u8 r.ses.cur) rfl
  have c10 := BR.out.cell 10 (.int .u32 r.ses.epoch) rfl
  have c11 := BR.out.cell 11 (.slice Ao r.ses.offer.length co) rfl
  have c12 := BR.out.cell 12 (.int .u32 r.ses.last) rfl
  have b0 := BP.out.cell 0 (.int .i64 p.kind) rfl
  have b1 := BP.out.cell 1 (.int .u8 p.src) rfl
  have b2 := BP.out.cell 2 (.int .u8 p.dst) rfl
  have b3 := BP.out.cell 3 (.int .u32 p.num) rfl
  have b4 := BP.out.cell 4 (.int .u8 p.cur) rfl
  have b5 := BP.out.cell 5 (.int .u8 p.flt) rfl
  have b6 := BP.out.cell 6 (.slice Bk p.know.length dk) rfl
  have b7 := BP.out.cell 7 (.int .u32 p.epoch) rfl
  have b8 := BP.out.cell 8 (.slice Be p.ents.length de) rfl
  have b9 := BP.out.cell 9 (.int .u8 p.next) rfl
  have b10 := BP.out.cell 10 (.bool p.done) rfl
  have b11 := BP.out.cell 11 (.slice Bo p.offer.length d0) rfl
  go_wp2_with fail
  have an := AN.out HS.out HP.out w3 HB.out
  rw [EQ.out] at an
  refine an.mono ?_
  rintro e w4 ⟨ty, uu, rfl, hb⟩
  have HB := Lib.hid (HB.out.trans (hb.mono HB.out.size)); clear hb an c0 c1 c2 c3 c4 c5 c6 c7 c8 c9 c10 c11 c12 b0 b1 b2 b3 b4 b5 b6 b7 b8 b9 b10 b11
  unfold zeroC
  go_wp2_with fail
  go_ret
  exact ⟨rfl, HB.out.trans ((al1 _ _).mono HB.out.size)⟩

set_option maxHeartbeats 16000000 in
set_option maxRecDepth 100000 in
theorem fits_done (v u : Value) (r : Rp) (p : Nt) (w : World) (hv : RpV w w.heap.size v r) (hu : NtV w w.heap.size u p) (haw : AwakeSaid 4) (han : AnswerSaid 7) (hdu : DueSaid 8) (hs : shortR r) (hp : shortN p) (n : Nt) (he : answerR r p = .ok n) (hd : n.done = true) :
    Calls Try.prog 3 #[v, u] w fun e w' => e = .returned (.bool true) ∧ Below w.heap.size w w' := by
  have RV := Lib.hid hv
  have PV := Lib.hid hu
  have S5 := Lib.hid (fun w1 (hb : Below w.heap.size w w1) => q5Short_any v r w1 (hv.later hb))
  have S4 := Lib.hid (fun w1 (hb : Below w.heap.size w w1) => q4Short_any u p w1 (hu.later hb))
  have AW := Lib.hid haw
  have AN := Lib.hid (fun hs hp w1 (hb : Below w.heap.size w w1) => han v u r p w1 (hv.later hb) (hu.later hb) hs hp)
  have DU := Lib.hid (fun hs hp w1 (hb : Below w.heap.size w w1) => hdu v u r p w1 (hv.later hb) (hu.later hb) hs hp)
  have HDU := Lib.hid hdu
  clear haw han hdu
  obtain ⟨vk, vh, vo, rfl, hk, hh, ho, hok⟩ := hv
  obtain ⟨uk, ue, uo, rfl, jk, je, jo, jok⟩ := hu
  have PK := Lib.hid jk
  have POK := Lib.hid jok
  have PE := Lib.hid je
  have PO := Lib.hid jo
  clear hok jok
  obtain ⟨Ak, ck, rfl, _⟩ := hk
  obtain ⟨Ah, ch, rfl, _⟩ := hh
  obtain ⟨Ao, co, rfl, _⟩ := ho
  obtain ⟨Bk, dk, rfl, _⟩ := jk
  obtain ⟨Be, de, rfl, _⟩ := je
  obtain ⟨Bo, d0, rfl, _⟩ := jo
  unfold Rp.cells at S5 AN DU RV ⊢
  unfold Nt.cells at S4 AN DU PV ⊢
  have hs' : decide (r.know.length ≤ 300 ∧ r.held.length ≤ 300 ∧ r.ses.offer.length ≤ 300) = true := decide_eq_true hs
  rw [hs'] at S5
  have hp' : decide (p.know.length ≤ 300 ∧ p.ents.length ≤ 300 ∧ p.offer.length ≤ 300) = true := decide_eq_true hp
  rw [hp'] at S4
  have HS := Lib.hid hs
  have HP := Lib.hid hp
  clear hs hs' hp hp'
  have EQ := Lib.hid he
  obtain ⟨l, hf⟩ := answer_fits he
  clear he
  have HF := Lib.hid hf
  have DQ := Lib.hid hf.due
  have hdn : n.done = true := by rw [hd]
  have hlenB : decide ((l.length : Int) ≤ 4) = true := by
    have h1 := hf.done
    rw [hdn] at h1
    rw [show decide ((l.length : Int) ≤ 4) = decide (l.length ≤ 4) from decide_eq_decide.2 (by omega)]
    exact h1.symm
  have hnl := hf.len
  clear hf hd
  go_enter Try.func3, Try.ntmps3
  go_wp2_with fail
  have HB0 := Lib.hid (al2 w (.cells #[.int .u8 r.rep, .int .u8 r.flt, .int .u32 r.epoch, .int .u32 r.seq, .slice Ak r.know.length ck, .slice Ah r.held.length ch, .bool r.ses.on, .int .u32 r.ses.num, .int .u8 r.ses.src, .int .u8 r.ses.cur, .int .u32 r.ses.epoch, .slice Ao r.ses.offer.length co, .int .u32 r.ses.last] 28) (.cells #[.int .i64 p.kind, .int .u8 p.src, .int .u8 p.dst, .int .u32 p.num, .int .u8 p.cur, .int .u8 p.flt, .slice Bk p.know.length dk, .int .u32 p.epoch, .slice Be p.ents.length de, .int .u8 p.next, .bool p.done, .slice Bo p.offer.length d0] 30))
  have BR := Lib.hid ((Blk.new w #[.int .u8 r.rep, .int .u8 r.flt, .int .u32 r.epoch, .int .u32 r.seq, .slice Ak r.know.length ck, .slice Ah r.held.length ch, .bool r.ses.on, .int .u32 r.ses.num, .int .u8 r.ses.src, .int .u8 r.ses.cur, .int .u32 r.ses.epoch, .slice Ao r.ses.offer.length co, .int .u32 r.ses.last] 28).alloc (.cells #[.int .i64 p.kind, .int .u8 p.src, .int .u8 p.dst, .int .u32 p.num, .int .u8 p.cur, .int .u8 p.flt, .slice Bk p.know.length dk, .int .u32 p.epoch, .slice Be p.ents.length de, .int .u8 p.next, .bool p.done, .slice Bo p.offer.length d0] 30))
  have BP := Lib.hid (blk_two w (.cells #[.int .u8 r.rep, .int .u8 r.flt, .int .u32 r.epoch, .int .u32 r.seq, .slice Ak r.know.length ck, .slice Ah r.held.length ch, .bool r.ses.on, .int .u32 r.ses.num, .int .u8 r.ses.src, .int .u8 r.ses.cur, .int .u32 r.ses.epoch, .slice Ao r.ses.offer.length co, .int .u32 r.ses.last] 28) #[.int .i64 p.kind, .int .u8 p.src, .int .u8 p.dst, .int .u32 p.num, .int .u8 p.cur, .int .u8 p.flt, .slice Bk p.know.length dk, .int .u32 p.epoch, .slice Be p.ents.length de, .int .u8 p.next, .bool p.done, .slice Bo p.offer.length d0] 30)
  generalize (w.alloc (.cells #[.int .u8 r.rep, .int .u8 r.flt, .int .u32 r.epoch, .int .u32 r.seq, .slice Ak r.know.length ck, .slice Ah r.held.length ch, .bool r.ses.on, .int .u32 r.ses.num, .int .u8 r.ses.src, .int .u8 r.ses.cur, .int .u32 r.ses.epoch, .slice Ao r.ses.offer.length co, .int .u32 r.ses.last] 28)).alloc (.cells #[.int .i64 p.kind, .int .u8 p.src, .int .u8 p.dst, .int .u32 p.num, .int .u8 p.cur, .int .u8 p.flt, .slice Bk p.know.length dk, .int .u32 p.epoch, .slice Be p.ents.length de, .int .u8 p.next, .bool p.done, .slice Bo p.offer.length d0] 30) = wz at HB0 BR BP ⊢
  refine (AW.out wz).mono ?_
  rintro e w1 ⟨rfl, hb⟩
  have BR := Lib.hid (BR.out.keep hb)
  have BP := Lib.hid (BP.out.keep hb)
  have HB := Lib.hid (HB0.out.trans (hb.mono HB0.out.size)); clear hb HB0
  have c0 := BR.out.cell 0 (.int .u8 r.rep) rfl
  have c1 := BR.out.cell 1 (.int .u8 r.flt) rfl
  have c2 := BR.out.cell 2 (.int .u32 r.epoch) rfl
  have c3 := BR.out.cell 3 (.int .u32 r.seq) rfl
  have c4 := BR.out.cell 4 (.slice Ak r.know.length ck) rfl
  have c5 := BR.out.cell 5 (.slice Ah r.held.length ch) rfl
  have c6 := BR.out.cell 6 (.bool r.ses.on) rfl
  have c7 := BR.out.cell 7 (.int .u32 r.ses.num) rfl
  have c8 := BR.out.cell 8 (.int .u8 r.ses.src) rfl
  have c9 := BR.out.cell 9 (.int .u8 r.ses.cur) rfl
  have c10 := BR.out.cell 10 (.int .u32 r.ses.epoch) rfl
  have c11 := BR.out.cell 11 (.slice Ao r.ses.offer.length co) rfl
  have c12 := BR.out.cell 12 (.int .u32 r.ses.last) rfl
  go_wp2_with fail
  refine (S5.out w1 HB.out).mono ?_
  rintro e w2 ⟨rfl, hb⟩
  have BR := Lib.hid (BR.out.keep hb)
  have BP := Lib.hid (BP.out.keep hb)
  have HB := Lib.hid (HB.out.trans (hb.mono HB.out.size)); clear hb c0 c1 c2 c3 c4 c5 c6 c7 c8 c9 c10 c11 c12
  have b0 := BP.out.cell 0 (.int .i64 p.kind) rfl
  have b1 := BP.out.cell 1 (.int .u8 p.src) rfl
  have b2 := BP.out.cell 2 (.int .u8 p.dst) rfl
  have b3 := BP.out.cell 3 (.int .u32 p.num) rfl
  have b4 := BP.out.cell 4 (.int .u8 p.cur) rfl
  have b5 := BP.out.cell 5 (.int .u8 p.flt) rfl
  have b6 := BP.out.cell 6 (.slice Bk p.know.length dk) rfl
  have b7 := BP.out.cell 7 (.int .u32 p.epoch) rfl
  have b8 := BP.out.cell 8 (.slice Be p.ents.length de) rfl
  have b9 := BP.out.cell 9 (.int .u8 p.next) rfl
  have b10 := BP.out.cell 10 (.bool p.done) rfl
  have b11 := BP.out.cell 11 (.slice Bo p.offer.length d0) rfl
  go_wp2_with fail
  refine (S4.out w2 HB.out).mono ?_
  rintro e w3 ⟨rfl, hb⟩
  have BR := Lib.hid (BR.out.keep hb)
  have BP := Lib.hid (BP.out.keep hb)
  have HB := Lib.hid (HB.out.trans (hb.mono HB.out.size)); clear hb b0 b1 b2 b3 b4 b5 b6 b7 b8 b9 b10 b11
  have c0 := BR.out.cell 0 (.int .u8 r.rep) rfl
  have c1 := BR.out.cell 1 (.int .u8 r.flt) rfl
  have c2 := BR.out.cell 2 (.int .u32 r.epoch) rfl
  have c3 := BR.out.cell 3 (.int .u32 r.seq) rfl
  have c4 := BR.out.cell 4 (.slice Ak r.know.length ck) rfl
  have c5 := BR.out.cell 5 (.slice Ah r.held.length ch) rfl
  have c6 := BR.out.cell 6 (.bool r.ses.on) rfl
  have c7 := BR.out.cell 7 (.int .u32 r.ses.num) rfl
  have c8 := BR.out.cell 8 (.int .u8 r.ses.src) rfl
  have c9 := BR.out.cell 9 (.int .u8 r.ses.cur) rfl
  have c10 := BR.out.cell 10 (.int .u32 r.ses.epoch) rfl
  have c11 := BR.out.cell 11 (.slice Ao r.ses.offer.length co) rfl
  have c12 := BR.out.cell 12 (.int .u32 r.ses.last) rfl
  have b0 := BP.out.cell 0 (.int .i64 p.kind) rfl
  have b1 := BP.out.cell 1 (.int .u8 p.src) rfl
  have b2 := BP.out.cell 2 (.int .u8 p.dst) rfl
  have b3 := BP.out.cell 3 (.int .u32 p.num) rfl
  have b4 := BP.out.cell 4 (.int .u8 p.cur) rfl
  have b5 := BP.out.cell 5 (.int .u8 p.flt) rfl
  have b6 := BP.out.cell 6 (.slice Bk p.know.length dk) rfl
  have b7 := BP.out.cell 7 (.int .u32 p.epoch) rfl
  have b8 := BP.out.cell 8 (.slice Be p.ents.length de) rfl
  have b9 := BP.out.cell 9 (.int .u8 p.next) rfl
  have b10 := BP.out.cell 10 (.bool p.done) rfl
  have b11 := BP.out.cell 11 (.slice Bo p.offer.length d0) rfl
  go_wp2_with fail
  have an := AN.out HS.out HP.out w3 HB.out
  rw [EQ.out] at an
  refine an.mono ?_
  rintro e w4 ⟨vn, rfl, hvn, hb⟩
  have BR := Lib.hid (BR.out.keep hb)
  have BP := Lib.hid (BP.out.keep hb)
  have HB := Lib.hid (HB.out.trans (hb.mono HB.out.size)); clear hb an c0 c1 c2 c3 c4 c5 c6 c7 c8 c9 c10 c11 c12 b0 b1 b2 b3 b4 b5 b6 b7 b8 b9 b10 b11
  have NV := Lib.hid hvn
  have RN := Lib.hid (fun w1 (hb : Below w4.heap.size w4 w1) => nRight_any vn n w1 (hvn.later hb))
  rw [HF.out.right] at RN
  obtain ⟨xk, xe, xo, rfl, y1, y2, y3, y4⟩ := hvn
  have XE := Lib.hid y2
  have NOK := Lib.hid y4
  obtain ⟨Ck, ek, rfl, _⟩ := y1
  obtain ⟨Ce, ee, rfl, _⟩ := y2
  obtain ⟨Co, e0, rfl, _⟩ := y3
  unfold Nt.cells at NV RN ⊢
  rw [hdn] at NV RN ⊢
  clear y4 hdn
  have hwa : w.heap.size < w4.heap.size := BR.out.lt
  have hwb : w.heap.size + 1 < w4.heap.size := BP.out.lt
  have c0 := BR.out.cell 0 (.int .u8 r.rep) rfl
  have c1 := BR.out.cell 1 (.int .u8 r.flt) rfl
  have c2 := BR.out.cell 2 (.int .u32 r.epoch) rfl
  have c3 := BR.out.cell 3 (.int .u32 r.seq) rfl
  have c4 := BR.out.cell 4 (.slice Ak r.know.length ck) rfl
  have c5 := BR.out.cell 5 (.slice Ah r.held.length ch) rfl
  have c6 := BR.out.cell 6 (.bool r.ses.on) rfl
  have c7 := BR.out.cell 7 (.int .u32 r.ses.num) rfl
  have c8 := BR.out.cell 8 (.int .u8 r.ses.src) rfl
  have c9 := BR.out.cell 9 (.int .u8 r.ses.cur) rfl
  have c10 := BR.out.cell 10 (.int .u32 r.ses.epoch) rfl
  have c11 := BR.out.cell 11 (.slice Ao r.ses.offer.length co) rfl
  have c12 := BR.out.cell 12 (.int .u32 r.ses.last) rfl
  have b0 := BP.out.cell 0 (.int .i64 p.kind) rfl
  have b1 := BP.out.cell 1 (.int .u8 p.src) rfl
  have b2 := BP.out.cell 2 (.int .u8 p.dst) rfl
  have b3 := BP.out.cell 3 (.int .u32 p.num) rfl
  have b4 := BP.out.cell 4 (.int .u8 p.cur) rfl
  have b5 := BP.out.cell 5 (.int .u8 p.flt) rfl
  have b6 := BP.out.cell 6 (.slice Bk p.know.length dk) rfl
  have b7 := BP.out.cell 7 (.int .u32 p.epoch) rfl
  have b8 := BP.out.cell 8 (.slice Be p.ents.length de) rfl
  have b9 := BP.out.cell 9 (.int .u8 p.next) rfl
  have b10 := BP.out.cell 10 (.bool p.done) rfl
  have b11 := BP.out.cell 11 (.slice Bo p.offer.length d0) rfl
  go_wp2_with fail
  have BN := Lib.hid (Blk.new w4 #[.int .i64 n.kind, .int .u8 n.src, .int .u8 n.dst, .int .u32 n.num, .int .u8 n.cur, .int .u8 n.flt, .slice Ck n.know.length ek, .int .u32 n.epoch, .slice Ce n.ents.length ee, .int .u8 n.next, .bool true, .slice Co n.offer.length e0] 30)
  have HAL := Lib.hid (al1 w4 (.cells #[.int .i64 n.kind, .int .u8 n.src, .int .u8 n.dst, .int .u32 n.num, .int .u8 n.cur, .int .u8 n.flt, .slice Ck n.know.length ek, .int .u32 n.epoch, .slice Ce n.ents.length ee, .int .u8 n.next, .bool true, .slice Co n.offer.length e0] 30))
  generalize w4.alloc (.cells #[.int .i64 n.kind, .int .u8 n.src, .int .u8 n.dst, .int .u32 n.num, .int .u8 n.cur, .int .u8 n.flt, .slice Ck n.know.length ek, .int .u32 n.epoch, .slice Ce n.ents.length ee, .int .u8 n.next, .bool true, .slice Co n.offer.length e0] 30) = wn at BN HAL ⊢
  have BR := Lib.hid (BR.out.keep HAL.out)
  have BP := Lib.hid (BP.out.keep HAL.out)
  have HB := Lib.hid (HB.out.trans (HAL.out.mono HB.out.size))
  clear c0 c1 c2 c3 c4 c5 c6 c7 c8 c9 c10 c11 c12 b0 b1 b2 b3 b4 b5 b6 b7 b8 b9 b10 b11
  have du := DU.out HS.out HP.out wn HB.out
  rw [DQ.out] at du
  refine du.mono ?_
  rintro e w5 ⟨A, c, rfl, hlc, hsl, hb⟩
  have BN := Lib.hid (BN.out.keep hb)
  have BR := Lib.hid (BR.out.keep hb)
  have BP := Lib.hid (BP.out.keep hb)
  have H45 := Lib.hid (HAL.out.trans (hb.mono HAL.out.size))
  have HB := Lib.hid (HB.out.trans (hb.mono HB.out.size)); clear hb du HAL
  have HSL := Lib.hid hsl
  clear hsl
  have x0 := BN.out.cell 0 (.int .i64 n.kind) rfl
  have x1 := BN.out.cell 1 (.int .u8 n.src) rfl
  have x2 := BN.out.cell 2 (.int .u8 n.dst) rfl
  have x3 := BN.out.cell 3 (.int .u32 n.num) rfl
  have x4 := BN.out.cell 4 (.int .u8 n.cur) rfl
  have x5 := BN.out.cell 5 (.int .u8 n.flt) rfl
  have x6 := BN.out.cell 6 (.slice Ck n.know.length ek) rfl
  have x7 := BN.out.cell 7 (.int .u32 n.epoch) rfl
  have x8 := BN.out.cell 8 (.slice Ce n.ents.length ee) rfl
  have x9 := BN.out.cell 9 (.int .u8 n.next) rfl
  have x10 := BN.out.cell 10 (.bool true) rfl
  have x11 := BN.out.cell 11 (.slice Co n.offer.length e0) rfl
  go_wp2_with fail
  refine (RN.out w5 H45.out).mono ?_
  rintro e w6 ⟨rfl, hb⟩
  have BN := Lib.hid (BN.out.keep hb)
  have BR := Lib.hid (BR.out.keep hb)
  have BP := Lib.hid (BP.out.keep hb)
  have H46 := Lib.hid (H45.out.trans (hb.mono H45.out.size))
  have H56 := Lib.hid hb
  have HB := Lib.hid (HB.out.trans (hb.mono HB.out.size)); clear hb x0 x1 x2 x3 x4 x5 x6 x7 x8 x9 x10 x11
  have x8 := BN.out.cell 8 (.slice Ce n.ents.length ee) rfl
  have x9 := BN.out.cell 9 (.int .u8 n.next) rfl
  have x10 := BN.out.cell 10 (.bool true) rfl
  have hxe : (true != decide ((l.length : Int) ≤ 4)) = false := by rw [hlenB]; rfl
  go_wp2_with fail
  go_loopw [9] (fun i wr => ∃ k : Nat, i = .int .i64 k ∧ k ≤ n.ents.length ∧ Below w6.heap.size w6 wr) (fun i _ => n.ents.length - (intOf i).toNat)
  case atStart => exact ⟨0, rfl, by omega, Below.refl _ _⟩
  case round =>
    rename World => wr
    obtain ⟨k, rfl, hk, hb⟩ := hrel
    have BNr := Lib.hid (BN.out.keep hb)
    have BPr := Lib.hid (BP.out.keep hb)
    have BRr := Lib.hid (BR.out.keep hb)
    have HBr := Lib.hid (HB.out.trans (hb.mono HB.out.size))
    have H4r := Lib.hid (H46.out.trans (hb.mono H46.out.size))
    have H6r := Lib.hid hb
    clear x8 x9 x10 hb
    have x8 := BNr.out.cell 8 (.slice Ce n.ents.length ee) rfl
    have x9 := BNr.out.cell 9 (.int .u8 n.next) rfl
    have x10 := BNr.out.cell 10 (.bool true) rfl
    by_cases hlt : k < n.ents.length
    · skip
      obtain ⟨C0, cc0, hC0, _, hCok, hCA⟩ := XE.out
      injection hC0 with hC1 hC2 hC3
      subst hC1
      obtain ⟨b, off, rfl, hbw, hc⟩ := hCA (by intro h; simp [h] at hlt)
      have hxk : n.ents[k]? = some n.ents[k] := List.getElem?_eq_getElem hlt
      have hfe := HF.out.each n.ents[k] (List.getElem_mem hlt)
      have hxo := hCok n.ents[k] (List.getElem_mem hlt)
      have hxa := (hc k _ hxk).keep H4r.out hbw
      generalize n.ents[k] = x at hxk hfe hxo hxa
      obtain ⟨f1, f2, f3⟩ := hfe
      obtain ⟨a0, a1, a2, a3, a4, a5, a6⟩ := hxa.all
      have hbr : b < wr.heap.size := Nat.lt_of_lt_of_le hbw H4r.out.size
      have hpr : w.heap.size + 1 < wr.heap.size := BPr.out.lt
      have hnr : w4.heap.size < wr.heap.size := BNr.out.lt
      have HXO := Lib.hid hxo
      have HF3 := Lib.hid f3
      have hcur : ¬ x.id < p.cur := by omega
      have p4 := BPr.out.cell 4 (.int .u8 p.cur) rfl
      have p6 := BPr.out.cell 6 (.slice Bk p.know.length dk) rfl
      clear hxk hxa hxo hc hCA hCok hC2 hC3 f3
      have HHAS := Lib.hid (fun W (hb : Below w.heap.size w W) => refHas_any (.slice Bk p.know.length dk) p.know x.rep x.seq W ((PK.out.below hb).more hb.size) (Nat.le_trans HP.out.1 (by decide)))
      rw [f2] at HHAS
      clear f2
      go_wp2_with fail
      have HXA := Lib.hid (al1 wr (.cells #[.int .u8 x.id, .int .u8 x.rep, .int .u32 x.seq, .int .u32 x.stamp, .int .i64 x.kind, .int .u8 x.cls, .int .u32 x.val] 43))
      have HNE := Lib.hid (new_entry wr x 43)
      have hwx : wr.heap.size < (wr.alloc (.cells #[.int .u8 x.id, .int .u8 x.rep, .int .u32 x.seq, .int .u32 x.stamp, .int .i64 x.kind, .int .u8 x.cls, .int .u32 x.val] 43)).heap.size := by simp
      generalize wr.alloc (.cells #[.int .u8 x.id, .int .u8 x.rep, .int .u32 x.seq, .int .u32 x.stamp, .int .i64 x.kind, .int .u8 x.cls, .int .u32 x.val] 43) = wx at HXA HNE hwx ⊢
      have HBX := Lib.hid (HBr.out.trans (HXA.out.mono HBr.out.size))
      refine (HHAS.out wx HBX.out).mono ?_
      rintro e wy ⟨rfl, hby⟩
      obtain ⟨y0, y1, y2, y3, y4, y5, y6⟩ := (HNE.out.keep hby hwx).all0
      have p5 := ((BPr.out.keep HXA.out).keep hby).cell 5 (.int .u8 p.flt) rfl
      have H6y := Lib.hid (H6r.out.trans ((HXA.out.trans (hby.mono HXA.out.size)).mono H6r.out.size))
      clear hby
      cases hkd : (x.kind == 1)
      · skip
        go_wp2_with fail
        go_roundw
        case rel => exact ⟨k + 1, by go_num, by omega, H6y.out⟩
        case measure => simp [intOf]; omega
      · skip
        have hin := HF3.out (by simpa using hkd)
        have hI := rIn_any x p.flt wy HXO.out POK.out.2.2.2.2.2.1
        rw [hin] at hI
        unfold En.agg at hI
        have HI := Lib.hid hI
        clear hin hI
        go_wp2_with fail
        refine HI.out.mono ?_
        rintro e wq ⟨rfl, hbq⟩
        have H6q := Lib.hid (H6y.out.trans (hbq.mono H6y.out.size))
        clear hbq
        go_wp2_with fail
        go_roundw
        case rel => exact ⟨k + 1, by go_num, by omega, H6q.out⟩
        case measure => simp [intOf]; omega
    · skip
      go_wp2
      go_ret
      exact ⟨rfl, HBr.out⟩

set_option maxHeartbeats 16000000 in
set_option maxRecDepth 100000 in
theorem fits_more (v u : Value) (r : Rp) (p : Nt) (w : World) (hv : RpV w w.heap.size v r) (hu : NtV w w.heap.size u p) (haw : AwakeSaid 4) (han : AnswerSaid 7) (hdu : DueSaid 8) (hs : shortR r) (hp : shortN p) (n : Nt) (he : answerR r p = .ok n) (hd : n.done = false) :
    Calls Try.prog 3 #[v, u] w fun e w' => e = .returned (.bool true) ∧ Below w.heap.size w w' := by
  have RV := Lib.hid hv
  have PV := Lib.hid hu
  have S5 := Lib.hid (fun w1 (hb : Below w.heap.size w w1) => q5Short_any v r w1 (hv.later hb))
  have S4 := Lib.hid (fun w1 (hb : Below w.heap.size w w1) => q4Short_any u p w1 (hu.later hb))
  have AW := Lib.hid haw
  have AN := Lib.hid (fun hs hp w1 (hb : Below w.heap.size w w1) => han v u r p w1 (hv.later hb) (hu.later hb) hs hp)
  have DU := Lib.hid (fun hs hp w1 (hb : Below w.heap.size w w1) => hdu v u r p w1 (hv.later hb) (hu.later hb) hs hp)
  have HDU := Lib.hid hdu
  clear haw han hdu
  obtain ⟨vk, vh, vo, rfl, hk, hh, ho, hok⟩ := hv
  obtain ⟨uk, ue, uo, rfl, jk, je, jo, jok⟩ := hu
  have PK := Lib.hid jk
  have POK := Lib.hid jok
  have PE := Lib.hid je
  have PO := Lib.hid jo
  clear hok jok
  obtain ⟨Ak, ck, rfl, _⟩ := hk
  obtain ⟨Ah, ch, rfl, _⟩ := hh
  obtain ⟨Ao, co, rfl, _⟩ := ho
  obtain ⟨Bk, dk, rfl, _⟩ := jk
  obtain ⟨Be, de, rfl, _⟩ := je
  obtain ⟨Bo, d0, rfl, _⟩ := jo
  unfold Rp.cells at S5 AN DU RV ⊢
  unfold Nt.cells at S4 AN DU PV ⊢
  have hs' : decide (r.know.length ≤ 300 ∧ r.held.length ≤ 300 ∧ r.ses.offer.length ≤ 300) = true := decide_eq_true hs
  rw [hs'] at S5
  have hp' : decide (p.know.length ≤ 300 ∧ p.ents.length ≤ 300 ∧ p.offer.length ≤ 300) = true := decide_eq_true hp
  rw [hp'] at S4
  have HS := Lib.hid hs
  have HP := Lib.hid hp
  clear hs hs' hp hp'
  have EQ := Lib.hid he
  obtain ⟨l, hf⟩ := answer_fits he
  clear he
  have HF := Lib.hid hf
  have DQ := Lib.hid hf.due
  have hdn : n.done = false := by rw [hd]
  have hlenB : decide ((l.length : Int) ≤ 4) = false := by
    have h1 := hf.done
    rw [hdn] at h1
    rw [show decide ((l.length : Int) ≤ 4) = decide (l.length ≤ 4) from decide_eq_decide.2 (by omega)]
    exact h1.symm
  have hnl := hf.len
  have h4l : 4 < l.length := by
    have := hlenB
    rw [decide_eq_false_iff_not] at this
    omega
  have hn4 : n.ents.length = 4 := hf.four h4l
  have z4 : ((n.ents.length : Int) != 4) = false := by rw [hn4]; rfl
  have HN4 := Lib.hid hn4
  clear hn4
  clear hf hd
  go_enter Try.func3, Try.ntmps3
  go_wp2_with fail
  have HB0 := Lib.hid (al2 w (.cells #[.int .u8 r.rep, .int .u8 r.flt, .int .u32 r.epoch, .int .u32 r.seq, .slice Ak r.know.length ck, .slice Ah r.held.length ch, .bool r.ses.on, .int .u32 r.ses.num, .int .u8 r.ses.src, .int .u8 r.ses.cur, .int .u32 r.ses.epoch, .slice Ao r.ses.offer.length co, .int .u32 r.ses.last] 28) (.cells #[.int .i64 p.kind, .int .u8 p.src, .int .u8 p.dst, .int .u32 p.num, .int .u8 p.cur, .int .u8 p.flt, .slice Bk p.know.length dk, .int .u32 p.epoch, .slice Be p.ents.length de, .int .u8 p.next, .bool p.done, .slice Bo p.offer.length d0] 30))
  have BR := Lib.hid ((Blk.new w #[.int .u8 r.rep, .int .u8 r.flt, .int .u32 r.epoch, .int .u32 r.seq, .slice Ak r.know.length ck, .slice Ah r.held.length ch, .bool r.ses.on, .int .u32 r.ses.num, .int .u8 r.ses.src, .int .u8 r.ses.cur, .int .u32 r.ses.epoch, .slice Ao r.ses.offer.length co, .int .u32 r.ses.last] 28).alloc (.cells #[.int .i64 p.kind, .int .u8 p.src, .int .u8 p.dst, .int .u32 p.num, .int .u8 p.cur, .int .u8 p.flt, .slice Bk p.know.length dk, .int .u32 p.epoch, .slice Be p.ents.length de, .int .u8 p.next, .bool p.done, .slice Bo p.offer.length d0] 30))
  have BP := Lib.hid (blk_two w (.cells #[.int .u8 r.rep, .int .u8 r.flt, .int .u32 r.epoch, .int .u32 r.seq, .slice Ak r.know.length ck, .slice Ah r.held.length ch, .bool r.ses.on, .int .u32 r.ses.num, .int .u8 r.ses.src, .int .u8 r.ses.cur, .int .u32 r.ses.epoch, .slice Ao r.ses.offer.length co, .int .u32 r.ses.last] 28) #[.int .i64 p.kind, .int .u8 p.src, .int .u8 p.dst, .int .u32 p.num, .int .u8 p.cur, .int .u8 p.flt, .slice Bk p.know.length dk, .int .u32 p.epoch, .slice Be p.ents.length de, .int .u8 p.next, .bool p.done, .slice Bo p.offer.length d0] 30)
  generalize (w.alloc (.cells #[.int .u8 r.rep, .int .u8 r.flt, .int .u32 r.epoch, .int .u32 r.seq, .slice Ak r.know.length ck, .slice Ah r.held.length ch, .bool r.ses.on, .int .u32 r.ses.num, .int .u8 r.ses.src, .int .u8 r.ses.cur, .int .u32 r.ses.epoch, .slice Ao r.ses.offer.length co, .int .u32 r.ses.last] 28)).alloc (.cells #[.int .i64 p.kind, .int .u8 p.src, .int .u8 p.dst, .int .u32 p.num, .int .u8 p.cur, .int .u8 p.flt, .slice Bk p.know.length dk, .int .u32 p.epoch, .slice Be p.ents.length de, .int .u8 p.next, .bool p.done, .slice Bo p.offer.length d0] 30) = wz at HB0 BR BP ⊢
  refine (AW.out wz).mono ?_
  rintro e w1 ⟨rfl, hb⟩
  have BR := Lib.hid (BR.out.keep hb)
  have BP := Lib.hid (BP.out.keep hb)
  have HB := Lib.hid (HB0.out.trans (hb.mono HB0.out.size)); clear hb HB0
  have c0 := BR.out.cell 0 (.int .u8 r.rep) rfl
  have c1 := BR.out.cell 1 (.int .u8 r.flt) rfl
  have c2 := BR.out.cell 2 (.int .u32 r.epoch) rfl
  have c3 := BR.out.cell 3 (.int .u32 r.seq) rfl
  have c4 := BR.out.cell 4 (.slice Ak r.know.length ck) rfl
  have c5 := BR.out.cell 5 (.slice Ah r.held.length ch) rfl
  have c6 := BR.out.cell 6 (.bool r.ses.on) rfl
  have c7 := BR.out.cell 7 (.int .u32 r.ses.num) rfl
  have c8 := BR.out.cell 8 (.int .u8 r.ses.src) rfl
  have c9 := BR.out.cell 9 (.int .u8 r.ses.cur) rfl
  have c10 := BR.out.cell 10 (.int .u32 r.ses.epoch) rfl
  have c11 := BR.out.cell 11 (.slice Ao r.ses.offer.length co) rfl
  have c12 := BR.out.cell 12 (.int .u32 r.ses.last) rfl
  go_wp2_with fail
  refine (S5.out w1 HB.out).mono ?_
  rintro e w2 ⟨rfl, hb⟩
  have BR := Lib.hid (BR.out.keep hb)
  have BP := Lib.hid (BP.out.keep hb)
  have HB := Lib.hid (HB.out.trans (hb.mono HB.out.size)); clear hb c0 c1 c2 c3 c4 c5 c6 c7 c8 c9 c10 c11 c12
  have b0 := BP.out.cell 0 (.int .i64 p.kind) rfl
  have b1 := BP.out.cell 1 (.int .u8 p.src) rfl
  have b2 := BP.out.cell 2 (.int .u8 p.dst) rfl
  have b3 := BP.out.cell 3 (.int .u32 p.num) rfl
  have b4 := BP.out.cell 4 (.int .u8 p.cur) rfl
  have b5 := BP.out.cell 5 (.int .u8 p.flt) rfl
  have b6 := BP.out.cell 6 (.slice Bk p.know.length dk) rfl
  have b7 := BP.out.cell 7 (.int .u32 p.epoch) rfl
  have b8 := BP.out.cell 8 (.slice Be p.ents.length de) rfl
  have b9 := BP.out.cell 9 (.int .u8 p.next) rfl
  have b10 := BP.out.cell 10 (.bool p.done) rfl
  have b11 := BP.out.cell 11 (.slice Bo p.offer.length d0) rfl
  go_wp2_with fail
  refine (S4.out w2 HB.out).mono ?_
  rintro e w3 ⟨rfl, hb⟩
  have BR := Lib.hid (BR.out.keep hb)
  have BP := Lib.hid (BP.out.keep hb)
  have HB := Lib.hid (HB.out.trans (hb.mono HB.out.size)); clear hb b0 b1 b2 b3 b4 b5 b6 b7 b8 b9 b10 b11
  have c0 := BR.out.cell 0 (.int .u8 r.rep) rfl
  have c1 := BR.out.cell 1 (.int .u8 r.flt) rfl
  have c2 := BR.out.cell 2 (.int .u32 r.epoch) rfl
  have c3 := BR.out.cell 3 (.int .u32 r.seq) rfl
  have c4 := BR.out.cell 4 (.slice Ak r.know.length ck) rfl
  have c5 := BR.out.cell 5 (.slice Ah r.held.length ch) rfl
  have c6 := BR.out.cell 6 (.bool r.ses.on) rfl
  have c7 := BR.out.cell 7 (.int .u32 r.ses.num) rfl
  have c8 := BR.out.cell 8 (.int .u8 r.ses.src) rfl
  have c9 := BR.out.cell 9 (.int .u8 r.ses.cur) rfl
  have c10 := BR.out.cell 10 (.int .u32 r.ses.epoch) rfl
  have c11 := BR.out.cell 11 (.slice Ao r.ses.offer.length co) rfl
  have c12 := BR.out.cell 12 (.int .u32 r.ses.last) rfl
  have b0 := BP.out.cell 0 (.int .i64 p.kind) rfl
  have b1 := BP.out.cell 1 (.int .u8 p.src) rfl
  have b2 := BP.out.cell 2 (.int .u8 p.dst) rfl
  have b3 := BP.out.cell 3 (.int .u32 p.num) rfl
  have b4 := BP.out.cell 4 (.int .u8 p.cur) rfl
  have b5 := BP.out.cell 5 (.int .u8 p.flt) rfl
  have b6 := BP.out.cell 6 (.slice Bk p.know.length dk) rfl
  have b7 := BP.out.cell 7 (.int .u32 p.epoch) rfl
  have b8 := BP.out.cell 8 (.slice Be p.ents.length de) rfl
  have b9 := BP.out.cell 9 (.int .u8 p.next) rfl
  have b10 := BP.out.cell 10 (.bool p.done) rfl
  have b11 := BP.out.cell 11 (.slice Bo p.offer.length d0) rfl
  go_wp2_with fail
  have an := AN.out HS.out HP.out w3 HB.out
  rw [EQ.out] at an
  refine an.mono ?_
  rintro e w4 ⟨vn, rfl, hvn, hb⟩
  have BR := Lib.hid (BR.out.keep hb)
  have BP := Lib.hid (BP.out.keep hb)
  have HB := Lib.hid (HB.out.trans (hb.mono HB.out.size)); clear hb an c0 c1 c2 c3 c4 c5 c6 c7 c8 c9 c10 c11 c12 b0 b1 b2 b3 b4 b5 b6 b7 b8 b9 b10 b11
  have NV := Lib.hid hvn
  have RN := Lib.hid (fun w1 (hb : Below w4.heap.size w4 w1) => nRight_any vn n w1 (hvn.later hb))
  rw [HF.out.right] at RN
  obtain ⟨xk, xe, xo, rfl, y1, y2, y3, y4⟩ := hvn
  have XE := Lib.hid y2
  have NOK := Lib.hid y4
  obtain ⟨Ck, ek, rfl, _⟩ := y1
  obtain ⟨Ce, ee, rfl, _⟩ := y2
  obtain ⟨Co, e0, rfl, _⟩ := y3
  unfold Nt.cells at NV RN ⊢
  rw [hdn] at NV RN ⊢
  clear y4 hdn
  have hwa : w.heap.size < w4.heap.size := BR.out.lt
  have hwb : w.heap.size + 1 < w4.heap.size := BP.out.lt
  have c0 := BR.out.cell 0 (.int .u8 r.rep) rfl
  have c1 := BR.out.cell 1 (.int .u8 r.flt) rfl
  have c2 := BR.out.cell 2 (.int .u32 r.epoch) rfl
  have c3 := BR.out.cell 3 (.int .u32 r.seq) rfl
  have c4 := BR.out.cell 4 (.slice Ak r.know.length ck) rfl
  have c5 := BR.out.cell 5 (.slice Ah r.held.length ch) rfl
  have c6 := BR.out.cell 6 (.bool r.ses.on) rfl
  have c7 := BR.out.cell 7 (.int .u32 r.ses.num) rfl
  have c8 := BR.out.cell 8 (.int .u8 r.ses.src) rfl
  have c9 := BR.out.cell 9 (.int .u8 r.ses.cur) rfl
  have c10 := BR.out.cell 10 (.int .u32 r.ses.epoch) rfl
  have c11 := BR.out.cell 11 (.slice Ao r.ses.offer.length co) rfl
  have c12 := BR.out.cell 12 (.int .u32 r.ses.last) rfl
  have b0 := BP.out.cell 0 (.int .i64 p.kind) rfl
  have b1 := BP.out.cell 1 (.int .u8 p.src) rfl
  have b2 := BP.out.cell 2 (.int .u8 p.dst) rfl
  have b3 := BP.out.cell 3 (.int .u32 p.num) rfl
  have b4 := BP.out.cell 4 (.int .u8 p.cur) rfl
  have b5 := BP.out.cell 5 (.int .u8 p.flt) rfl
  have b6 := BP.out.cell 6 (.slice Bk p.know.length dk) rfl
  have b7 := BP.out.cell 7 (.int .u32 p.epoch) rfl
  have b8 := BP.out.cell 8 (.slice Be p.ents.length de) rfl
  have b9 := BP.out.cell 9 (.int .u8 p.next) rfl
  have b10 := BP.out.cell 10 (.bool p.done) rfl
  have b11 := BP.out.cell 11 (.slice Bo p.offer.length d0) rfl
  go_wp2_with fail
  have BN := Lib.hid (Blk.new w4 #[.int .i64 n.kind, .int .u8 n.src, .int .u8 n.dst, .int .u32 n.num, .int .u8 n.cur, .int .u8 n.flt, .slice Ck n.know.length ek, .int .u32 n.epoch, .slice Ce n.ents.length ee, .int .u8 n.next, .bool false, .slice Co n.offer.length e0] 30)
  have HAL := Lib.hid (al1 w4 (.cells #[.int .i64 n.kind, .int .u8 n.src, .int .u8 n.dst, .int .u32 n.num, .int .u8 n.cur, .int .u8 n.flt, .slice Ck n.know.length ek, .int .u32 n.epoch, .slice Ce n.ents.length ee, .int .u8 n.next, .bool false, .slice Co n.offer.length e0] 30))
  generalize w4.alloc (.cells #[.int .i64 n.kind, .int .u8 n.src, .int .u8 n.dst, .int .u32 n.num, .int .u8 n.cur, .int .u8 n.flt, .slice Ck n.know.length ek, .int .u32 n.epoch, .slice Ce n.ents.length ee, .int .u8 n.next, .bool false, .slice Co n.offer.length e0] 30) = wn at BN HAL ⊢
  have BR := Lib.hid (BR.out.keep HAL.out)
  have BP := Lib.hid (BP.out.keep HAL.out)
  have HB := Lib.hid (HB.out.trans (HAL.out.mono HB.out.size))
  clear c0 c1 c2 c3 c4 c5 c6 c7 c8 c9 c10 c11 c12 b0 b1 b2 b3 b4 b5 b6 b7 b8 b9 b10 b11
  have du := DU.out HS.out HP.out wn HB.out
  rw [DQ.out] at du
  refine du.mono ?_
  rintro e w5 ⟨A, c, rfl, hlc, hsl, hb⟩
  have BN := Lib.hid (BN.out.keep hb)
  have BR := Lib.hid (BR.out.keep hb)
  have BP := Lib.hid (BP.out.keep hb)
  have H45 := Lib.hid (HAL.out.trans (hb.mono HAL.out.size))
  have HB := Lib.hid (HB.out.trans (hb.mono HB.out.size)); clear hb du HAL
  have HSL := Lib.hid hsl
  clear hsl
  have x0 := BN.out.cell 0 (.int .i64 n.kind) rfl
  have x1 := BN.out.cell 1 (.int .u8 n.src) rfl
  have x2 := BN.out.cell 2 (.int .u8 n.dst) rfl
  have x3 := BN.out.cell 3 (.int .u32 n.num) rfl
  have x4 := BN.out.cell 4 (.int .u8 n.cur) rfl
  have x5 := BN.out.cell 5 (.int .u8 n.flt) rfl
  have x6 := BN.out.cell 6 (.slice Ck n.know.length ek) rfl
  have x7 := BN.out.cell 7 (.int .u32 n.epoch) rfl
  have x8 := BN.out.cell 8 (.slice Ce n.ents.length ee) rfl
  have x9 := BN.out.cell 9 (.int .u8 n.next) rfl
  have x10 := BN.out.cell 10 (.bool false) rfl
  have x11 := BN.out.cell 11 (.slice Co n.offer.length e0) rfl
  go_wp2_with fail
  refine (RN.out w5 H45.out).mono ?_
  rintro e w6 ⟨rfl, hb⟩
  have BN := Lib.hid (BN.out.keep hb)
  have BR := Lib.hid (BR.out.keep hb)
  have BP := Lib.hid (BP.out.keep hb)
  have H46 := Lib.hid (H45.out.trans (hb.mono H45.out.size))
  have H56 := Lib.hid hb
  have HB := Lib.hid (HB.out.trans (hb.mono HB.out.size)); clear hb x0 x1 x2 x3 x4 x5 x6 x7 x8 x9 x10 x11
  have x8 := BN.out.cell 8 (.slice Ce n.ents.length ee) rfl
  have x9 := BN.out.cell 9 (.int .u8 n.next) rfl
  have x10 := BN.out.cell 10 (.bool false) rfl
  have hxe : (false != decide ((l.length : Int) ≤ 4)) = false := by rw [hlenB]; rfl
  go_wp2_with fail
  go_loopw [9] (fun i wr => ∃ k : Nat, i = .int .i64 k ∧ k ≤ n.ents.length ∧ Below w6.heap.size w6 wr) (fun i _ => n.ents.length - (intOf i).toNat)
  case atStart => exact ⟨0, rfl, by omega, Below.refl _ _⟩
  case round =>
    rename World => wr
    obtain ⟨k, rfl, hk, hb⟩ := hrel
    have BNr := Lib.hid (BN.out.keep hb)
    have BPr := Lib.hid (BP.out.keep hb)
    have BRr := Lib.hid (BR.out.keep hb)
    have HBr := Lib.hid (HB.out.trans (hb.mono HB.out.size))
    have H4r := Lib.hid (H46.out.trans (hb.mono H46.out.size))
    have H6r := Lib.hid hb
    clear x8 x9 x10 hb
    have x8 := BNr.out.cell 8 (.slice Ce n.ents.length ee) rfl
    have x9 := BNr.out.cell 9 (.int .u8 n.next) rfl
    have x10 := BNr.out.cell 10 (.bool false) rfl
    by_cases hlt : k < n.ents.length
    · skip
      obtain ⟨C0, cc0, hC0, _, hCok, hCA⟩ := XE.out
      injection hC0 with hC1 hC2 hC3
      subst hC1
      obtain ⟨b, off, rfl, hbw, hc⟩ := hCA (by intro h; simp [h] at hlt)
      have hxk : n.ents[k]? = some n.ents[k] := List.getElem?_eq_getElem hlt
      have hfe := HF.out.each n.ents[k] (List.getElem_mem hlt)
      have hxo := hCok n.ents[k] (List.getElem_mem hlt)
      have hxa := (hc k _ hxk).keep H4r.out hbw
      generalize n.ents[k] = x at hxk hfe hxo hxa
      obtain ⟨f1, f2, f3⟩ := hfe
      obtain ⟨a0, a1, a2, a3, a4, a5, a6⟩ := hxa.all
      have hbr : b < wr.heap.size := Nat.lt_of_lt_of_le hbw H4r.out.size
      have hpr : w.heap.size + 1 < wr.heap.size := BPr.out.lt
      have hnr : w4.heap.size < wr.heap.size := BNr.out.lt
      have HXO := Lib.hid hxo
      have HF3 := Lib.hid f3
      have hcur : ¬ x.id < p.cur := by omega
      have p4 := BPr.out.cell 4 (.int .u8 p.cur) rfl
      have p6 := BPr.out.cell 6 (.slice Bk p.know.length dk) rfl
      clear hxk hxa hxo hc hCA hCok hC2 hC3 f3
      have HHAS := Lib.hid (fun W (hb : Below w.heap.size w W) => refHas_any (.slice Bk p.know.length dk) p.know x.rep x.seq W ((PK.out.below hb).more hb.size) (Nat.le_trans HP.out.1 (by decide)))
      rw [f2] at HHAS
      clear f2
      go_wp2_with fail
      have HXA := Lib.hid (al1 wr (.cells #[.int .u8 x.id, .int .u8 x.rep, .int .u32 x.seq, .int .u32 x.stamp, .int .i64 x.kind, .int .u8 x.cls, .int .u32 x.val] 43))
      have HNE := Lib.hid (new_entry wr x 43)
      have hwx : wr.heap.size < (wr.alloc (.cells #[.int .u8 x.id, .int .u8 x.rep, .int .u32 x.seq, .int .u32 x.stamp, .int .i64 x.kind, .int .u8 x.cls, .int .u32 x.val] 43)).heap.size := by simp
      generalize wr.alloc (.cells #[.int .u8 x.id, .int .u8 x.rep, .int .u32 x.seq, .int .u32 x.stamp, .int .i64 x.kind, .int .u8 x.cls, .int .u32 x.val] 43) = wx at HXA HNE hwx ⊢
      have HBX := Lib.hid (HBr.out.trans (HXA.out.mono HBr.out.size))
      refine (HHAS.out wx HBX.out).mono ?_
      rintro e wy ⟨rfl, hby⟩
      obtain ⟨y0, y1, y2, y3, y4, y5, y6⟩ := (HNE.out.keep hby hwx).all0
      have p5 := ((BPr.out.keep HXA.out).keep hby).cell 5 (.int .u8 p.flt) rfl
      have H6y := Lib.hid (H6r.out.trans ((HXA.out.trans (hby.mono HXA.out.size)).mono H6r.out.size))
      clear hby
      cases hkd : (x.kind == 1)
      · skip
        go_wp2_with fail
        go_roundw
        case rel => exact ⟨k + 1, by go_num, by omega, H6y.out⟩
        case measure => simp [intOf]; omega
      · skip
        have hin := HF3.out (by simpa using hkd)
        have hI := rIn_any x p.flt wy HXO.out POK.out.2.2.2.2.2.1
        rw [hin] at hI
        unfold En.agg at hI
        have HI := Lib.hid hI
        clear hin hI
        go_wp2_with fail
        refine HI.out.mono ?_
        rintro e wq ⟨rfl, hbq⟩
        have H6q := Lib.hid (H6y.out.trans (hbq.mono H6y.out.size))
        clear hbq
        go_wp2_with fail
        go_roundw
        case rel => exact ⟨k + 1, by go_num, by omega, H6q.out⟩
        case measure => simp [intOf]; omega
    · skip
      have hpr : w.heap.size + 1 < wr.heap.size := BPr.out.lt
      have hfz : wr.frozen? ⟨w.heap.size + 1, 4, none⟩ = false := BPr.out.free 4
      have HBS := Lib.hid (show Below w.heap.size w (wr.setCell ⟨w.heap.size + 1, 4, none⟩ (.int .u8 n.next)) from HBr.out.setCell (Nat.le_succ _) _)
      have HSR := Lib.hid ((HSL.out.later (H56.out.trans (H6r.out.mono H56.out.size))).set (j := 4) (u := .int .u8 n.next) (fun b o x _ he => note_apart BPr.out rfl rfl he))
      have hsz : wr.heap.size ≤ (wr.setCell ⟨w.heap.size + 1, 4, none⟩ (.int .u8 n.next)).heap.size := by simp [World.setCell]
      have HSR := Lib.hid (HSR.out.more hsz)
      clear hsz
      have c0 := BRr.out.cell 0 (.int .u8 r.rep) rfl
      have c1 := BRr.out.cell 1 (.int .u8 r.flt) rfl
      have c2 := BRr.out.cell 2 (.int .u32 r.epoch) rfl
      have c3 := BRr.out.cell 3 (.int .u32 r.seq) rfl
      have c4 := BRr.out.cell 4 (.slice Ak r.know.length ck) rfl
      have c5 := BRr.out.cell 5 (.slice Ah r.held.length ch) rfl
      have c6 := BRr.out.cell 6 (.bool r.ses.on) rfl
      have c7 := BRr.out.cell 7 (.int .u32 r.ses.num) rfl
      have c8 := BRr.out.cell 8 (.int .u8 r.ses.src) rfl
      have c9 := BRr.out.cell 9 (.int .u8 r.ses.cur) rfl
      have c10 := BRr.out.cell 10 (.int .u32 r.ses.epoch) rfl
      have c11 := BRr.out.cell 11 (.slice Ao r.ses.offer.length co) rfl
      have c12 := BRr.out.cell 12 (.int .u32 r.ses.last) rfl
      have b0 := BPr.out.cell 0 (.int .i64 p.kind) rfl
      have b1 := BPr.out.cell 1 (.int .u8 p.src) rfl
      have b2 := BPr.out.cell 2 (.int .u8 p.dst) rfl
      have b3 := BPr.out.cell 3 (.int .u32 p.num) rfl
      have b4 := BPr.out.cell 4 (.int .u8 p.cur) rfl
      have b5 := BPr.out.cell 5 (.int .u8 p.flt) rfl
      have b6 := BPr.out.cell 6 (.slice Bk p.know.length dk) rfl
      have b7 := BPr.out.cell 7 (.int .u32 p.epoch) rfl
      have b8 := BPr.out.cell 8 (.slice Be p.ents.length de) rfl
      have b9 := BPr.out.cell 9 (.int .u8 p.next) rfl
      have b10 := BPr.out.cell 10 (.bool p.done) rfl
      have b11 := BPr.out.cell 11 (.slice Bo p.offer.length d0) rfl
      go_wp2_with fail
      generalize wr.setCell ⟨w.heap.size + 1, 4, none⟩ (.int .u8 n.next) = ws at HBS HSR ⊢
      have du2 := HDU.out _ _ r (cutAt p n.next) ws (RV.out.later HBS.out) ⟨.slice Bk p.know.length dk, .slice Be p.ents.length de, .slice Bo p.offer.length d0, rfl, (PK.out.below HBS.out).more HBS.out.size, PE.out.later HBS.out, (PO.out.below HBS.out).more HBS.out.size, cut_ok POK.out NOK.out⟩ HS.out HP.out
      rw [HF.out.rest h4l] at du2
      unfold Nt.cells cutAt at du2
      refine du2.mono ?_
      rintro e w9 ⟨A9, cq, rfl, _, hsl9, hb9⟩
      have HT := Lib.hid (HSR.out.later hb9)
      have H9 := Lib.hid hsl9
      have HB9 := Lib.hid (HBS.out.trans (hb9.mono HBS.out.size))
      have hl2 : (l.drop 4).length = l.length - 4 := List.length_drop
      obtain ⟨bq, oq, hA0⟩ : ∃ b off, A = some ⟨b, off, none⟩ := by
        obtain ⟨A', c', hv, _, _, hA⟩ := HSL.out
        injection hv with h1
        obtain ⟨b, off, h, _⟩ := hA (by intro h; rw [h] at h4l; simp at h4l)
        exact ⟨b, off, h1.trans h⟩
      subst hA0
      have HTT := Lib.hid (HT.out.tail (d := 4) h4l)
      have hll : l.length ≤ 300 := Nat.le_trans HF.out.held HS.out.2.1
      have hlen9 : (l.drop 4).length ≤ 10000 := by omega
      have HSM := Lib.hid (fun v => rSame_yes (.slice A9 (l.drop 4).length cq) v (l.drop 4) w9 H9.out)
      generalize l.drop 4 = l2 at HTT H9 hl2 hlen9 HSM ⊢
      have HL2 := Lib.hid hl2
      clear hl2 hsl9 hb9 c0 c1 c2 c3 c4 c5 c6 c7 c8 c9 c10 c11 c12 b0 b1 b2 b3 b4 b5 b6 b7 b8 b9 b10 b11
      go_wp2_with fail
      refine (HSM.out _ HTT.out hlen9).mono ?_
      rintro e w10 ⟨rfl, hb10⟩
      have HB10 := Lib.hid (HB9.out.trans (hb10.mono HB9.out.size)); clear hb10
      go_wp2_with fail
      go_ret
      exact ⟨rfl, HB10.out⟩

theorem fits_any (v u : Value) (r : Rp) (p : Nt) (w : World) (hv : RpV w w.heap.size v r) (hu : NtV w w.heap.size u p) (haw : AwakeSaid 4) (han : AnswerSaid 7) (hdu : DueSaid 8) :
    Calls Try.prog 3 #[v, u] w fun e w' => e = .returned (.bool true) ∧ Below w.heap.size w w' := by
  by_cases hs : shortR r
  · by_cases hp : shortN p
    · cases he : answerR r p with
      | error c => exact fits_no v u r p w hv hu haw han hdu hs hp c he
      | ok n =>
        cases hd : n.done
        · exact fits_more v u r p w hv hu haw han hdu hs hp n he hd
        · exact fits_done v u r p w hv hu haw han hdu hs hp n he hd
    · exact fits_long2 v u r p w hv hu haw han hdu hs hp
  · exact fits_long1 v u r p w hv hu haw han hdu hs
end Go.Proofs.Ytfjaeohfigcciab

