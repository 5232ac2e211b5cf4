/- Texts in one: SCode6. -/
import Derived.Test.YtfjaeohfigcciabGreatDoorQF47
import Derived.Test.YtfjaeohfigcciabGreatDoorQF11
import Derived.Test.YtfjaeohfigcciabGreatDoorQF08
set_option linter.unusedVariables false
set_option linter.unusedSimpArgs false
set_option linter.unusedSectionVars false
set_option linter.unnecessarySimpa false
namespace Go.Proofs.YtfjaeohfigcciabGreatDoor
open Go.RowKit

/-- a note in new memory comes back, or a code -/
def AnsFar (w : World) (x : Except Int Nt) (e : Ending) (w' : World) : Prop :=
  match x with
  | .ok n => ∃ v, e = .returned (.tuple #[v, .nilIface]) ∧ NtV w' w'.heap.size v n ∧ Below w.heap.size w w' ∧ NtAv (fun k => w.heap.size ≤ k) v n
  | .error c => e = .returned (.tuple #[.agg zeroC, .iface 74 (.int .i64 c)]) ∧ Below w.heap.size w w'
theorem AnsFar.post {w : World} {x : Except Int Nt} {e : Ending} {w' : World} (h : AnsFar w x e w') : AnsPost w x e w' := by
  cases x with
  | ok n =>
    obtain ⟨v, h1, h2, h3, _⟩ := h
    exact ⟨v, h1, h2, h3⟩
  | error c =>
    obtain ⟨h1, h2⟩ := h
    exact ⟨_, _, h1, h2⟩
theorem results_cell_row1 {P : Program} {fn : Func} {p q : Tmp} {ty : TypeId} (h : fn.results = #[.cell p ty, .tmp q]) (tmps : Array Value) (w : World) (g : Nat) (t : TypeId) (cs : Array Value) (fr : Nat × Nat) (d : TypeDesc)
    (hp : tmps.getD p undef = .pointer (some ⟨g, 0, none⟩)) (hg : w.heap[g]? = some (.cells cs t fr))
    (hu : P.underlying ty = some d) (hd : (match d with | .struct _ | .array _ _ => true | _ => false) = true) (hi : (P.info? ty).map (·.size) = some cs.size) :
    (results fn tmps).run P w = .ok (.tuple #[.agg cs, tmps.getD q undef]) w := by
  have hp' : tmps[p]?.getD undef = .pointer (some ⟨g, 0, none⟩) := by simpa using hp
  simp [results, h, hp', asAddr, run_loadVar_row w g t ty cs fr d hg hu hd hi]
theorem grownBy_setCellAt (W : World) (b j : Nat) (v : Value) : W.grownBy (W.setCell ⟨b, j, none⟩ v) (some b) :=
  ⟨rfl, rfl, rfl, (KeepsWalks.setCell W _ v).size, fun k _ hk => Below.heap_setCell _ _ _ k (fun e => hk (by rw [e]))⟩
theorem EOwn.setBlk {W : World} {base : Nat} {v : Value} {zs : List En} (h : EOwn W base v zs) {g : Nat} {cs : Array Value} {t : TypeId} (hb : Blk W g cs t) (ht : t ≠ 62) (j : Nat) (u' : Value) : EOwn (W.setCell ⟨g, j, none⟩ u') base v zs := by
  refine World.ownsRow.kept h (grownBy_setCellAt W g j u') ?_
  rcases h.2 with ⟨hv, _⟩ | ⟨k, cap, cur, hv, _, hk, _⟩
  · exact .inl (by rw [hv]; rfl)
  · refine .inr fun e => ?_
    rw [hv] at e
    simp [Value.ownBlock] at e
    subst e
    have := hb.at_.symm.trans hk
    simp at this
    exact ht this.2
theorem next_map (f : Int) (l : List En) (cur : Int) : nextOf (l.map (fitE f)) cur = nextOf l cur := by
  unfold nextOf
  rw [List.getLast?_map]
  cases l.getLast? with
  | none => rfl
  | some x => exact congrArg (· + 1) (fit_same f x).1
def ansN (r : Rp) (p : Nt) (L : List En) (nx : Int) (d : Bool) (o : List Rn) : Nt := ⟨2, r.rep, p.src, p.num, p.cur, 0, [], r.epoch, L, nx, d, o⟩
theorem ans_ok {r : Rp} {p : Nt} {L : List En} {nx : Int} {d : Bool} {o : List Rn} (hr : r.ok) (hp : p.ok) (hL : ∀ x ∈ L, x.ok) (hn : 0 ≤ nx ∧ nx ≤ 255) (ho : ∀ x ∈ o, x.ok) : (ansN r p L nx d o).ok := by
  obtain ⟨r1, r2, r3, _⟩ := hr
  obtain ⟨_, p2, _, p4, p5, _⟩ := hp
  exact ⟨(show (-9223372036854775808 : Int) ≤ 2 ∧ (2 : Int) ≤ 9223372036854775807 by decide), r1, p2, p4, p5, (show (0 : Int) ≤ 0 ∧ (0 : Int) ≤ 255 by decide), (fun x hx => by cases hx), r3, hL, hn, ho⟩
theorem RpV.rok {w : World} {B : Nat} {v : Value} {r : Rp} (h : RpV w B v r) : r.ok := by
  obtain ⟨_, _, _, _, _, _, _, h⟩ := h
  exact h
theorem NtV.nok {w : World} {B : Nat} {v : Value} {n : Nt} (h : NtV w B v n) : n.ok := by
  obtain ⟨_, _, _, _, _, _, _, h⟩ := h
  exact h
theorem next_bound {L : List En} {cur : Int} (hL : ∀ x ∈ L, x.ok) (h63 : ∀ x ∈ L, x.id ≤ 63) (hc : 0 ≤ cur ∧ cur ≤ 255) : 0 ≤ nextOf L cur ∧ nextOf L cur ≤ 255 := by
  unfold nextOf
  cases h : L.getLast? with
  | none => exact hc
  | some x =>
    have hm := List.mem_of_getLast? h
    have h1 := (hL x hm).1
    have h2 := h63 x hm
    simp only
    omega

theorem ESl.noteCell {W : World} {B g j : Nat} {v u : Value} {t : TypeId} {zs : List En} {n : Nt} {A1 A2 A3 : Option Addr} {n1 n2 n3 c1 c2 c3 : Nat} (h : ESl W B v zs) (hb : Blk W g (noteRow n A1 A2 A3 n1 n2 n3 c1 c2 c3) t) : ESl (W.setCell ⟨g, j, none⟩ u) B v zs :=
  h.set (fun b o x _ he hbg => by
    subst hbg
    have h4 := he 4 (.int .i64 x.kind) rfl
    rw [cell_in hb] at h4
    exact ent_in_note (o := o + 3) h4)
theorem Sl.noteCell {W : World} {B g j : Nat} {v u : Value} {t : TypeId} {zs : List Rn} {n : Nt} {A1 A2 A3 : Option Addr} {n1 n2 n3 c1 c2 c3 : Nat} (h : Sl W B v zs) (hb : Blk W g (noteRow n A1 A2 A3 n1 n2 n3 c1 c2 c3) t) : Sl (W.setCell ⟨g, j, none⟩ u) B v zs := by
  obtain ⟨A, c, hv, hn, hok, hA⟩ := h
  refine ⟨A, c, hv, hn, hok, fun hz => ?_⟩
  obtain ⟨b, off, hA1, hB, hc⟩ := hA hz
  refine ⟨b, off, hA1, hB, fun k x hx => ?_⟩
  obtain ⟨h0, h1, h2⟩ := hc k x hx
  have hne : b ≠ g := by
    rintro rfl
    rw [cell_in hb] at h0 h1 h2
    exact run_in_note h0 h1 h2
  have key : ∀ i, (W.setCell ⟨g, j, none⟩ u).cell? ⟨b, i, none⟩ = W.cell? ⟨b, i, none⟩ := fun i => World.cell?_setCell_other _ _ _ _ (by
    intro hc
    exact hne (congrArg Addr.block hc).symm)
  exact ⟨(key _).trans h0, (key _).trans h1, (key _).trans h2⟩
theorem zrow {W : World} {g : Nat} (h : Blk W g #[.int .i64 0, .int .u8 0, .int .u8 0, .int .u32 0, .int .u8 0, .int .u8 0, .slice none 0 0, .int .u32 0, .slice none 0 0, .int .u8 0, .bool false, .slice none 0 0] 30) : Blk W g (noteRow zeroN none none none 0 0 0 0 0 0) 30 := h
theorem nrow {W : World} {g : Nat} {r : Rp} {p : Nt} {L : List En} {nx : Int} {d : Bool} {A : Option Addr} {c : Nat} (h : Blk W g #[.int .i64 2, .int .u8 r.rep, .int .u8 p.src, .int .u32 p.num, .int .u8 p.cur, .int .u8 0, .slice none 0 0, .int .u32 r.epoch, .slice A L.length c, .int .u8 nx, .bool d, .slice none 0 0] 30) : Blk W g (noteRow (ansN r p L nx d []) none A none 0 L.length 0 0 c 0) 30 := h

set_option maxHeartbeats 16000000 in
set_option maxRecDepth 100000 in
theorem sAnswer_refused (v u : Value) (r : Rp) (p : Nt) (w : World) (hv : RpV w w.heap.size v r) (hu : NtV w w.heap.size u p) (h1 : r.know.length ≤ 1000) (h2 : r.held.length ≤ 1000) (h3 : r.ses.offer.length ≤ 1000) (c : Int) (hq : refuseR r p = some c) :
    Calls Tryz.prog 25 #[v, u] w (AnsFar w (.error c)) := by
  have HRF := Lib.hid (fun w1 (hb : Below w.heap.size w w1) => by have := srefusal_any v u r p w1 (hv.later hb) (hu.later hb) h1 h2 h3; rw [hq] at this; exact this)
  have HV := Lib.hid hv
  have HU := Lib.hid hu
  obtain ⟨lr, rfl⟩ := hv.rows
  obtain ⟨ln, rfl⟩ := hu.rows
  clear hv hu h1 h2 h3 hq
  unfold repR repRow Rp.cells at HRF ⊢
  unfold noteR noteRow Nt.cells at HRF ⊢
  go_enter Tryz.func25, Tryz.ntmps25
  go_wp2_with fail
  have HB := Lib.hid (al3 w (.cells #[.int .u8 r.rep, .int .u8 r.flt, .int .u32 r.epoch, .int .u32 r.seq, .slice lr.a r.know.length lr.i, .slice lr.b r.held.length lr.j, .bool r.ses.on, .int .u32 r.ses.num, .int .u8 r.ses.src, .int .u8 r.ses.cur, .int .u32 r.ses.epoch, .slice lr.c r.ses.offer.length lr.k, .int .u32 r.ses.last] 28) (.cells #[.int .i64 p.kind, .int .u8 p.src, .int .u8 p.dst, .int .u32 p.num, .int .u8 p.cur, .int .u8 p.flt, .slice ln.a p.know.length ln.i, .int .u32 p.epoch, .slice ln.b p.ents.length ln.j, .int .u8 p.next, .bool p.done, .slice ln.c p.offer.length ln.k] 30) (.cells #[.int .i64 0, .int .u8 0, .int .u8 0, .int .u32 0, .int .u8 0, .int .u8 0, .slice none 0 0, .int .u32 0, .slice none 0 0, .int .u8 0, .bool false, .slice none 0 0] 30))
  have BA := Lib.hid (blk_three w #[.int .u8 r.rep, .int .u8 r.flt, .int .u32 r.epoch, .int .u32 r.seq, .slice lr.a r.know.length lr.i, .slice lr.b r.held.length lr.j, .bool r.ses.on, .int .u32 r.ses.num, .int .u8 r.ses.src, .int .u8 r.ses.cur, .int .u32 r.ses.epoch, .slice lr.c r.ses.offer.length lr.k, .int .u32 r.ses.last] 28 #[.int .i64 p.kind, .int .u8 p.src, .int .u8 p.dst, .int .u32 p.num, .int .u8 p.cur, .int .u8 p.flt, .slice ln.a p.know.length ln.i, .int .u32 p.epoch, .slice ln.b p.ents.length ln.j, .int .u8 p.next, .bool p.done, .slice ln.c p.offer.length ln.k] 30 #[.int .i64 0, .int .u8 0, .int .u8 0, .int .u32 0, .int .u8 0, .int .u8 0, .slice none 0 0, .int .u32 0, .slice none 0 0, .int .u8 0, .bool false, .slice none 0 0] 30)
  generalize ((w.alloc (.cells #[.int .u8 r.rep, .int .u8 r.flt, .int .u32 r.epoch, .int .u32 r.seq, .slice lr.a r.know.length lr.i, .slice lr.b r.held.length lr.j, .bool r.ses.on, .int .u32 r.ses.num, .int .u8 r.ses.src, .int .u8 r.ses.cur, .int .u32 r.ses.epoch, .slice lr.c r.ses.offer.length lr.k, .int .u32 r.ses.last] 28)).alloc (.cells #[.int .i64 p.kind, .int .u8 p.src, .int .u8 p.dst, .int .u32 p.num, .int .u8 p.cur, .int .u8 p.flt, .slice ln.a p.know.length ln.i, .int .u32 p.epoch, .slice ln.b p.ents.length ln.j, .int .u8 p.next, .bool p.done, .slice ln.c p.offer.length ln.k] 30)).alloc (.cells #[.int .i64 0, .int .u8 0, .int .u8 0, .int .u32 0, .int .u8 0, .int .u8 0, .slice none 0 0, .int .u32 0, .slice none 0 0, .int .u8 0, .bool false, .slice none 0 0] 30) = wz at HB BA ⊢
  have BR := Lib.hid BA.out.1
  have BP := Lib.hid BA.out.2.1
  have BZ := Lib.hid BA.out.2.2
  clear BA
  have c0 := BR.out.cell 0 (.int .u8 r.rep) rfl
  have c1 := BR.out.cell 1 (.int .u8 r.flt) rfl
  have c2 := BR.out.cell 2 (.int .u32 r.epoch) rfl
  have c3 := BR.out.cell 3 (.int .u32 r.seq) rfl
  have c4 := BR.out.cell 4 (.slice lr.a r.know.length lr.i) rfl
  have c5 := BR.out.cell 5 (.slice lr.b r.held.length lr.j) rfl
  have c6 := BR.out.cell 6 (.bool r.ses.on) rfl
  have c7 := BR.out.cell 7 (.int .u32 r.ses.num) rfl
  have c8 := BR.out.cell 8 (.int .u8 r.ses.src) rfl
  have c9 := BR.out.cell 9 (.int .u8 r.ses.cur) rfl
  have c10 := BR.out.cell 10 (.int .u32 r.ses.epoch) rfl
  have c11 := BR.out.cell 11 (.slice lr.c r.ses.offer.length lr.k) rfl
  have c12 := BR.out.cell 12 (.int .u32 r.ses.last) rfl
  have d0 := BP.out.cell 0 (.int .i64 p.kind) rfl
  have d1 := BP.out.cell 1 (.int .u8 p.src) rfl
  have d2 := BP.out.cell 2 (.int .u8 p.dst) rfl
  have d3 := BP.out.cell 3 (.int .u32 p.num) rfl
  have d4 := BP.out.cell 4 (.int .u8 p.cur) rfl
  have d5 := BP.out.cell 5 (.int .u8 p.flt) rfl
  have d6 := BP.out.cell 6 (.slice ln.a p.know.length ln.i) rfl
  have d7 := BP.out.cell 7 (.int .u32 p.epoch) rfl
  have d8 := BP.out.cell 8 (.slice ln.b p.ents.length ln.j) rfl
  have d9 := BP.out.cell 9 (.int .u8 p.next) rfl
  have d10 := BP.out.cell 10 (.bool p.done) rfl
  have d11 := BP.out.cell 11 (.slice ln.c p.offer.length ln.k) rfl
  have l1 : w.heap.size < wz.heap.size := BR.out.lt
  have l2 : w.heap.size + 1 < wz.heap.size := BP.out.lt
  go_wp2_with fail
  refine (HRF.out wz HB.out).mono ?_
  rintro e w1 ⟨rfl, hb⟩
  clear c0 c1 c2 c3 c4 c5 c6 c7 c8 c9 c10 c11 c12 d0 d1 d2 d3 d4 d5 d6 d7 d8 d9 d10 d11
  clear l1 l2
  have BR := Lib.hid (BR.out.keep hb)
  have BP := Lib.hid (BP.out.keep hb)
  have BZ := Lib.hid (BZ.out.keep hb)
  have HB := Lib.hid (HB.out.trans (hb.mono HB.out.size)); clear hb
  unfold refV
  go_wp2_with (refine wpList_store_row rfl _ _ _ rfl (w.heap.size + 1 + 1) #[.int .i64 0, .int .u8 0, .int .u8 0, .int .u32 0, .int .u8 0, .int .u8 0, .slice none 0 0, .int .u32 0, .slice none 0 0, .int .u8 0, .bool false, .slice none 0 0] rfl rfl 30 _ BZ.out.at_ note_size rfl (by simp [Value.oneCell']) ?_)
  refine bodyPost_ret (v := .tuple #[.agg #[.int .i64 0, .int .u8 0, .int .u8 0, .int .u32 0, .int .u8 0, .int .u8 0, .slice none 0 0, .int .u32 0, .slice none 0 0, .int .u8 0, .bool false, .slice none 0 0], .iface 74 (.int .i64 c)]) (results_cell_row1 Tryz.results25 _ _ (w.heap.size + 1 + 1) 30 #[.int .i64 0, .int .u8 0, .int .u8 0, .int .u32 0, .int .u8 0, .int .u8 0, .slice none 0 0, .int .u32 0, .slice none 0 0, .int .u8 0, .bool false, .slice none 0 0] (0, 0) _ rfl (BZ.out.row _).at_ Tryz.underlying30 rfl note_size) rfl ?_
  exact ⟨rfl, below_setRow HB.out (Nat.le_trans (Nat.le_succ w.heap.size) (Nat.le_succ _)) _⟩
end Go.Proofs.YtfjaeohfigcciabGreatDoor

