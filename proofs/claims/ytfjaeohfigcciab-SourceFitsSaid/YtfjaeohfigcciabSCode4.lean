/- The contract of source.Due. -/
import Derived.Test.YtfjaeohfigcciabSCode3
import Derived.Test.YtfjaeohfigcciabZd
import Derived.Maps.AppendAt
namespace Go.Proofs.Ytfjaeohfigcciab
open Go.RowKit Go.Shelf
attribute [local go_sem] Oper.semAt_some

theorem sdue_stops (n : Nat) (hn : 1 ≤ n) (Br Bp n0 : Nat) (r : Rp) (p : Nt) (lr ln : Ls) (w : World) (BR : Blk w Br (repR r lr) 28) (BP : Blk w Bp (noteR p ln) 30) (hn0 : n0 ≤ w.heap.size)
    (hu : NtV w n0 (.agg (noteR p ln)) p) (hh : ESl w n0 (.slice lr.b r.held.length lr.j) r.held) (hl : r.held.length ≤ 1000) :
    SeqStopsK Fence.wide n Try.prog 26 #[.pointer (some ⟨Br, 0, none⟩), .pointer (some ⟨Bp, 0, none⟩)] (fun x : EnX => #[x.1.agg]) (KpD n0 Bp)
      (fun ys : List EnX => ys.map Subtype.val = r.held.filter (dueB p)) (fun pre : List EnX => pre.map Subtype.val <+: r.held.filter (dueB p)) (r.held.filter (dueB p)).length w := fun l J Jx W hW hJ _ hY h0 =>
  sdue1_in n hn l Br Bp n0 r p lr ln J Jx hY W hJ (BR.keep hW) (BP.keep hW) (Nat.le_trans hn0 hW.size) (hu.below (hW.mono hn0)) (hh.below (hW.mono hn0)) hl h0

set_option maxHeartbeats 4000000 in
set_option maxRecDepth 100000 in
/-- the closure that gives what is due has boxed both arguments -/
theorem sdue_any (r : Rp) (p : Nt) (lr ln : Ls) (w : World) :
    Calls Try.prog 17 #[.agg (repR r lr), .agg (noteR p ln)] w fun e w' => e = .returned (.func (.func 26) #[] #[.pointer (some ⟨w.heap.size, 0, none⟩), .pointer (some ⟨w.heap.size + 1, 0, none⟩)]) ∧
      w' = (w.alloc (.cells (repR r lr) 28)).alloc (.cells (noteR p ln) 30) := by
  unfold repR repRow Rp.cells noteR noteRow Nt.cells
  go_enter Try.func17, Try.ntmps17
  go_wp2_with fail
  go_ret
  exact ⟨rfl, rfl⟩

theorem blk_own {β : Type} (g : Nat) (cs : Array Value) (t : TypeId) : _root_.Go.Own (fun (_ : β) W => Blk W g cs t) := fun s X Y row hs hg hrow => ⟨(hg.block g hs.lt (fun e' => by
  obtain ⟨o, ho, hc⟩ := hrow g e'.symm
  rw [hs.at_] at ho; cases ho; cases hc)).trans hs.at_⟩

/-- an entry is put behind a slice of the call's own, in a round -/
theorem append_entIn {F : Fence} {n : Nat} {ops : Array Oper} {rest : List Oper} {o : Oper} {a : Act} {w : World} {Q : Exit → Act → World → Prop} (hgd : o.guard = none) (s x : Operand)
    (ho : o.op = .call { callee := .builtin .append, args := #[s, x], argTypes := #[24, 24] })
    (base : Nat) (v : Value) (zs : List En) (hs : a.eval s = v) (hown : EOwn w base v zs) (g c : Nat) (y : En) (hx : a.eval x = .slice (some ⟨g, 0, none⟩) 1 c) (hsl : EnAt w g 0 y)
    (hlen : zs.length + 1 ≤ 10000) (hbase : base ≤ w.heap.size)
    (h : ∀ v' w', EOwn w' base v' (zs ++ [y]) → w.grownBy w' v.ownBlock → wpListIn F n Try.prog ops Q rest (a.put o.dst v') w') : wpListIn F n Try.prog ops Q (o :: rest) a w := by
  obtain ⟨i0, hi, hz0, hz1, hz2⟩ := info_parts infoEnt
  refine wpListIn_append_own w hgd s x 24 ho base 43 i0 _ 7 32 Try.underlying24 hi hz0 hz1 hz2 rfl (by decide) v zs.length (flatE zs) hs hown ⟨g, 0, none⟩ 1 c (flatE [y]) hx (flatE_length [y]) ?_ (flatE_one_cell [y]) (by unfold maxLen; omega) (by omega) hbase ?_
  · intro j u hu
    have e : ∀ m, (⟨g, 0, none⟩ : Addr).add m = ⟨g, 0 + m, none⟩ := fun m => by unfold Addr.add; split <;> simp_all
    rw [e]
    refine flat_cells (zs := [y]) (fun j z hz => ?_) j u hu
    match j, hz with
    | 0, hz => simp at hz; subst hz; simpa using hsl
    | j + 1, hz => simp at hz
  · intro v' w' h1 h2 _
    refine h v' w' ?_ h2
    unfold EOwn
    rw [flatE_append, List.length_append]
    exact h1

theorem Blk.setOther {W : World} {g k : Nat} {cs : Array Value} {t : TypeId} (h : Blk W g cs t) (hne : g ≠ k) (j : Nat) (u : Value) : Blk (W.setCell ⟨k, j, none⟩ u) g cs t := ⟨(heap_setCell_other W ⟨k, j, none⟩ g u (by simp; omega)).trans h.at_⟩
theorem kpd_b {n0 Bp : Nat} {w : World} (hn : n0 ≤ w.heap.size) (hp : Bp < w.heap.size) : ∀ (W : World) (l : Nat) (o o' : Obj), w.heap.size ≤ l → W.heap[l]? = some o → o.isCells = false → o.isWalk = false → KpD n0 Bp W (W.putObj l o') :=
  fun W l o o' h1 h2 h3 h4 => ⟨belowK_b hn W l o o' h1 h2 h3 h4, fun o1 ho => (World.putObj_heap_other (by omega)).trans ho⟩
theorem RpV.heldSl {w : World} {B : Nat} {r : Rp} {lr : Ls} (h : RpV w B (.agg (repR r lr)) r) : ESl w B (.slice lr.b r.held.length lr.j) r.held := by
  obtain ⟨a, b, c, he, _, h2, _, _⟩ := h
  unfold repR repRow Rp.cells at he
  injection he with he
  injection he with he
  simp at he
  rw [he.2.1]
  exact h2
theorem RpV.helds {w : World} {B : Nat} {v : Value} {r : Rp} (h : RpV w B v r) : ∀ x ∈ r.held, x.ok := by
  obtain ⟨_, _, _, _, _, _, _, h⟩ := h
  exact h.2.2.2.2.2.1

set_option maxRecDepth 100000 in
set_option maxHeartbeats 8000000 in
theorem sDue_any (v u : Value) (r : Rp) (p : Nt) (w : World) (hv : RpV w w.heap.size v r) (hu : NtV w w.heap.size u p) (h1 : r.know.length ≤ 1000) (h2 : r.held.length ≤ 1000) (h3 : r.ses.offer.length ≤ 1000) :
    Calls Try.prog 8 #[v, u] w (DuePost w (dueR r p)) := by
  have HRF := Lib.hid (fun w1 (hb : Below w.heap.size w w1) => srefusal_any v u r p w1 (hv.later hb) (hu.later hb) h1 h2 h3)
  have HU := Lib.hid hu
  have HV := Lib.hid hv
  obtain ⟨lr, rfl⟩ := hv.rows
  obtain ⟨ln, rfl⟩ := hu.rows
  have HDU := Lib.hid (fun w1 => sdue_any r p lr ln w1)
  have HD := Lib.hid (due_refuse r p)
  have H2 := Lib.hid h2
  generalize dueR r p = D at HD ⊢
  clear hv hu h1 h2 h3
  unfold repR repRow Rp.cells at HRF HDU ⊢
  unfold noteR noteRow Nt.cells at HRF HDU ⊢
  refine (callsIn_wide (n := 5)).1 ?_
  refine callsIn_of_wp_marks Try.func8 rfl trivial ?_ rfl
  simp only [Try.ntmps8, List.size_toArray, List.length_cons, List.length_nil, Nat.reduceAdd, Nat.reduceSub, Array.replicate_succ, Array.replicate_zero, List.push_toArray, List.append_toArray, List.nil_append, List.cons_append]
  gi_wp2_with fail
  have HB := Lib.hid (al2 w (.cells #[.int .u8 r.rep, .int .u8 r.flt, .int .u32 r.epoch, .int .u32 r.seq, .slice lr.a r.know.length lr.i, .slice lr.b r.held.length lr.j, .bool r.ses.on, .int .u32 r.ses.num, .int .u8 r.ses.src, .int .u8 r.ses.cur, .int .u32 r.ses.epoch, .slice lr.c r.ses.offer.length lr.k, .int .u32 r.ses.last] 28) (.cells #[.int .i64 p.kind, .int .u8 p.src, .int .u8 p.dst, .int .u32 p.num, .int .u8 p.cur, .int .u8 p.flt, .slice ln.a p.know.length ln.i, .int .u32 p.epoch, .slice ln.b p.ents.length ln.j, .int .u8 p.next, .bool p.done, .slice ln.c p.offer.length ln.k] 30))
  have BR := Lib.hid ((Blk.new w #[.int .u8 r.rep, .int .u8 r.flt, .int .u32 r.epoch, .int .u32 r.seq, .slice lr.a r.know.length lr.i, .slice lr.b r.held.length lr.j, .bool r.ses.on, .int .u32 r.ses.num, .int .u8 r.ses.src, .int .u8 r.ses.cur, .int .u32 r.ses.epoch, .slice lr.c r.ses.offer.length lr.k, .int .u32 r.ses.last] 28).alloc (.cells #[.int .i64 p.kind, .int .u8 p.src, .int .u8 p.dst, .int .u32 p.num, .int .u8 p.cur, .int .u8 p.flt, .slice ln.a p.know.length ln.i, .int .u32 p.epoch, .slice ln.b p.ents.length ln.j, .int .u8 p.next, .bool p.done, .slice ln.c p.offer.length ln.k] 30))
  have BP := Lib.hid (blk_two w (.cells #[.int .u8 r.rep, .int .u8 r.flt, .int .u32 r.epoch, .int .u32 r.seq, .slice lr.a r.know.length lr.i, .slice lr.b r.held.length lr.j, .bool r.ses.on, .int .u32 r.ses.num, .int .u8 r.ses.src, .int .u8 r.ses.cur, .int .u32 r.ses.epoch, .slice lr.c r.ses.offer.length lr.k, .int .u32 r.ses.last] 28) #[.int .i64 p.kind, .int .u8 p.src, .int .u8 p.dst, .int .u32 p.num, .int .u8 p.cur, .int .u8 p.flt, .slice ln.a p.know.length ln.i, .int .u32 p.epoch, .slice ln.b p.ents.length ln.j, .int .u8 p.next, .bool p.done, .slice ln.c p.offer.length ln.k] 30)
  generalize (w.alloc (.cells #[.int .u8 r.rep, .int .u8 r.flt, .int .u32 r.epoch, .int .u32 r.seq, .slice lr.a r.know.length lr.i, .slice lr.b r.held.length lr.j, .bool r.ses.on, .int .u32 r.ses.num, .int .u8 r.ses.src, .int .u8 r.ses.cur, .int .u32 r.ses.epoch, .slice lr.c r.ses.offer.length lr.k, .int .u32 r.ses.last] 28)).alloc (.cells #[.int .i64 p.kind, .int .u8 p.src, .int .u8 p.dst, .int .u32 p.num, .int .u8 p.cur, .int .u8 p.flt, .slice ln.a p.know.length ln.i, .int .u32 p.epoch, .slice ln.b p.ents.length ln.j, .int .u8 p.next, .bool p.done, .slice ln.c p.offer.length ln.k] 30) = wz at HB BR BP ⊢
  refine ⟨trivial, (callsIn_wide.2 (HRF.out wz HB.out)).mono ?_⟩
  rintro e w1 ⟨rfl, hb⟩
  have BR := Lib.hid (BR.out.keep hb)
  have BP := Lib.hid (BP.out.keep hb)
  have HB := Lib.hid (HB.out.trans (hb.mono HB.out.size)); clear hb
  generalize refuseR r p = q at HD ⊢
  cases q with
  | some c =>
    unfold refV
    gi_wp2_with fail
    refine ⟨_, results_tmp2 rfl _ _ _, ?_⟩
    have hd : D = .error c := HD.out
    rw [hd]
    exact ⟨_, _, rfl, HB.out⟩
  | none =>
    unfold refV
    have c0 := BR.out.cell 0 (.int .u8 r.rep) rfl
    have c1 := BR.out.cell 1 (.int .u8 r.flt) rfl
    have c2 := BR.out.cell 2 (.int .u32 r.epoch) rfl
    have c3 := BR.out.cell 3 (.int .u32 r.seq) rfl
    have c4 := BR.out.cell 4 (.slice lr.a r.know.length lr.i) rfl
    have c5 := BR.out.cell 5 (.slice lr.b r.held.length lr.j) rfl
    have c6 := BR.out.cell 6 (.bool r.ses.on) rfl
    have c7 := BR.out.cell 7 (.int .u32 r.ses.num) rfl
    have c8 := BR.out.cell 8 (.int .u8 r.ses.src) rfl
    have c9 := BR.out.cell 9 (.int .u8 r.ses.cur) rfl
    have c10 := BR.out.cell 10 (.int .u32 r.ses.epoch) rfl
    have c11 := BR.out.cell 11 (.slice lr.c r.ses.offer.length lr.k) rfl
    have c12 := BR.out.cell 12 (.int .u32 r.ses.last) rfl
    have d0 := BP.out.cell 0 (.int .i64 p.kind) rfl
    have d1 := BP.out.cell 1 (.int .u8 p.src) rfl
    have d2 := BP.out.cell 2 (.int .u8 p.dst) rfl
    have d3 := BP.out.cell 3 (.int .u32 p.num) rfl
    have d4 := BP.out.cell 4 (.int .u8 p.cur) rfl
    have d5 := BP.out.cell 5 (.int .u8 p.flt) rfl
    have d6 := BP.out.cell 6 (.slice ln.a p.know.length ln.i) rfl
    have d7 := BP.out.cell 7 (.int .u32 p.epoch) rfl
    have d8 := BP.out.cell 8 (.slice ln.b p.ents.length ln.j) rfl
    have d9 := BP.out.cell 9 (.int .u8 p.next) rfl
    have d10 := BP.out.cell 10 (.bool p.done) rfl
    have d11 := BP.out.cell 11 (.slice ln.c p.offer.length ln.k) rfl
    have l1 : w.heap.size < w1.heap.size := BR.out.lt
    have l2 : w.heap.size + 1 < w1.heap.size := BP.out.lt
    gi_wp2_with fail
    refine ⟨trivial, (callsIn_wide.2 (HDU.out _)).mono ?_⟩
    rintro e w2 ⟨rfl, rfl⟩
    clear c0 c1 c2 c3 c4 c5 c6 c7 c8 c9 c10 c11 c12 d0 d1 d2 d3 d4 d5 d6 d7 d8 d9 d10 d11
    gi_wp2_with fail
    have BL := Lib.hid (((Boxed.new w1 24 (.slice none 0 0)).alloc (.cells #[.int .u8 r.rep, .int .u8 r.flt, .int .u32 r.epoch, .int .u32 r.seq, .slice lr.a r.know.length lr.i, .slice lr.b r.held.length lr.j, .bool r.ses.on, .int .u32 r.ses.num, .int .u8 r.ses.src, .int .u8 r.ses.cur, .int .u32 r.ses.epoch, .slice lr.c r.ses.offer.length lr.k, .int .u32 r.ses.last] 28)).alloc (.cells #[.int .i64 p.kind, .int .u8 p.src, .int .u8 p.dst, .int .u32 p.num, .int .u8 p.cur, .int .u8 p.flt, .slice ln.a p.know.length ln.i, .int .u32 p.epoch, .slice ln.b p.ents.length ln.j, .int .u8 p.next, .bool p.done, .slice ln.c p.offer.length ln.k] 30))
    have B3 := Lib.hid (blk_three w1 #[.slice none 0 0] 24 #[.int .u8 r.rep, .int .u8 r.flt, .int .u32 r.epoch, .int .u32 r.seq, .slice lr.a r.know.length lr.i, .slice lr.b r.held.length lr.j, .bool r.ses.on, .int .u32 r.ses.num, .int .u8 r.ses.src, .int .u8 r.ses.cur, .int .u32 r.ses.epoch, .slice lr.c r.ses.offer.length lr.k, .int .u32 r.ses.last] 28 #[.int .i64 p.kind, .int .u8 p.src, .int .u8 p.dst, .int .u32 p.num, .int .u8 p.cur, .int .u8 p.flt, .slice ln.a p.know.length ln.i, .int .u32 p.epoch, .slice ln.b p.ents.length ln.j, .int .u8 p.next, .bool p.done, .slice ln.c p.offer.length ln.k] 30)
    have HB0 := Lib.hid (HB.out.trans ((al3 w1 (.cells #[.slice none 0 0] 24) (.cells #[.int .u8 r.rep, .int .u8 r.flt, .int .u32 r.epoch, .int .u32 r.seq, .slice lr.a r.know.length lr.i, .slice lr.b r.held.length lr.j, .bool r.ses.on, .int .u32 r.ses.num, .int .u8 r.ses.src, .int .u8 r.ses.cur, .int .u32 r.ses.epoch, .slice lr.c r.ses.offer.length lr.k, .int .u32 r.ses.last] 28) (.cells #[.int .i64 p.kind, .int .u8 p.src, .int .u8 p.dst, .int .u32 p.num, .int .u8 p.cur, .int .u8 p.flt, .slice ln.a p.know.length ln.i, .int .u32 p.epoch, .slice ln.b p.ents.length ln.j, .int .u8 p.next, .bool p.done, .slice ln.c p.offer.length ln.k] 30)).mono HB.out.size))
    have hsz : (((w1.alloc (.cells #[.slice none 0 0] 24)).alloc (.cells #[.int .u8 r.rep, .int .u8 r.flt, .int .u32 r.epoch, .int .u32 r.seq, .slice lr.a r.know.length lr.i, .slice lr.b r.held.length lr.j, .bool r.ses.on, .int .u32 r.ses.num, .int .u8 r.ses.src, .int .u8 r.ses.cur, .int .u32 r.ses.epoch, .slice lr.c r.ses.offer.length lr.k, .int .u32 r.ses.last] 28)).alloc (.cells #[.int .i64 p.kind, .int .u8 p.src, .int .u8 p.dst, .int .u32 p.num, .int .u8 p.cur, .int .u8 p.flt, .slice ln.a p.know.length ln.i, .int .u32 p.epoch, .slice ln.b p.ents.length ln.j, .int .u8 p.next, .bool p.done, .slice ln.c p.offer.length ln.k] 30)).heap.size = w1.heap.size + 3 := by simp
    generalize ((w1.alloc (.cells #[.slice none 0 0] 24)).alloc (.cells #[.int .u8 r.rep, .int .u8 r.flt, .int .u32 r.epoch, .int .u32 r.seq, .slice lr.a r.know.length lr.i, .slice lr.b r.held.length lr.j, .bool r.ses.on, .int .u32 r.ses.num, .int .u8 r.ses.src, .int .u8 r.ses.cur, .int .u32 r.ses.epoch, .slice lr.c r.ses.offer.length lr.k, .int .u32 r.ses.last] 28)).alloc (.cells #[.int .i64 p.kind, .int .u8 p.src, .int .u8 p.dst, .int .u32 p.num, .int .u8 p.cur, .int .u8 p.flt, .slice ln.a p.know.length ln.i, .int .u32 p.epoch, .slice ln.b p.ents.length ln.j, .int .u8 p.next, .bool p.done, .slice ln.c p.offer.length ln.k] 30) = W0 at BL B3 HB0 hsz ⊢
    generalize Value.agg #[.int .u8 r.rep, .int .u8 r.flt, .int .u32 r.epoch, .int .u32 r.seq, .slice lr.a r.know.length lr.i, .slice lr.b r.held.length lr.j, .bool r.ses.on, .int .u32 r.ses.num, .int .u8 r.ses.src, .int .u8 r.ses.cur, .int .u32 r.ses.epoch, .slice lr.c r.ses.offer.length lr.k, .int .u32 r.ses.last] = VR
    generalize Value.agg #[.int .i64 p.kind, .int .u8 p.src, .int .u8 p.dst, .int .u32 p.num, .int .u8 p.cur, .int .u8 p.flt, .slice ln.a p.know.length ln.i, .int .u32 p.epoch, .slice ln.b p.ents.length ln.j, .int .u8 p.next, .bool p.done, .slice ln.c p.offer.length ln.k] = VN
    have hd : D = .ok (dueL r.held p.know p.cur) := HD.out
    subst hd
    clear HD HRF HDU BR BP
    have hl2 := H2.out
    have hw1 := HB.out.size
    clear HB
    have hN : (r.held.filter (dueB p)).length ≤ 1000 := Nat.le_trans (List.length_filter_le _ _) hl2
    have HHE := Lib.hid (show ESl w w.heap.size (.slice lr.b r.held.length lr.j) r.held from HV.out.heldSl)
    refine wpIn_rangeFunc_ownH rfl (by decide) (gf := 26) (lb := #[.pointer (some ⟨w1.heap.size + 1, 0, none⟩), .pointer (some ⟨w1.heap.size + 1 + 1, 0, none⟩)]) rfl trivial (enters_of Try.func26 (by kernel_rfl) rfl)
      (sdue_stops _ (by decide) (w1.heap.size + 1) (w1.heap.size + 1 + 1) w.heap.size r p lr ln W0 B3.out.2.1 B3.out.2.2 (by omega) (HU.out.below HB0.out) (HHE.out.below HB0.out) hl2) KpD.trans (kpd_b (by omega) (by omega)) (Below.refl _ _) (fun _ => rfl)
      (fun (pre : List EnX) W => ((∃ v, Boxed W w1.heap.size 24 v ∧ W.ownsRow w.heap.size 43 7 v (pre.map Subtype.val).length (flatE (pre.map Subtype.val)) ∧ True) ∧ Blk W (w1.heap.size + 1 + 1) (noteR p ln) 30) ∧ Below w.heap.size w W)
      (fun _ _ _ => False)
      (OwnFrom.and (OwnFrom.and (Own.from (holdsRow_own w.heap.size w1.heap.size 24 43 7 (fun pre : List EnX => (pre.map Subtype.val).length) (fun pre => flatE (pre.map Subtype.val)) (fun _ _ => True)) _) (Own.from (blk_own _ _ _) _)) (ownFrom_below (Nat.le_refl _) (by omega)))
      (fun _ _ _ _ _ hs _ _ => hs)
      ⟨⟨⟨_, BL.out, EOwn.nil W0 w.heap.size, trivial⟩, B3.out.2.2⟩, HB0.out⟩
      (fun x a' W => ∃ Bx, w1.heap.size + 2 < Bx ∧ Blk W Bx #[.int .u8 x.1.id, .int .u8 x.1.rep, .int .u32 x.1.seq, .int .u32 x.1.stamp, .int .i64 x.1.kind, .int .u8 x.1.cls, .int .u32 x.1.val] 43 ∧ a' = { tmps := #[VR, VN, .pointer (some ⟨w.heap.size, 0, none⟩), .pointer (some ⟨w.heap.size + 1, 0, none⟩), .slice none 0 0, .nilIface, .nilIface, .pointer (some ⟨w1.heap.size, 0, none⟩), .pointer (some ⟨Bx, 0, none⟩), VR, VN, .nilIface, .nilIface, .bool false, undef, VR, VN, .func (.func 26) #[] #[.pointer (some ⟨w1.heap.size + 1, 0, none⟩), .pointer (some ⟨w1.heap.size + 1 + 1, 0, none⟩)], .agg #[.int .u8 x.1.id, .int .u8 x.1.rep, .int .u32 x.1.seq, .int .u32 x.1.stamp, .int .i64 x.1.kind, .int .u8 x.1.cls, .int .u32 x.1.val], undef, undef, undef, undef, undef], defers := [] })
      (fun x a' _ A B row hs hg hr => by obtain ⟨Bx, h1, h2, h3⟩ := hs; exact ⟨Bx, h1, blk_own Bx _ _ () A B row h2 hg (fun r e => (hr r e).2), h3⟩)
      ?assign ?body ?done ?stop
    case assign =>
      rintro l pre x W K ⟨⟨⟨v, hv, hrow, _⟩, hbp⟩, hB⟩ hK
      simp only [En.agg]
      gi_wp2
      exact hK _ _ ((KeepsOthers.alloc _ _).from _) (KpD.of (al1 _ _) hB.size) ⟨⟨⟨v, hv.alloc _, World.ownsRow.alloc hrow _, trivial⟩, hbp.alloc _⟩, hB.alloc hB.size _⟩ ⟨W.heap.size, by have := hbp.lt; omega, Blk.new W _ _, rfl⟩
    case body =>
      rintro l pre x a' W hl ⟨rr, hr⟩ ⟨⟨⟨v, hv, hrow, _⟩, hbp⟩, hB⟩ ⟨Bx, hBx, bX, rfl⟩ hlt
      have cv := hv.cell
      have x0 := bX.cell 0 _ rfl
      have x1 := bX.cell 1 _ rfl
      have x2 := bX.cell 2 _ rfl
      have x3 := bX.cell 3 _ rfl
      have x4 := bX.cell 4 _ rfl
      have x5 := bX.cell 5 _ rfl
      have x6 := bX.cell 6 _ rfl
      have hpl : (pre.map Subtype.val).length ≤ 1000 := by rw [List.length_map]; omega
      have hnew : EnAt (W.alloc (.cells #[.int .u8 x.1.id, .int .u8 x.1.rep, .int .u32 x.1.seq, .int .u32 x.1.stamp, .int .i64 x.1.kind, .int .u8 x.1.cls, .int .u32 x.1.val] 43)) W.heap.size 0 x.1 := new_entry W x.1 _
      have HROW := Lib.hid (show EOwn W w.heap.size v (pre.map Subtype.val) from hrow)
      clear hrow
      have hs1 : w.heap.size ≤ W.heap.size := hB.size
      gi_wp2_with (gi_at_builtin; refine append_entIn rfl _ _ rfl w.heap.size v (pre.map Subtype.val) rfl (HROW.out.alloc _) W.heap.size 1 x.1 rfl hnew (by omega) (by simp; omega) ?_; intro v' w' ho hg; obtain ⟨hv1, hv2, hr2, hk2, hb2⟩ := hv.appended (by decide) HROW.out hs1 (by omega) ho hg; have hc1 := hv1.cell; have hf1 := hv1.frozen; obtain ⟨A', cap', rfl, _⟩ := ho.form)
      have hq : Blk (w'.setCell ⟨w1.heap.size, 0, none⟩ (.slice A' (pre.length + 1) cap')) (w1.heap.size + 1 + 1) (noteR p ln) 30 := (blk_grown (hbp.alloc _) (by decide) (HROW.out.alloc _) hg).setOther (by omega) _ _
      simp only [List.length_append, List.length_map, List.length_cons, List.length_nil, Nat.zero_add] at hv2 hr2 hk2 hb2
      exact ⟨hk2.from _, ⟨hb2, fun o ho' => hq.at_.trans (hbp.at_.symm.trans ho')⟩, ⟨⟨_, hv2, by simpa [EOwn] using hr2, trivial⟩, hq⟩, hB.trans hb2⟩
    case done =>
      rintro D ys W hD hys ⟨⟨⟨v, hv, hrow, _⟩, hbp⟩, hB⟩ hK
      have hc := hv.cell
      gi_wp2_with fail
      refine ⟨by simp, .inl ⟨_, _, rfl, run_takeDeferred hK, ?_⟩⟩
      refine ⟨_, results_tmp2 rfl _ _ _, ?_⟩
      have ho : EOwn (W.putObj D (.deferred none)) w.heap.size v (ys.map Subtype.val) := ownsRow_putObj hrow _ hK rfl
      rw [hys] at ho
      obtain ⟨A, c, rfl, _⟩ := ho.form
      exact ⟨A, c, rfl, ho.le, ho.sl (fun z hz => HV.out.helds z (List.mem_filter.1 hz).1), hB.trans (belowK_b (w := w) (Nat.le_refl _) W D _ _ (by omega) hK rfl rfl)⟩
    case stop =>
      rintro D c pre W _ _ h _
      exact h.elim
end Go.Proofs.Ytfjaeohfigcciab

