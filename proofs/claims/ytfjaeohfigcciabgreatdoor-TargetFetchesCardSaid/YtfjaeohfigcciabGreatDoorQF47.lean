/- Texts in one: SCode5. -/
import Derived.Test.YtfjaeohfigcciabGreatDoorQF46
set_option linter.unusedVariables false
set_option linter.unusedSimpArgs false
set_option linter.unusedSectionVars false
set_option linter.unnecessarySimpa false
namespace Go.Proofs.YtfjaeohfigcciabGreatDoor
open Go.RowKit Go.Shelf
attribute [local go_sem] Oper.semAt_some

/-- the same, as one step of a region that draws its order -/
theorem step_append_entIn {F : Fence} {n : Nat} {ops : Array Oper} {o : Oper} {a : Act} {w : World} {K : Act → World → Prop} {Q : Exit → Act → World → Prop} {E : Prop} (hgd : o.guard = none) (s x : Operand)
    (ho : o.op = .call { callee := .builtin .append, args := #[s, x], argTypes := #[24, 24] })
    (base : Nat) (v : Value) (zs : List En) (hs : a.eval s = v) (hown : EOwn w base v zs) (g c : Nat) (y : En) (hx : a.eval x = .slice (some ⟨g, 0, none⟩) 1 c) (hsl : EnAt w g 0 y)
    (hlen : zs.length + 1 ≤ 10000) (hbase : base ≤ w.heap.size)
    (h : ∀ v' w', EOwn w' base v' (zs ++ [y]) → w.grownBy w' v.ownBlock → K (a.put o.dst v') w') : if Region.wanted o (yielded ops a.tmps) = true then Oper.wpIn F n Tryz.prog o a w K Q else E := by
  have hw : Region.wanted o (yielded ops a.tmps) = true := by simp [Region.wanted, hgd]
  rw [if_pos hw]
  obtain ⟨i0, hi, hz0, hz1, hz2⟩ := info_parts infoEnt
  have hc : ∀ j u, (flatE [y])[j]? = some u → w.cell? ((⟨g, 0, none⟩ : Addr).add j) = some u := by
    intro j u hu
    have e : ∀ m, (⟨g, 0, none⟩ : Addr).add m = ⟨g, 0 + m, none⟩ := fun m => by unfold Addr.add; split <;> simp_all
    rw [e]
    refine flat_cells (zs := [y]) (fun j z hz => ?_) j u hu
    match j, hz with
    | 0, hz => simp at hz; subst hz; simpa using hsl
    | j + 1, hz => simp at hz
  obtain ⟨v', w', hrun, r1, r2, r3⟩ := run_append_own (P := Tryz.prog) w base 24 o.type 62 i0 _ 7 32 Tryz.underlying24 hi hz0 hz1 hz2 rfl (by decide) v zs.length (flatE zs) hown ⟨g, 0, none⟩ 1 c (flatE [y]) (flatE_length [y]) hc (flatE_one_cell [y]) (by unfold maxLen; omega) (by omega) hbase
  unfold Oper.wpIn
  refine ⟨?_, ?_⟩
  · simp [Oper.about, ho, resolve, Target.leads, Sem.run_pure]
  · rw [Oper.semAt_plain F _ _ (by rw [ho]; intro c hc'; cases hc')]
    simp [execOp, ho, resolve, invoke, builtin, hs, hx, hrun, Result.andThen]
    refine h v' w' ?_ r2
    unfold EOwn
    rw [flatE_append, List.length_append]
    exact r1
theorem EOwn.box {W : World} {base : Nat} {v : Value} {zs : List En} (h : EOwn W base v zs) {g : Nat} {t : TypeId} {u : Value} (hb : Boxed W g t u) (ht : t ≠ 62) (u' : Value) : EOwn (W.setCell ⟨g, 0, none⟩ u') base v zs :=
  World.ownsRow.kept h (grownBy_setCell' W g u') (.inr (hb.not_row ht h).symm)
theorem NtV.flt {w : World} {B : Nat} {v : Value} {n : Nt} (h : NtV w B v n) : 0 ≤ n.flt ∧ n.flt ≤ 255 := by
  obtain ⟨_, _, _, _, _, _, _, h⟩ := h
  exact h.2.2.2.2.2.1
/-- what a Batch tells of what is due -/
def ToldPost (w : World) (L : List En) (d : Bool) (e : Ending) (w' : World) : Prop :=
  ∃ A c, e = .returned (.tuple #[.slice A L.length c, .bool d]) ∧ EOwn w' w.heap.size (.slice A L.length c) L ∧ Below w.heap.size w w'
theorem boxed_grown {W W' : World} {g : Nat} {t : TypeId} {u : Value} {base : Nat} {v : Value} {zs : List En} (h : Boxed W g t u) (ht : t ≠ 62) (ho : EOwn W base v zs) (hg : W.grownBy W' v.ownBlock) : Boxed W' g t u := h.kept hg (h.not_row ht ho)
theorem told_all {l : List En} {ys : List EnX} (f : Int) (h : ys.map Subtype.val = l) (hle : ys.length ≤ 4) : (ys.map Subtype.val).map (fitE f) = (l.take 4).map (fitE f) ∧ decide (l.length ≤ 4) = true := by
  have e : l.length = ys.length := by rw [← h, List.length_map]
  rw [h, List.take_of_length_le (by omega)]
  exact ⟨rfl, decide_eq_true (by omega)⟩
theorem told_four {l : List En} {ini : List EnX} {last : EnX} (f : Int) (h : (ini ++ [last]).map Subtype.val <+: l) (hle : ini.length = 4) : (ini.map Subtype.val).map (fitE f) = (l.take 4).map (fitE f) ∧ decide (l.length ≤ 4) = false := by
  obtain ⟨t, rfl⟩ := h
  rw [List.map_append, List.append_assoc, List.take_left' (by rw [List.length_map]; exact hle)]
  exact ⟨rfl, decide_eq_false (by simp; omega)⟩

set_option maxRecDepth 100000 in
set_option maxHeartbeats 8000000 in
theorem stold_any (r : Rp) (p : Nt) (lr ln : Ls) (w : World) (hv : RpV w w.heap.size (.agg (repR r lr)) r) (hu : NtV w w.heap.size (.agg (noteR p ln)) p) (h2 : r.held.length ≤ 1000) :
    Calls Tryz.prog 62 #[.agg (repR r lr), .agg (noteR p ln)] w (ToldPost w (((r.held.filter (dueB p)).take 4).map (fitE p.flt)) (decide ((r.held.filter (dueB p)).length ≤ 4))) := by
  generalize hL : ((r.held.filter (dueB p)).take 4).map (fitE p.flt) = L
  generalize hd : decide ((r.held.filter (dueB p)).length ≤ 4) = d
  have HL := Lib.hid hL
  have HD := Lib.hid hd
  clear hL hd
  have HU := Lib.hid hu
  have HV := Lib.hid hv
  have HDU := Lib.hid (fun w1 => sdue_any r p lr ln w1)
  have H2 := Lib.hid h2
  have HHE := Lib.hid (show ESl w w.heap.size (.slice lr.b r.held.length lr.j) r.held from hv.heldSl)
  have HF := Lib.hid (show 0 ≤ p.flt ∧ p.flt ≤ 255 from hu.flt)
  clear hv hu h2
  unfold repR repRow Rp.cells at HDU ⊢
  unfold noteR noteRow Nt.cells at HDU ⊢
  refine (callsIn_wide (n := 5)).1 ?_
  refine callsIn_of_wp_marks Tryz.func62 rfl trivial ?_ rfl
  simp only [Tryz.ntmps62, List.size_toArray, List.length_cons, List.length_nil, Nat.reduceAdd, Nat.reduceSub, Array.replicate_succ, Array.replicate_zero, List.push_toArray, List.append_toArray, List.nil_append, List.cons_append]
  gi_wp2_with fail
  have BP := Lib.hid ((((blk_two w (.cells #[.int .u8 r.rep, .int .u8 r.flt, .int .u32 r.epoch, .int .u32 r.seq, .slice lr.a r.know.length lr.i, .slice lr.b r.held.length lr.j, .bool r.ses.on, .int .u32 r.ses.num, .int .u8 r.ses.src, .int .u8 r.ses.cur, .int .u32 r.ses.epoch, .slice lr.c r.ses.offer.length lr.k, .int .u32 r.ses.last] 28) #[.int .i64 p.kind, .int .u8 p.src, .int .u8 p.dst, .int .u32 p.num, .int .u8 p.cur, .int .u8 p.flt, .slice ln.a p.know.length ln.i, .int .u32 p.epoch, .slice ln.b p.ents.length ln.j, .int .u8 p.next, .bool p.done, .slice ln.c p.offer.length ln.k] 30).alloc (.cells #[.slice none 0 0] 24)).alloc (.cells #[.bool false] 4)).alloc (.cells #[.slice none 0 0] 24))
  have B4 := Lib.hid (((Boxed.new ((w.alloc (.cells #[.int .u8 r.rep, .int .u8 r.flt, .int .u32 r.epoch, .int .u32 r.seq, .slice lr.a r.know.length lr.i, .slice lr.b r.held.length lr.j, .bool r.ses.on, .int .u32 r.ses.num, .int .u8 r.ses.src, .int .u8 r.ses.cur, .int .u32 r.ses.epoch, .slice lr.c r.ses.offer.length lr.k, .int .u32 r.ses.last] 28)).alloc (.cells #[.int .i64 p.kind, .int .u8 p.src, .int .u8 p.dst, .int .u32 p.num, .int .u8 p.cur, .int .u8 p.flt, .slice ln.a p.know.length ln.i, .int .u32 p.epoch, .slice ln.b p.ents.length ln.j, .int .u8 p.next, .bool p.done, .slice ln.c p.offer.length ln.k] 30)) 24 (.slice none 0 0)).alloc (.cells #[.bool false] 4)).alloc (.cells #[.slice none 0 0] 24))
  have B5 := Lib.hid ((Boxed.new (((w.alloc (.cells #[.int .u8 r.rep, .int .u8 r.flt, .int .u32 r.epoch, .int .u32 r.seq, .slice lr.a r.know.length lr.i, .slice lr.b r.held.length lr.j, .bool r.ses.on, .int .u32 r.ses.num, .int .u8 r.ses.src, .int .u8 r.ses.cur, .int .u32 r.ses.epoch, .slice lr.c r.ses.offer.length lr.k, .int .u32 r.ses.last] 28)).alloc (.cells #[.int .i64 p.kind, .int .u8 p.src, .int .u8 p.dst, .int .u32 p.num, .int .u8 p.cur, .int .u8 p.flt, .slice ln.a p.know.length ln.i, .int .u32 p.epoch, .slice ln.b p.ents.length ln.j, .int .u8 p.next, .bool p.done, .slice ln.c p.offer.length ln.k] 30)).alloc (.cells #[.slice none 0 0] 24)) 4 (.bool false)).alloc (.cells #[.slice none 0 0] 24))
  have BL := Lib.hid (Boxed.new ((((w.alloc (.cells #[.int .u8 r.rep, .int .u8 r.flt, .int .u32 r.epoch, .int .u32 r.seq, .slice lr.a r.know.length lr.i, .slice lr.b r.held.length lr.j, .bool r.ses.on, .int .u32 r.ses.num, .int .u8 r.ses.src, .int .u8 r.ses.cur, .int .u32 r.ses.epoch, .slice lr.c r.ses.offer.length lr.k, .int .u32 r.ses.last] 28)).alloc (.cells #[.int .i64 p.kind, .int .u8 p.src, .int .u8 p.dst, .int .u32 p.num, .int .u8 p.cur, .int .u8 p.flt, .slice ln.a p.know.length ln.i, .int .u32 p.epoch, .slice ln.b p.ents.length ln.j, .int .u8 p.next, .bool p.done, .slice ln.c p.offer.length ln.k] 30)).alloc (.cells #[.slice none 0 0] 24)).alloc (.cells #[.bool false] 4)) 24 (.slice none 0 0))
  have HB := Lib.hid ((al4 w (.cells #[.int .u8 r.rep, .int .u8 r.flt, .int .u32 r.epoch, .int .u32 r.seq, .slice lr.a r.know.length lr.i, .slice lr.b r.held.length lr.j, .bool r.ses.on, .int .u32 r.ses.num, .int .u8 r.ses.src, .int .u8 r.ses.cur, .int .u32 r.ses.epoch, .slice lr.c r.ses.offer.length lr.k, .int .u32 r.ses.last] 28) (.cells #[.int .i64 p.kind, .int .u8 p.src, .int .u8 p.dst, .int .u32 p.num, .int .u8 p.cur, .int .u8 p.flt, .slice ln.a p.know.length ln.i, .int .u32 p.epoch, .slice ln.b p.ents.length ln.j, .int .u8 p.next, .bool p.done, .slice ln.c p.offer.length ln.k] 30) (.cells #[.slice none 0 0] 24) (.cells #[.bool false] 4)).trans ((al1 ((((w.alloc (.cells #[.int .u8 r.rep, .int .u8 r.flt, .int .u32 r.epoch, .int .u32 r.seq, .slice lr.a r.know.length lr.i, .slice lr.b r.held.length lr.j, .bool r.ses.on, .int .u32 r.ses.num, .int .u8 r.ses.src, .int .u8 r.ses.cur, .int .u32 r.ses.epoch, .slice lr.c r.ses.offer.length lr.k, .int .u32 r.ses.last] 28)).alloc (.cells #[.int .i64 p.kind, .int .u8 p.src, .int .u8 p.dst, .int .u32 p.num, .int .u8 p.cur, .int .u8 p.flt, .slice ln.a p.know.length ln.i, .int .u32 p.epoch, .slice ln.b p.ents.length ln.j, .int .u8 p.next, .bool p.done, .slice ln.c p.offer.length ln.k] 30)).alloc (.cells #[.slice none 0 0] 24)).alloc (.cells #[.bool false] 4)) (.cells #[.slice none 0 0] 24)).mono (al4 w (.cells #[.int .u8 r.rep, .int .u8 r.flt, .int .u32 r.epoch, .int .u32 r.seq, .slice lr.a r.know.length lr.i, .slice lr.b r.held.length lr.j, .bool r.ses.on, .int .u32 r.ses.num, .int .u8 r.ses.src, .int .u8 r.ses.cur, .int .u32 r.ses.epoch, .slice lr.c r.ses.offer.length lr.k, .int .u32 r.ses.last] 28) (.cells #[.int .i64 p.kind, .int .u8 p.src, .int .u8 p.dst, .int .u32 p.num, .int .u8 p.cur, .int .u8 p.flt, .slice ln.a p.know.length ln.i, .int .u32 p.epoch, .slice ln.b p.ents.length ln.j, .int .u8 p.next, .bool p.done, .slice ln.c p.offer.length ln.k] 30) (.cells #[.slice none 0 0] 24) (.cells #[.bool false] 4)).size))
  have hsz0 : (((((w.alloc (.cells #[.int .u8 r.rep, .int .u8 r.flt, .int .u32 r.epoch, .int .u32 r.seq, .slice lr.a r.know.length lr.i, .slice lr.b r.held.length lr.j, .bool r.ses.on, .int .u32 r.ses.num, .int .u8 r.ses.src, .int .u8 r.ses.cur, .int .u32 r.ses.epoch, .slice lr.c r.ses.offer.length lr.k, .int .u32 r.ses.last] 28)).alloc (.cells #[.int .i64 p.kind, .int .u8 p.src, .int .u8 p.dst, .int .u32 p.num, .int .u8 p.cur, .int .u8 p.flt, .slice ln.a p.know.length ln.i, .int .u32 p.epoch, .slice ln.b p.ents.length ln.j, .int .u8 p.next, .bool p.done, .slice ln.c p.offer.length ln.k] 30)).alloc (.cells #[.slice none 0 0] 24)).alloc (.cells #[.bool false] 4)).alloc (.cells #[.slice none 0 0] 24)).heap.size = w.heap.size + 5 := by simp
  simp only [World.size_alloc] at B4 B5 BL
  generalize ((((w.alloc (.cells #[.int .u8 r.rep, .int .u8 r.flt, .int .u32 r.epoch, .int .u32 r.seq, .slice lr.a r.know.length lr.i, .slice lr.b r.held.length lr.j, .bool r.ses.on, .int .u32 r.ses.num, .int .u8 r.ses.src, .int .u8 r.ses.cur, .int .u32 r.ses.epoch, .slice lr.c r.ses.offer.length lr.k, .int .u32 r.ses.last] 28)).alloc (.cells #[.int .i64 p.kind, .int .u8 p.src, .int .u8 p.dst, .int .u32 p.num, .int .u8 p.cur, .int .u8 p.flt, .slice ln.a p.know.length ln.i, .int .u32 p.epoch, .slice ln.b p.ents.length ln.j, .int .u8 p.next, .bool p.done, .slice ln.c p.offer.length ln.k] 30)).alloc (.cells #[.slice none 0 0] 24)).alloc (.cells #[.bool false] 4)).alloc (.cells #[.slice none 0 0] 24) = wz at BP B4 B5 BL HB hsz0 ⊢
  have HSZ := Lib.hid hsz0; clear hsz0
  refine ⟨trivial, (callsIn_wide.2 (HDU.out _)).mono ?_⟩
  rintro e w2 ⟨rfl, rfl⟩
  gi_wp2_with fail
  have BP := Lib.hid ((BP.out.alloc (.cells #[.int .u8 r.rep, .int .u8 r.flt, .int .u32 r.epoch, .int .u32 r.seq, .slice lr.a r.know.length lr.i, .slice lr.b r.held.length lr.j, .bool r.ses.on, .int .u32 r.ses.num, .int .u8 r.ses.src, .int .u8 r.ses.cur, .int .u32 r.ses.epoch, .slice lr.c r.ses.offer.length lr.k, .int .u32 r.ses.last] 28)).alloc (.cells #[.int .i64 p.kind, .int .u8 p.src, .int .u8 p.dst, .int .u32 p.num, .int .u8 p.cur, .int .u8 p.flt, .slice ln.a p.know.length ln.i, .int .u32 p.epoch, .slice ln.b p.ents.length ln.j, .int .u8 p.next, .bool p.done, .slice ln.c p.offer.length ln.k] 30))
  have B4 := Lib.hid ((B4.out.alloc (.cells #[.int .u8 r.rep, .int .u8 r.flt, .int .u32 r.epoch, .int .u32 r.seq, .slice lr.a r.know.length lr.i, .slice lr.b r.held.length lr.j, .bool r.ses.on, .int .u32 r.ses.num, .int .u8 r.ses.src, .int .u8 r.ses.cur, .int .u32 r.ses.epoch, .slice lr.c r.ses.offer.length lr.k, .int .u32 r.ses.last] 28)).alloc (.cells #[.int .i64 p.kind, .int .u8 p.src, .int .u8 p.dst, .int .u32 p.num, .int .u8 p.cur, .int .u8 p.flt, .slice ln.a p.know.length ln.i, .int .u32 p.epoch, .slice ln.b p.ents.length ln.j, .int .u8 p.next, .bool p.done, .slice ln.c p.offer.length ln.k] 30))
  have B5 := Lib.hid ((B5.out.alloc (.cells #[.int .u8 r.rep, .int .u8 r.flt, .int .u32 r.epoch, .int .u32 r.seq, .slice lr.a r.know.length lr.i, .slice lr.b r.held.length lr.j, .bool r.ses.on, .int .u32 r.ses.num, .int .u8 r.ses.src, .int .u8 r.ses.cur, .int .u32 r.ses.epoch, .slice lr.c r.ses.offer.length lr.k, .int .u32 r.ses.last] 28)).alloc (.cells #[.int .i64 p.kind, .int .u8 p.src, .int .u8 p.dst, .int .u32 p.num, .int .u8 p.cur, .int .u8 p.flt, .slice ln.a p.know.length ln.i, .int .u32 p.epoch, .slice ln.b p.ents.length ln.j, .int .u8 p.next, .bool p.done, .slice ln.c p.offer.length ln.k] 30))
  have BL := Lib.hid ((BL.out.alloc (.cells #[.int .u8 r.rep, .int .u8 r.flt, .int .u32 r.epoch, .int .u32 r.seq, .slice lr.a r.know.length lr.i, .slice lr.b r.held.length lr.j, .bool r.ses.on, .int .u32 r.ses.num, .int .u8 r.ses.src, .int .u8 r.ses.cur, .int .u32 r.ses.epoch, .slice lr.c r.ses.offer.length lr.k, .int .u32 r.ses.last] 28)).alloc (.cells #[.int .i64 p.kind, .int .u8 p.src, .int .u8 p.dst, .int .u32 p.num, .int .u8 p.cur, .int .u8 p.flt, .slice ln.a p.know.length ln.i, .int .u32 p.epoch, .slice ln.b p.ents.length ln.j, .int .u8 p.next, .bool p.done, .slice ln.c p.offer.length ln.k] 30))
  have BR2 := Lib.hid ((Blk.new wz #[.int .u8 r.rep, .int .u8 r.flt, .int .u32 r.epoch, .int .u32 r.seq, .slice lr.a r.know.length lr.i, .slice lr.b r.held.length lr.j, .bool r.ses.on, .int .u32 r.ses.num, .int .u8 r.ses.src, .int .u8 r.ses.cur, .int .u32 r.ses.epoch, .slice lr.c r.ses.offer.length lr.k, .int .u32 r.ses.last] 28).alloc (.cells #[.int .i64 p.kind, .int .u8 p.src, .int .u8 p.dst, .int .u32 p.num, .int .u8 p.cur, .int .u8 p.flt, .slice ln.a p.know.length ln.i, .int .u32 p.epoch, .slice ln.b p.ents.length ln.j, .int .u8 p.next, .bool p.done, .slice ln.c p.offer.length ln.k] 30))
  have BP2 := Lib.hid (blk_two wz (.cells #[.int .u8 r.rep, .int .u8 r.flt, .int .u32 r.epoch, .int .u32 r.seq, .slice lr.a r.know.length lr.i, .slice lr.b r.held.length lr.j, .bool r.ses.on, .int .u32 r.ses.num, .int .u8 r.ses.src, .int .u8 r.ses.cur, .int .u32 r.ses.epoch, .slice lr.c r.ses.offer.length lr.k, .int .u32 r.ses.last] 28) #[.int .i64 p.kind, .int .u8 p.src, .int .u8 p.dst, .int .u32 p.num, .int .u8 p.cur, .int .u8 p.flt, .slice ln.a p.know.length ln.i, .int .u32 p.epoch, .slice ln.b p.ents.length ln.j, .int .u8 p.next, .bool p.done, .slice ln.c p.offer.length ln.k] 30)
  have HB := Lib.hid (HB.out.trans ((al2 wz (.cells #[.int .u8 r.rep, .int .u8 r.flt, .int .u32 r.epoch, .int .u32 r.seq, .slice lr.a r.know.length lr.i, .slice lr.b r.held.length lr.j, .bool r.ses.on, .int .u32 r.ses.num, .int .u8 r.ses.src, .int .u8 r.ses.cur, .int .u32 r.ses.epoch, .slice lr.c r.ses.offer.length lr.k, .int .u32 r.ses.last] 28) (.cells #[.int .i64 p.kind, .int .u8 p.src, .int .u8 p.dst, .int .u32 p.num, .int .u8 p.cur, .int .u8 p.flt, .slice ln.a p.know.length ln.i, .int .u32 p.epoch, .slice ln.b p.ents.length ln.j, .int .u8 p.next, .bool p.done, .slice ln.c p.offer.length ln.k] 30)).mono HB.out.size))
  have hsz : ((wz.alloc (.cells #[.int .u8 r.rep, .int .u8 r.flt, .int .u32 r.epoch, .int .u32 r.seq, .slice lr.a r.know.length lr.i, .slice lr.b r.held.length lr.j, .bool r.ses.on, .int .u32 r.ses.num, .int .u8 r.ses.src, .int .u8 r.ses.cur, .int .u32 r.ses.epoch, .slice lr.c r.ses.offer.length lr.k, .int .u32 r.ses.last] 28)).alloc (.cells #[.int .i64 p.kind, .int .u8 p.src, .int .u8 p.dst, .int .u32 p.num, .int .u8 p.cur, .int .u8 p.flt, .slice ln.a p.know.length ln.i, .int .u32 p.epoch, .slice ln.b p.ents.length ln.j, .int .u8 p.next, .bool p.done, .slice ln.c p.offer.length ln.k] 30)).heap.size = w.heap.size + 7 := by simp [HSZ.out]
  have hsz0 := HSZ.out
  generalize (wz.alloc (.cells #[.int .u8 r.rep, .int .u8 r.flt, .int .u32 r.epoch, .int .u32 r.seq, .slice lr.a r.know.length lr.i, .slice lr.b r.held.length lr.j, .bool r.ses.on, .int .u32 r.ses.num, .int .u8 r.ses.src, .int .u8 r.ses.cur, .int .u32 r.ses.epoch, .slice lr.c r.ses.offer.length lr.k, .int .u32 r.ses.last] 28)).alloc (.cells #[.int .i64 p.kind, .int .u8 p.src, .int .u8 p.dst, .int .u32 p.num, .int .u8 p.cur, .int .u8 p.flt, .slice ln.a p.know.length ln.i, .int .u32 p.epoch, .slice ln.b p.ents.length ln.j, .int .u8 p.next, .bool p.done, .slice ln.c p.offer.length ln.k] 30) = W0 at BP B4 B5 BL BR2 BP2 HB hsz ⊢
  generalize Value.agg #[.int .u8 r.rep, .int .u8 r.flt, .int .u32 r.epoch, .int .u32 r.seq, .slice lr.a r.know.length lr.i, .slice lr.b r.held.length lr.j, .bool r.ses.on, .int .u32 r.ses.num, .int .u8 r.ses.src, .int .u8 r.ses.cur, .int .u32 r.ses.epoch, .slice lr.c r.ses.offer.length lr.k, .int .u32 r.ses.last] = VR
  generalize Value.agg #[.int .i64 p.kind, .int .u8 p.src, .int .u8 p.dst, .int .u32 p.num, .int .u8 p.cur, .int .u8 p.flt, .slice ln.a p.know.length ln.i, .int .u32 p.epoch, .slice ln.b p.ents.length ln.j, .int .u8 p.next, .bool p.done, .slice ln.c p.offer.length ln.k] = VN
  have hl2 := H2.out
  have hN : (r.held.filter (dueB p)).length ≤ 1000 := Nat.le_trans (List.length_filter_le _ _) hl2
  have h4 := B4.out
  have h5 := B5.out
  refine wpIn_rangeFunc_ownH rfl (by decide) (gf := 98) (lb := #[.pointer (some ⟨wz.heap.size, 0, none⟩), .pointer (some ⟨wz.heap.size + 1, 0, none⟩)]) rfl trivial (enters_of Tryz.func98 (by kernel_rfl) rfl)
    (sdue_stops _ (by decide) wz.heap.size (wz.heap.size + 1) w.heap.size r p lr ln W0 BR2.out BP2.out (by omega) (HU.out.below HB.out) (HHE.out.below HB.out) hl2) KpD.trans (kpd_b (by omega) (by omega)) (Below.refl _ _) (fun _ => rfl)
    (fun (pre : List EnX) W => ((((∃ v, Boxed W (w.heap.size + 1 + 1 + 1 + 1) 24 v ∧ W.ownsRow w.heap.size 62 7 v ((pre.map Subtype.val).map (fitE p.flt)).length (flatE ((pre.map Subtype.val).map (fitE p.flt))) ∧ True) ∧ Boxed W (w.heap.size + 1 + 1) 24 (.slice none 0 0) ∧ Boxed W (w.heap.size + 1 + 1 + 1) 4 (.bool false)) ∧ Blk W (w.heap.size + 1) (noteR p ln) 30 ∧ Blk W (wz.heap.size + 1) (noteR p ln) 30) ∧ pre.length ≤ 4) ∧ Below w.heap.size w W)
    (fun c (pre : List EnX) W => (c = .ret ∧ (∃ ini last, pre = ini ++ [last] ∧ ini.length = 4 ∧ ∃ v, Boxed W (w.heap.size + 1 + 1) 24 v ∧ W.ownsRow w.heap.size 62 7 v ((ini.map Subtype.val).map (fitE p.flt)).length (flatE ((ini.map Subtype.val).map (fitE p.flt))) ∧ True) ∧ Boxed W (w.heap.size + 1 + 1 + 1) 4 (.bool false)) ∧ Below w.heap.size w W)
    (OwnFrom.and (OwnFrom.and (OwnFrom.and (OwnFrom.and (Own.from (holdsRow_own w.heap.size (w.heap.size + 1 + 1 + 1 + 1) 24 62 7 (fun pre : List EnX => ((pre.map Subtype.val).map (fitE p.flt)).length) (fun pre => flatE ((pre.map Subtype.val).map (fitE p.flt))) (fun _ _ => True)) _) (OwnFrom.and (Own.from (boxed_own _ _ _) _) (Own.from (boxed_own _ _ _) _))) (OwnFrom.and (Own.from (blk_own _ _ _) _) (Own.from (blk_own _ _ _) _))) (ownFrom_pure _ _)) (ownFrom_below (Nat.le_refl _) (by omega)))
    (fun c => OwnFrom.and (Own.from (fun s A B row hs hg hr => by
      obtain ⟨hc, ⟨ini, last, e1, e2, hrow⟩, hb⟩ := hs
      exact ⟨hc, ⟨ini, last, e1, e2, holdsRow_own w.heap.size (w.heap.size + 1 + 1) 24 62 7 (fun pre : List EnX => ((pre.map Subtype.val).map (fitE p.flt)).length) (fun pre => flatE ((pre.map Subtype.val).map (fitE p.flt))) (fun _ _ => True) ini A B row hrow hg hr⟩, boxed_own _ _ (fun (_ : Unit) => .bool false) () A B row hb hg hr⟩) _) (ownFrom_below (Nat.le_refl _) (by omega)))
    ⟨⟨⟨⟨⟨_, BL.out, EOwn.nil W0 w.heap.size, trivial⟩, B4.out, B5.out⟩, BP.out, BP2.out⟩, Nat.zero_le _⟩, HB.out⟩
    (fun x a' W => ∃ Bx, wz.heap.size + 1 < Bx ∧ Blk W Bx #[.int .u8 x.1.id, .int .u8 x.1.rep, .int .u32 x.1.seq, .int .u32 x.1.stamp, .int .i64 x.1.kind, .int .u8 x.1.cls, .int .u32 x.1.val] 62 ∧ a' = { tmps := #[VR, VN, .pointer (some ⟨w.heap.size, 0, none⟩), .pointer (some ⟨w.heap.size + 1, 0, none⟩), .pointer (some ⟨w.heap.size + 1 + 1, 0, none⟩), .pointer (some ⟨w.heap.size + 1 + 1 + 1, 0, none⟩), .pointer (some ⟨w.heap.size + 1 + 1 + 1 + 1, 0, none⟩), .pointer (some ⟨Bx, 0, none⟩), VR, VN, .func (.func 98) #[] #[.pointer (some ⟨wz.heap.size, 0, none⟩), .pointer (some ⟨wz.heap.size + 1, 0, none⟩)], .agg #[.int .u8 x.1.id, .int .u8 x.1.rep, .int .u32 x.1.seq, .int .u32 x.1.stamp, .int .i64 x.1.kind, .int .u8 x.1.cls, .int .u32 x.1.val], undef, undef, undef, undef, undef, undef, undef, undef, undef, undef, undef, undef], defers := [] })
    (fun x a' _ A B row hs hg hr => by obtain ⟨Bx, h1, h2, h3⟩ := hs; exact ⟨Bx, h1, blk_own Bx _ _ () A B row h2 hg (fun r e => (hr r e).2), h3⟩)
    ?assign ?body ?done ?stop
  case assign =>
    rintro l pre x W K ⟨⟨⟨⟨⟨v, hv, hrow, _⟩, k4, k5⟩, hp1, hp2⟩, hle⟩, hB⟩ hK
    clear hsz0
    simp only [En.agg]
    gi_wp2
    have hsz0 := HSZ.out
    exact hK _ _ ((KeepsOthers.alloc _ _).from _) (KpD.of (al1 _ _) hB.size) ⟨⟨⟨⟨⟨v, hv.alloc _, World.ownsRow.alloc hrow _, trivial⟩, k4.alloc _, k5.alloc _⟩, hp1.alloc _, hp2.alloc _⟩, hle⟩, hB.alloc hB.size _⟩ ⟨W.heap.size, by have := hp2.lt; omega, Blk.new W _ _, rfl⟩
  case body =>
    rintro l pre x a' W hl ⟨rr, hr⟩ ⟨⟨⟨⟨⟨v, hv, hrow, _⟩, k4, k5⟩, hp1, hp2⟩, hle⟩, hB⟩ ⟨Bx, hBx, bX, rfl⟩ hlt
    clear hsz0 h4 h5
    have HROW := Lib.hid (show EOwn W w.heap.size v ((pre.map Subtype.val).map (fitE p.flt)) from hrow)
    obtain ⟨A, cp, rfl, _⟩ := HROW.out.form
    clear hrow
    simp only [List.length_map] at hv HROW
    have cv := hv.cell
    have hs1 : w.heap.size ≤ W.heap.size := hB.size
    have c4 := k4.cell
    have f4 := k4.frozen
    have c5 := k5.cell
    have f5 := k5.frozen
    by_cases h4 : pre.length = 4
    · have h4' : (pre.length : Int) = 4 := by omega
      have HV4 := Lib.hid hv
      rw [h4] at HV4 HROW
      gi_wp2_with fail
      exact ⟨((KeepsOthers.setCell _ _ _).trans (KeepsOthers.setCell _ _ _)).from _, ⟨rfl, ⟨pre, x, rfl, h4, _, (k4.set _).other (by omega) _, ((HROW.out.box k4 (by decide) _).box (k5.other (by omega) _) (by decide) _), trivial⟩, (k5.other (by omega) _).set _⟩,
        (hB.setCell (p := ⟨w.heap.size + 1 + 1, 0, none⟩) (by simp; omega) _).setCell (p := ⟨w.heap.size + 1 + 1 + 1, 0, none⟩) (by simp; omega) _⟩
    · have h4' : ¬ (pre.length : Int) = 4 := by omega
      have SH := Lib.hid (fun w1 => sshown_any x.1 p.flt w1 x.2 HF.out)
      have HY := Lib.hid (fit_ok (f := p.flt) x.2)
      have HMAP := Lib.hid (show ((pre ++ [x]).map Subtype.val).map (fitE p.flt) = (pre.map Subtype.val).map (fitE p.flt) ++ [fitE p.flt x.1] by simp)
      generalize fitE p.flt x.1 = y at SH HMAP HY
      simp only [En.agg] at SH
      have HK := Lib.hid (fun (w3 : World) (hb : Below W.drew.heap.size W.drew w3) => (show Boxed w3 (w.heap.size + 1 + 1 + 1 + 1) 24 (.slice A pre.length cp) ∧ EOwn w3 w.heap.size (.slice A pre.length cp) ((pre.map Subtype.val).map (fitE p.flt)) ∧ Below W.heap.size W w3 from ⟨hv.kept (grown_none ((Below.refl W.heap.size W).drew.trans hb)) (by simp), HROW.out.below ((Below.refl W.heap.size W).drew.trans hb), (Below.refl W.heap.size W).drew.trans hb⟩))
      have x0 := bX.cell 0 _ rfl
      have x1 := bX.cell 1 _ rfl
      have x2 := bX.cell 2 _ rfl
      have x3 := bX.cell 3 _ rfl
      have x4 := bX.cell 4 _ rfl
      have x5 := bX.cell 5 _ rfl
      have x6 := bX.cell 6 _ rfl
      have p5 := hp1.cell 5 (.int .u8 p.flt) rfl
      have hm : Tryz.prog.follows .mixedOrders = true := by kernel_rfl
      gi_wp2_with fail
      clear c4 f4 c5 f5
      refine wpIn_region_any hm ?_
      try (change wpAnyIn _ _ _ _ _ _ _ _ _ (World.drew _))
      repeat (any_goals (first
        | exact AllReadyIn.nil
        | (refine AllReadyIn.cons rfl (fun K hK => ?_) ?_)
        | (refine wpAnyIn_done (by decide +kernel) ?_ _)
        | (refine wpAnyIn_ready (rs := [0, 1, 2]) (by decide +kernel) (by simp) ?_)
        | (refine wpAnyIn_ready (rs := [0, 2]) (by decide +kernel) (by simp) ?_)
        | (refine wpAnyIn_ready (rs := [0, 1, 3]) (by decide +kernel) (by simp) ?_)
        | (refine wpAnyIn_ready (rs := [0, 3]) (by decide +kernel) (by simp) ?_)
        | (refine wpAnyIn_ready (rs := [0, 1]) (by decide +kernel) (by simp) ?_)
        | (refine wpAnyIn_ready (rs := [1, 2]) (by decide +kernel) (by simp) ?_)
        | (refine wpAnyIn_ready (rs := [2]) (by decide +kernel) (by simp) ?_)
        | (refine wpAnyIn_ready (rs := [1, 3]) (by decide +kernel) (by simp) ?_)
        | (refine wpAnyIn_ready (rs := [3]) (by decide +kernel) (by simp) ?_)
        | (refine wpAnyIn_ready (rs := [1]) (by decide +kernel) (by simp) ?_)
        | (refine wpAnyIn_ready (rs := [0, 4]) (by decide +kernel) (by simp) ?_)
        | (refine wpAnyIn_ready (rs := [4]) (by decide +kernel) (by simp) ?_)
        | (refine wpAnyIn_ready (rs := [0, 5]) (by decide +kernel) (by simp) ?_)
        | (refine wpAnyIn_ready (rs := [5]) (by decide +kernel) (by simp) ?_)
        | (refine wpAnyIn_ready (rs := [0]) (by decide +kernel) (by simp) ?_)
        | (refine wpAnyIn_ready (rs := [6]) (by decide +kernel) (by simp) ?_)
        | (refine wpAnyIn_ready (rs := [7]) (by decide +kernel) (by simp) ?_)
        | (refine step_append_entIn rfl _ _ rfl w.heap.size _ ((pre.map Subtype.val).map (fitE p.flt)) rfl (mr.alloc _) _ 1 y rfl (new_entry _ y _) (by simp; omega) (by have := mb.size; simp; omega) ?_; intro v' w4 ho hg; obtain ⟨hv1, hv2, hr2, hk2, hb2⟩ := m1.appended (by decide) mr (by have := mb.size; omega) (by omega) ho hg; have hc1 := hv1.cell; have hf1 := hv1.frozen; obtain ⟨A', cap', rfl, _⟩ := ho.form; refine hK _ _ ?_; clear hK K)
        | (go_simp; refine ⟨trivial, (CallsIn.inRound l (callsIn_wide.2 (SH.out _))).mono ?_⟩; rintro e w3 ⟨rfl, hb3⟩; obtain ⟨m1, mr, mb⟩ := HK.out w3 hb3; have m1c := m1.cell; have m1f := m1.frozen; have m1l := m1.lt; refine hK _ _ ?_; clear hK K)
        | (go_simp; refine hK _ _ ?_; clear hK K)))
      all_goals (
        have hq1 : Blk (w4.setCell ⟨w.heap.size + 1 + 1 + 1 + 1, 0, none⟩ (.slice A' (pre.length + 1) cap')) (w.heap.size + 1) (noteR p ln) 30 := (blk_grown ((hp1.keep mb).alloc _) (by decide) (mr.alloc _) hg).setOther (by omega) _ _
        have hq2 : Blk (w4.setCell ⟨w.heap.size + 1 + 1 + 1 + 1, 0, none⟩ (.slice A' (pre.length + 1) cap')) (wz.heap.size + 1) (noteR p ln) 30 := (blk_grown ((hp2.keep mb).alloc _) (by decide) (mr.alloc _) hg).setOther (by have := HSZ.out; omega) _ _
        have hq4 : Boxed (w4.setCell ⟨w.heap.size + 1 + 1 + 1 + 1, 0, none⟩ (.slice A' (pre.length + 1) cap')) (w.heap.size + 1 + 1) 24 (.slice none 0 0) := (boxed_grown ((k4.kept (grown_none mb) (by simp)).alloc _) (by decide) (mr.alloc _) hg).other (by omega) _
        have hq5 : Boxed (w4.setCell ⟨w.heap.size + 1 + 1 + 1 + 1, 0, none⟩ (.slice A' (pre.length + 1) cap')) (w.heap.size + 1 + 1 + 1) 4 (.bool false) := (boxed_grown ((k5.kept (grown_none mb) (by simp)).alloc _) (by decide) (mr.alloc _) hg).other (by omega) _
        have hkk := (fun (j : Nat) (o : Obj) (hj : W.heap[j]? = some o) => (mb.block j (Array.getElem?_eq_some_iff.1 hj).1).trans hj)
        have hko : KeepsOthers W (w4.setCell ⟨w.heap.size + 1 + 1 + 1 + 1, 0, none⟩ (.slice A' (pre.length + 1) cap')) := KeepsOthers.trans ⟨mb.size, fun j o hj _ => hkk j o hj⟩ (by simpa using hk2)
        have hbb : Below w.heap.size W (w4.setCell ⟨w.heap.size + 1 + 1 + 1 + 1, 0, none⟩ (.slice A' (pre.length + 1) cap')) := (mb.mono hs1).trans (by simpa using hb2)
        refine ⟨hko.from _, ⟨hbb, fun o ho' => hq2.at_.trans (hp2.at_.symm.trans ho')⟩, ⟨⟨⟨⟨_, by simpa using hv2, ?_, trivial⟩, hq4, hq5⟩, hq1, hq2⟩, by simp; omega⟩, hB.trans hbb⟩
        rw [HMAP.out]
        simpa [EOwn] using hr2)
  case done =>
    rintro D ys W hD hys ⟨⟨⟨⟨⟨v, hv, hrow, _⟩, k4, k5⟩, hp1, hp2⟩, hle⟩, hB⟩ hK
    clear hsz0 h4 h5
    have HT := Lib.hid (told_all p.flt hys hle)
    have HROW := Lib.hid (show EOwn W w.heap.size v L by rw [← HL.out, ← HT.out.1]; exact hrow)
    have HSW := Lib.hid hsz
    clear hrow hys hle hsz
    obtain ⟨A, cp, rfl, _⟩ := HROW.out.form
    have cv := hv.cell
    have c4 := k4.cell
    have f4 := k4.frozen
    have c5 := k5.cell
    have f5 := k5.frozen
    gi_wp2_with fail
    have hsz := HSW.out
    have hK' := ((KeepsOthers.setCell W ⟨w.heap.size + 1 + 1, 0, none⟩ (.slice A L.length cp)).trans (KeepsOthers.setCell _ ⟨w.heap.size + 1 + 1 + 1, 0, none⟩ (.bool true))).same D _ hK rfl
    refine ⟨by simp, .inl ⟨_, _, rfl, run_takeDeferred hK', ?_⟩⟩
    have q4 := boxed_own _ _ (fun (_ : Unit) => Value.slice A L.length cp) () _ _ (some D) ((k4.set (.slice A L.length cp)).other (B' := w.heap.size + 1 + 1 + 1) (by omega) (.bool true)) (grownBy_putObj' _ D (.deferred none)) (fun r e => by cases e; exact ⟨_, hK', rfl⟩)
    have q5 := boxed_own _ _ (fun (_ : Unit) => Value.bool true) () _ _ (some D) ((k5.other (B' := w.heap.size + 1 + 1) (by omega) (.slice A L.length cp)).set (.bool true)) (grownBy_putObj' _ D (.deferred none)) (fun r e => by cases e; exact ⟨_, hK', rfl⟩)
    have hc4 := q4.cell
    have hc5 := q5.cell
    refine ⟨.tuple #[.slice A L.length cp, .bool true], by simp [results, Tryz.results62, go_sem, hc4, hc5], A, cp, by rw [← HD.out, HT.out.2], ownsRow_putObj ((HROW.out.box k4 (by decide) _).box (k5.other (by omega) _) (by decide) _) _ hK' rfl, ?_⟩
    exact ((hB.setCell (p := ⟨w.heap.size + 1 + 1, 0, none⟩) (by simp; omega) _).setCell (p := ⟨w.heap.size + 1 + 1 + 1, 0, none⟩) (by simp; omega) _).trans (belowK_b (w := w) (Nat.le_refl _) _ D _ _ (by omega) hK' rfl rfl)
  case stop =>
    rintro D c pre W hD hpre ⟨⟨rfl, ⟨ini, last, rfl, hil, v, hv, hrow, _⟩, k5⟩, hB⟩ hK
    clear hsz0 h4 h5
    have HT := Lib.hid (told_four p.flt hpre hil)
    have HROW := Lib.hid (show EOwn W w.heap.size v L by rw [← HL.out, ← HT.out.1]; exact hrow)
    have HSW := Lib.hid hsz
    clear hrow hpre hsz
    obtain ⟨A, cp, rfl, _⟩ := HROW.out.form
    gi_wp2_with fail
    have hsz := HSW.out
    refine ⟨by simp, .inl ⟨_, _, rfl, run_takeDeferred hK, ?_⟩⟩
    have q4 := boxed_own _ _ (fun (_ : Unit) => Value.slice A L.length cp) () _ _ (some D) hv (grownBy_putObj' _ D (.deferred none)) (fun r e => by cases e; exact ⟨_, hK, rfl⟩)
    have q5 := boxed_own _ _ (fun (_ : Unit) => Value.bool false) () _ _ (some D) k5 (grownBy_putObj' _ D (.deferred none)) (fun r e => by cases e; exact ⟨_, hK, rfl⟩)
    have hc4 := q4.cell
    have hc5 := q5.cell
    refine ⟨.tuple #[.slice A L.length cp, .bool false], by simp [results, Tryz.results62, go_sem, hc4, hc5], A, cp, by rw [← HD.out, HT.out.2], ownsRow_putObj HROW.out _ hK rfl, ?_⟩
    exact hB.trans (belowK_b (w := w) (Nat.le_refl _) _ D _ _ (by omega) hK rfl rfl)
end Go.Proofs.YtfjaeohfigcciabGreatDoor

