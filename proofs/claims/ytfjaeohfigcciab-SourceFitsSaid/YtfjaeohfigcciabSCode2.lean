/- The contracts of source.refusal, of slices.Clone at runs, and of source.offered. -/
import Derived.Test.YtfjaeohfigcciabSCode1
import Derived.Test.YtfjaeohfigcciabLists
import Derived.Test.YtfjaeohfigcciabZe
namespace Go.Proofs.Ytfjaeohfigcciab
open Go.RowKit

/-- why a note isn't answered -/
def refuseR (r : Rp) (p : Nt) : Option Int := if rpB r = false then some 9 else if noteB p = false then some 3 else if p.kind ≠ 1 ∨ p.dst ≠ r.rep then some 4 else none
def refV : Option Int → Value
  | none => .nilIface
  | some c => .iface 60 (.int .i64 c)
theorem due_refuse (r : Rp) (p : Nt) : dueR r p = match refuseR r p with | some c => .error c | none => .ok (dueL r.held p.know p.cur) := by
  unfold dueR refuseR
  split
  · rfl
  · split
    · rfl
    · split <;> rfl
theorem refuse_none {r : Rp} {p : Nt} (h : refuseR r p = none) : rpB r = true ∧ noteB p = true ∧ p.kind = 1 ∧ p.dst = r.rep := by
  unfold refuseR at h
  split at h
  · cases h
  · split at h
    · cases h
    · split at h
      · cases h
      · rename_i a b c
        exact ⟨by simpa using a, by simpa using b, by omega, by omega⟩

set_option maxHeartbeats 8000000 in
set_option maxRecDepth 100000 in
theorem srefusal_any (v u : Value) (r : Rp) (p : Nt) (w : World) (hv : RpV w w.heap.size v r) (hu : NtV w w.heap.size u p) (h1 : r.know.length ≤ 1000) (h2 : r.held.length ≤ 1000) (h3 : r.ses.offer.length ≤ 1000) :
    Calls Try.prog 13 #[v, u] w fun e w' => e = .returned (refV (refuseR r p)) ∧ Below w.heap.size w w' := by
  have HR := Lib.hid (fun w1 (hb : Below w.heap.size w w1) => pRight_any v r w1 (hv.later hb) h1 h2 h3)
  have HN := Lib.hid (fun w1 (hb : Below w.heap.size w w1) => nRight_any u p w1 (hu.later hb))
  have HP := Lib.hid (show refuseR r p = if rpB r = false then some 9 else if noteB p = false then some 3 else if p.kind ≠ 1 ∨ p.dst ≠ r.rep then some 4 else none from rfl)
  obtain ⟨lr, rfl⟩ := hv.rows
  obtain ⟨ln, rfl⟩ := hu.rows
  clear hv hu h1 h2 h3
  unfold repR repRow Rp.cells at HR ⊢
  unfold noteR noteRow Nt.cells at HN ⊢
  generalize refuseR r p = D at HP ⊢
  generalize rpB r = q1 at HR HP
  generalize noteB p = q2 at HN HP
  go_enter Try.func13, Try.ntmps13
  go_wp2_with fail
  have HB := Lib.hid (al2 w (.cells #[.int .u8 r.rep, .int .u8 r.flt, .int .u32 r.epoch, .int .u32 r.seq, .slice lr.a r.know.length lr.i, .slice lr.b r.held.length lr.j, .bool r.ses.on, .int .u32 r.ses.num, .int .u8 r.ses.src, .int .u8 r.ses.cur, .int .u32 r.ses.epoch, .slice lr.c r.ses.offer.length lr.k, .int .u32 r.ses.last] 28) (.cells #[.int .i64 p.kind, .int .u8 p.src, .int .u8 p.dst, .int .u32 p.num, .int .u8 p.cur, .int .u8 p.flt, .slice ln.a p.know.length ln.i, .int .u32 p.epoch, .slice ln.b p.ents.length ln.j, .int .u8 p.next, .bool p.done, .slice ln.c p.offer.length ln.k] 30))
  have BR := Lib.hid ((Blk.new w #[.int .u8 r.rep, .int .u8 r.flt, .int .u32 r.epoch, .int .u32 r.seq, .slice lr.a r.know.length lr.i, .slice lr.b r.held.length lr.j, .bool r.ses.on, .int .u32 r.ses.num, .int .u8 r.ses.src, .int .u8 r.ses.cur, .int .u32 r.ses.epoch, .slice lr.c r.ses.offer.length lr.k, .int .u32 r.ses.last] 28).alloc (.cells #[.int .i64 p.kind, .int .u8 p.src, .int .u8 p.dst, .int .u32 p.num, .int .u8 p.cur, .int .u8 p.flt, .slice ln.a p.know.length ln.i, .int .u32 p.epoch, .slice ln.b p.ents.length ln.j, .int .u8 p.next, .bool p.done, .slice ln.c p.offer.length ln.k] 30))
  have BP := Lib.hid (blk_two w (.cells #[.int .u8 r.rep, .int .u8 r.flt, .int .u32 r.epoch, .int .u32 r.seq, .slice lr.a r.know.length lr.i, .slice lr.b r.held.length lr.j, .bool r.ses.on, .int .u32 r.ses.num, .int .u8 r.ses.src, .int .u8 r.ses.cur, .int .u32 r.ses.epoch, .slice lr.c r.ses.offer.length lr.k, .int .u32 r.ses.last] 28) #[.int .i64 p.kind, .int .u8 p.src, .int .u8 p.dst, .int .u32 p.num, .int .u8 p.cur, .int .u8 p.flt, .slice ln.a p.know.length ln.i, .int .u32 p.epoch, .slice ln.b p.ents.length ln.j, .int .u8 p.next, .bool p.done, .slice ln.c p.offer.length ln.k] 30)
  generalize (w.alloc (.cells #[.int .u8 r.rep, .int .u8 r.flt, .int .u32 r.epoch, .int .u32 r.seq, .slice lr.a r.know.length lr.i, .slice lr.b r.held.length lr.j, .bool r.ses.on, .int .u32 r.ses.num, .int .u8 r.ses.src, .int .u8 r.ses.cur, .int .u32 r.ses.epoch, .slice lr.c r.ses.offer.length lr.k, .int .u32 r.ses.last] 28)).alloc (.cells #[.int .i64 p.kind, .int .u8 p.src, .int .u8 p.dst, .int .u32 p.num, .int .u8 p.cur, .int .u8 p.flt, .slice ln.a p.know.length ln.i, .int .u32 p.epoch, .slice ln.b p.ents.length ln.j, .int .u8 p.next, .bool p.done, .slice ln.c p.offer.length ln.k] 30) = wz at HB BR BP ⊢
  have c0 := BR.out.cell 0 (.int .u8 r.rep) rfl
  have c1 := BR.out.cell 1 (.int .u8 r.flt) rfl
  have c2 := BR.out.cell 2 (.int .u32 r.epoch) rfl
  have c3 := BR.out.cell 3 (.int .u32 r.seq) rfl
  have c4 := BR.out.cell 4 (.slice lr.a r.know.length lr.i) rfl
  have c5 := BR.out.cell 5 (.slice lr.b r.held.length lr.j) rfl
  have c6 := BR.out.cell 6 (.bool r.ses.on) rfl
  have c7 := BR.out.cell 7 (.int .u32 r.ses.num) rfl
  have c8 := BR.out.cell 8 (.int .u8 r.ses.src) rfl
  have c9 := BR.out.cell 9 (.int .u8 r.ses.cur) rfl
  have c10 := BR.out.cell 10 (.int .u32 r.ses.epoch) rfl
  have c11 := BR.out.cell 11 (.slice lr.c r.ses.offer.length lr.k) rfl
  have c12 := BR.out.cell 12 (.int .u32 r.ses.last) rfl
  go_wp2_with fail
  refine (HR.out wz HB.out).mono ?_
  rintro e w1 ⟨rfl, hb⟩
  clear c0 c1 c2 c3 c4 c5 c6 c7 c8 c9 c10 c11 c12
  have BR := Lib.hid (BR.out.keep hb)
  have BP := Lib.hid (BP.out.keep hb)
  have HB := Lib.hid (HB.out.trans (hb.mono HB.out.size)); clear hb
  cases q1
  · skip
    go_wp2_with fail
    go_ret
    exact ⟨by rw [HP.out]; rfl, HB.out⟩
  have d0 := BP.out.cell 0 (.int .i64 p.kind) rfl
  have d1 := BP.out.cell 1 (.int .u8 p.src) rfl
  have d2 := BP.out.cell 2 (.int .u8 p.dst) rfl
  have d3 := BP.out.cell 3 (.int .u32 p.num) rfl
  have d4 := BP.out.cell 4 (.int .u8 p.cur) rfl
  have d5 := BP.out.cell 5 (.int .u8 p.flt) rfl
  have d6 := BP.out.cell 6 (.slice ln.a p.know.length ln.i) rfl
  have d7 := BP.out.cell 7 (.int .u32 p.epoch) rfl
  have d8 := BP.out.cell 8 (.slice ln.b p.ents.length ln.j) rfl
  have d9 := BP.out.cell 9 (.int .u8 p.next) rfl
  have d10 := BP.out.cell 10 (.bool p.done) rfl
  have d11 := BP.out.cell 11 (.slice ln.c p.offer.length ln.k) rfl
  go_wp2_with fail
  refine (HN.out w1 HB.out).mono ?_
  rintro e w2 ⟨rfl, hb⟩
  clear d0 d1 d2 d3 d4 d5 d6 d7 d8 d9 d10 d11
  have BR := Lib.hid (BR.out.keep hb)
  have BP := Lib.hid (BP.out.keep hb)
  have HB := Lib.hid (HB.out.trans (hb.mono HB.out.size)); clear hb
  cases q2
  · skip
    go_wp2_with fail
    go_ret
    exact ⟨by rw [HP.out]; rfl, HB.out⟩
  have d0 := BP.out.cell 0 (.int .i64 p.kind) rfl
  have d2 := BP.out.cell 2 (.int .u8 p.dst) rfl
  have c0 := BR.out.cell 0 (.int .u8 r.rep) rfl
  obtain ⟨k0, hk0⟩ : ∃ q : Bool, (p.kind != 1) = q := ⟨_, rfl⟩
  cases k0
  · skip
    obtain ⟨k2, hk2⟩ : ∃ q : Bool, (p.dst != r.rep) = q := ⟨_, rfl⟩
    cases k2
    · skip
      go_wp2_with fail
      go_ret
      exact ⟨by rw [HP.out, if_neg (by simp), if_neg (by simp), if_neg (by simp at hk0 hk2; omega)]; rfl, HB.out⟩
    · skip
      go_wp2_with fail
      go_ret
      exact ⟨by rw [HP.out, if_neg (by simp), if_neg (by simp), if_pos (by simp at hk2; omega)]; rfl, HB.out⟩
  · skip
    go_wp2_with fail
    go_ret
    exact ⟨by rw [HP.out, if_neg (by simp), if_neg (by simp), if_pos (by simp at hk0; omega)]; rfl, HB.out⟩

set_option maxHeartbeats 8000000 in
set_option maxRecDepth 100000 in
theorem rClone_any (v : Value) (zs : List Rn) (w : World) (h : Sl w w.heap.size v zs) (hl : zs.length ≤ 10000) : Calls Try.prog 23 #[v] w fun e w' => ∃ v', e = .returned v' ∧ Own w' w.heap.size v' zs ∧ Below w.heap.size w w' := by
  have q22 : ∀ (w : World) (a : Option Addr) (n c n' c' : Nat), (binOp .eql 23 (.slice a n c) (.slice none n' c')).run Try.prog w = .ok (.bool a.isNone) w := fun w a n c n' c' => Lib.run_eql_slice_nil w _ _ a n c n' c' Try.underlying23
  have HS := Lib.hid h
  obtain ⟨A, c, rfl, hn, hok, hA⟩ := h
  rcases A with _ | ad
  · have hy : zs = [] := by
      by_cases hne : zs = []
      · exact hne
      · obtain ⟨b, off, h, _⟩ := hA hne
        cases h
    subst hy
    obtain rfl := hn rfl
    clear hn hok hA
    go_enter Try.func23, Try.ntmps23
    go_wp2
    go_ret
    exact ⟨_, rfl, Own.nil _ _, Below.refl _ _⟩
  · clear hA hn hok
    have hown : Own (w.alloc (.cells #[] 49)) w.heap.size (.slice (some ⟨w.heap.size, 0, none⟩) 0 0) [] := World.ownsRow_made w #[] 0 (Nat.le_refl _) (Nat.zero_le _) (by simp)
    have HO := Lib.hid hown; clear hown
    have HAL := Lib.hid (al1 w (.cells #[] 49))
    go_enter Try.func23, Try.ntmps23
    go_wp2_with (at_builtin; (refine append_runs rfl _ _ rfl w.heap.size _ [] rfl HO.out _ _ zs rfl (HS.out.below HAL.out) (by simp; omega) (by simp) ?_); intro v1 w1 ho1 hg1)
    rw [List.nil_append] at ho1
    have HO1 := Lib.hid ho1; clear ho1
    have HG1 := Lib.hid hg1; clear hg1
    go_wp2
    go_ret
    exact ⟨v1, rfl, HO1.out, HAL.out.grown HG1.out (by simp) (fun k hk => by have := HO.out.lt k hk; omega)⟩

end Go.Proofs.Ytfjaeohfigcciab

