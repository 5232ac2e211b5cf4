/- Texts in one: IFade, TFMem, Lists, SCode2. -/
import Derived.Test.YtfjaeohfigcciabGreatDoorQB04
import Derived.Test.YtfjaeohfigcciabGreatDoorQB09
import Derived.Test.YtfjaeohfigcciabGreatDoorQB00
import Derived.Test.YtfjaeohfigcciabGreatDoorQB15
import Derived.Test.YtfjaeohfigcciabGreatDoorQB17
set_option linter.unusedVariables false
set_option linter.unusedSimpArgs false
set_option linter.unusedSectionVars false
set_option linter.unnecessarySimpa false
namespace Go.Proofs.YtfjaeohfigcciabGreatDoor
open Go.RowKit

set_option maxHeartbeats 1000000 in
theorem iFade_any (x : En) (w : World) :
    Calls Tryz.prog 106 #[x.agg] w fun e w' => e = .returned (fadeE x).agg ∧ Below w.heap.size w w' := by
  obtain ⟨id, rep, seq, stamp, kind, cls, val⟩ := x
  by_cases h1 : kind = 1
  · subst h1
    rw [show fadeE ⟨id, rep, seq, stamp, 1, cls, val⟩ = ⟨id, rep, seq, stamp, 2, cls, 0⟩ by simp [fadeE]]
    simp only [En.agg]
    go_enter Tryz.func106, Tryz.ntmps106
    go_wp2
    exact bodyPost_ret (v := .agg #[.int .u8 id, .int .u8 rep, .int .u32 seq, .int .u32 stamp, .int .i64 2, .int .u8 cls, .int .u32 0]) (by simp [results, Tryz.results106, go_sem]) rfl ⟨rfl, al2 _ _ _⟩
  · have h1' : (kind != 1) = true := by simp [h1]
    rw [show fadeE ⟨id, rep, seq, stamp, kind, cls, val⟩ = ⟨id, rep, seq, stamp, kind, cls, val⟩ by simp [fadeE, h1]]
    clear h1
    simp only [En.agg]
    go_enter Tryz.func106, Tryz.ntmps106
    go_wp2
    exact bodyPost_ret (v := .agg #[.int .u8 id, .int .u8 rep, .int .u32 seq, .int .u32 stamp, .int .i64 kind, .int .u8 cls, .int .u32 val]) (by simp [results, Tryz.results106, go_sem]) rfl ⟨rfl, al2 _ _ _⟩

end Go.Proofs.YtfjaeohfigcciabGreatDoor

namespace Go.Proofs.YtfjaeohfigcciabGreatDoor
open Go.RowKit

def repRow (r : Rp) (A1 A2 A3 : Option Addr) (n1 n2 n3 c1 c2 c3 : Nat) : Array Value := r.cells (.slice A1 n1 c1) (.slice A2 n2 c2) (.slice A3 n3 c3)
def noteRow (n : Nt) (A1 A2 A3 : Option Addr) (n1 n2 n3 c1 c2 c3 : Nat) : Array Value := n.cells (.slice A1 n1 c1) (.slice A2 n2 c2) (.slice A3 n3 c3)

theorem run_in_rep {r : Rp} {A1 A2 A3 : Option Addr} {n1 n2 n3 c1 c2 c3 o : Nat} {x y z : Int} (h0 : (repRow r A1 A2 A3 n1 n2 n3 c1 c2 c3)[o]? = some (.int .u8 x)) (h1 : (repRow r A1 A2 A3 n1 n2 n3 c1 c2 c3)[o + 1]? = some (.int .u32 y))
    (h2 : (repRow r A1 A2 A3 n1 n2 n3 c1 c2 c3)[o + 2]? = some (.int .u32 z)) : o = 1 := by
  unfold repRow Rp.cells at h0 h1 h2
  match o with
  | 0 => simp at h1
  | 1 => rfl
  | 2 => simp at h0
  | 3 => simp at h0
  | 4 => simp at h0
  | 5 => simp at h0
  | 6 => simp at h0
  | 7 => simp at h0
  | 8 => simp at h1
  | 9 => simp at h2
  | 10 => simp at h0
  | 11 => simp at h0
  | 12 => simp at h0
  | o + 13 => simp at h0
theorem run_in_note {n : Nt} {A1 A2 A3 : Option Addr} {n1 n2 n3 c1 c2 c3 o : Nat} {x y z : Int} (h0 : (noteRow n A1 A2 A3 n1 n2 n3 c1 c2 c3)[o]? = some (.int .u8 x)) (h1 : (noteRow n A1 A2 A3 n1 n2 n3 c1 c2 c3)[o + 1]? = some (.int .u32 y))
    (h2 : (noteRow n A1 A2 A3 n1 n2 n3 c1 c2 c3)[o + 2]? = some (.int .u32 z)) : False := by
  unfold noteRow Nt.cells at h0 h1 h2
  match o with
  | 0 => simp at h0
  | 1 => simp at h1
  | 2 => simp at h2
  | 3 => simp at h0
  | 4 => simp at h1
  | 5 => simp at h1
  | 6 => simp at h0
  | 7 => simp at h0
  | 8 => simp at h0
  | 9 => simp at h1
  | 10 => simp at h0
  | 11 => simp at h0
  | o + 12 => simp at h0
theorem ent_in_rep {r : Rp} {A1 A2 A3 : Option Addr} {n1 n2 n3 c1 c2 c3 o : Nat} {x : Int} (h : (repRow r A1 A2 A3 n1 n2 n3 c1 c2 c3)[o]? = some (.int .i64 x)) : False := by
  unfold repRow Rp.cells at h
  match o with
  | 0 | 1 | 2 | 3 | 4 | 5 | 6 | 7 | 8 | 9 | 10 | 11 | 12 => simp at h
  | o + 13 => simp at h
theorem ent_in_note {n : Nt} {A1 A2 A3 : Option Addr} {n1 n2 n3 c1 c2 c3 o : Nat} {x : Int} (h : (noteRow n A1 A2 A3 n1 n2 n3 c1 c2 c3)[o + 1]? = some (.int .i64 x)) : False := by
  unfold noteRow Nt.cells at h
  match o with
  | 0 | 1 | 2 | 3 | 4 | 5 | 6 | 7 | 8 | 9 | 10 => simp at h
  | o + 11 => simp at h

theorem cell_other {W : World} {g b j : Nat} (cs : Array Value) (h : b ≠ g) : (W.setRow g cs).cell? ⟨b, j, none⟩ = W.cell? ⟨b, j, none⟩ := World.cell?_of_block (setRow_other W g b cs h)
theorem cell_in {W : World} {g j : Nat} {cs : Array Value} {t : TypeId} (h : Blk W g cs t) : W.cell? ⟨g, j, none⟩ = cs[j]? := cell_of_row W g j cs t (0, 0) h.at_

section
variable {W : World} {g B : Nat} {v : Value} {t : TypeId}
theorem Sl.rep {zs : List Rn} {r q : Rp} {A1 A2 A3 A1' A2' A3' : Option Addr} {n1 n2 n3 c1 c2 c3 n1' n2' n3' c1' c2' c3' : Nat} (h : Sl W B v zs) (hb : Blk W g (repRow r A1 A2 A3 n1 n2 n3 c1 c2 c3) t)
    (e1 : q.flt = r.flt) (e2 : q.epoch = r.epoch) (e3 : q.seq = r.seq) : Sl (W.setRow g (repRow q A1' A2' A3' n1' n2' n3' c1' c2' c3')) B v zs := by
  obtain ⟨A, c, hv, hn, hok, hA⟩ := h
  refine ⟨A, c, hv, hn, hok, fun hz => ?_⟩
  obtain ⟨b, off, hA1, hB, hc⟩ := hA hz
  refine ⟨b, off, hA1, hB, fun j x hx => ?_⟩
  obtain ⟨h0, h1, h2⟩ := hc j x hx
  by_cases hbg : b = g
  · subst hbg
    rw [cell_in hb] at h0 h1 h2
    have ho := run_in_rep h0 h1 h2
    have hb' := hb.row (repRow q A1' A2' A3' n1' n2' n3' c1' c2' c3')
    unfold RnAt
    rw [cell_in hb', cell_in hb', cell_in hb']
    rw [ho] at h0 h1 h2 ⊢
    unfold repRow Rp.cells at *
    simp at h0 h1 h2 ⊢
    exact ⟨by rw [e1]; exact h0, by rw [e2]; exact h1, by rw [e3]; exact h2⟩
  · exact ⟨(cell_other _ hbg).trans h0, (cell_other _ hbg).trans h1, (cell_other _ hbg).trans h2⟩
theorem Sl.note {zs : List Rn} {n : Nt} {A1 A2 A3 : Option Addr} {n1 n2 n3 c1 c2 c3 : Nat} (h : Sl W B v zs) (hb : Blk W g (noteRow n A1 A2 A3 n1 n2 n3 c1 c2 c3) t) (cs : Array Value) : Sl (W.setRow g cs) B v zs := by
  obtain ⟨A, c, hv, hn, hok, hA⟩ := h
  refine ⟨A, c, hv, hn, hok, fun hz => ?_⟩
  obtain ⟨b, off, hA1, hB, hc⟩ := hA hz
  refine ⟨b, off, hA1, hB, fun j x hx => ?_⟩
  obtain ⟨h0, h1, h2⟩ := hc j x hx
  by_cases hbg : b = g
  · subst hbg
    rw [cell_in hb] at h0 h1 h2
    exact (run_in_note h0 h1 h2).elim
  · exact ⟨(cell_other _ hbg).trans h0, (cell_other _ hbg).trans h1, (cell_other _ hbg).trans h2⟩
theorem ESl.row {zs : List En} (h : ESl W B v zs) (hne : ∀ b o x, EnAt W b o x → b ≠ g) (cs : Array Value) : ESl (W.setRow g cs) B v zs := by
  obtain ⟨A, c, hv, hn, hok, hA⟩ := h
  refine ⟨A, c, hv, hn, hok, fun hz => ?_⟩
  obtain ⟨b, off, hA1, hB, hc⟩ := hA hz
  refine ⟨b, off, hA1, hB, fun j x hx i u hu => ?_⟩
  exact (cell_other _ (hne b _ x (hc j x hx))).trans (hc j x hx i u hu)
theorem ESl.rep {zs : List En} {r : Rp} {A1 A2 A3 : Option Addr} {n1 n2 n3 c1 c2 c3 : Nat} (h : ESl W B v zs) (hb : Blk W g (repRow r A1 A2 A3 n1 n2 n3 c1 c2 c3) t) (cs : Array Value) : ESl (W.setRow g cs) B v zs :=
  h.row (fun b o x he hbg => by
    subst hbg
    have h4 := he 4 (.int .i64 x.kind) rfl
    rw [cell_in hb] at h4
    exact ent_in_rep h4) cs
theorem ESl.note {zs : List En} {n : Nt} {A1 A2 A3 : Option Addr} {n1 n2 n3 c1 c2 c3 : Nat} (h : ESl W B v zs) (hb : Blk W g (noteRow n A1 A2 A3 n1 n2 n3 c1 c2 c3) t) (cs : Array Value) : ESl (W.setRow g cs) B v zs :=
  h.row (fun b o x he hbg => by
    subst hbg
    have h4 := he 4 (.int .i64 x.kind) rfl
    rw [cell_in hb] at h4
    exact ent_in_note h4) cs
/-- entries of the call's own, when another block is stored into -/
theorem EOwn.row {zs : List En} {base : Nat} {cs0 : Array Value} (h : EOwn W base v zs) (hb : Blk W g cs0 t) (ht : t ≠ 62) (cs : Array Value) : EOwn (W.setRow g cs) base v zs := by
  refine ⟨h.1, ?_⟩
  rcases h.2 with hn | ⟨k, cap, cur, hv, hb', hg, r⟩
  · exact .inl hn
  · refine .inr ⟨k, cap, cur, hv, hb', (setRow_other W g k cs ?_).trans hg, r⟩
    rintro rfl
    have := hb.at_.symm.trans hg
    simp at this
    exact ht this.2
theorem RpV.rep {B : Nat} {u : Value} {x r q : Rp} {A1 A2 A3 A1' A2' A3' : Option Addr} {n1 n2 n3 c1 c2 c3 n1' n2' n3' c1' c2' c3' : Nat} (h : RpV W B u x) (hb : Blk W g (repRow r A1 A2 A3 n1 n2 n3 c1 c2 c3) t)
    (e1 : q.flt = r.flt) (e2 : q.epoch = r.epoch) (e3 : q.seq = r.seq) : RpV (W.setRow g (repRow q A1' A2' A3' n1' n2' n3' c1' c2' c3')) B u x := by
  obtain ⟨vk, vh, vo, hv, h1, h2, h3, ho⟩ := h
  exact ⟨vk, vh, vo, hv, h1.rep hb e1 e2 e3, h2.rep hb _, h3.rep hb e1 e2 e3, ho⟩
theorem RpV.note {B : Nat} {u : Value} {x : Rp} {n : Nt} {A1 A2 A3 : Option Addr} {n1 n2 n3 c1 c2 c3 : Nat} (h : RpV W B u x) (hb : Blk W g (noteRow n A1 A2 A3 n1 n2 n3 c1 c2 c3) t) (cs : Array Value) : RpV (W.setRow g cs) B u x := by
  obtain ⟨vk, vh, vo, hv, h1, h2, h3, ho⟩ := h
  exact ⟨vk, vh, vo, hv, h1.note hb cs, h2.note hb cs, h3.note hb cs, ho⟩
theorem NtV.rep {B : Nat} {u : Value} {x : Nt} {r q : Rp} {A1 A2 A3 A1' A2' A3' : Option Addr} {n1 n2 n3 c1 c2 c3 n1' n2' n3' c1' c2' c3' : Nat} (h : NtV W B u x) (hb : Blk W g (repRow r A1 A2 A3 n1 n2 n3 c1 c2 c3) t)
    (e1 : q.flt = r.flt) (e2 : q.epoch = r.epoch) (e3 : q.seq = r.seq) : NtV (W.setRow g (repRow q A1' A2' A3' n1' n2' n3' c1' c2' c3')) B u x := by
  obtain ⟨vk, vh, vo, hv, h1, h2, h3, ho⟩ := h
  exact ⟨vk, vh, vo, hv, h1.rep hb e1 e2 e3, h2.rep hb _, h3.rep hb e1 e2 e3, ho⟩
theorem NtV.note {B : Nat} {u : Value} {x n : Nt} {A1 A2 A3 : Option Addr} {n1 n2 n3 c1 c2 c3 : Nat} (h : NtV W B u x) (hb : Blk W g (noteRow n A1 A2 A3 n1 n2 n3 c1 c2 c3) t) (cs : Array Value) : NtV (W.setRow g cs) B u x := by
  obtain ⟨vk, vh, vo, hv, h1, h2, h3, ho⟩ := h
  exact ⟨vk, vh, vo, hv, h1.note hb cs, h2.note hb cs, h3.note hb cs, ho⟩
end
end Go.Proofs.YtfjaeohfigcciabGreatDoor

namespace Go.Proofs.YtfjaeohfigcciabGreatDoor
open Go.RowKit

/-- three lists' addresses and rooms -/
structure Ls where
  (a b c : Option Addr)
  (i j k : Nat)
def repR (r : Rp) (l : Ls) : Array Value := repRow r l.a l.b l.c r.know.length r.held.length r.ses.offer.length l.i l.j l.k
def noteR (n : Nt) (l : Ls) : Array Value := noteRow n l.a l.b l.c n.know.length n.ents.length n.offer.length l.i l.j l.k
theorem RpV.rows {W : World} {B : Nat} {v : Value} {r : Rp} (h : RpV W B v r) : ∃ l, v = .agg (repR r l) := by
  obtain ⟨a, b, c, rfl, ⟨A1, c1, rfl, _⟩, ⟨A2, c2, rfl, _⟩, ⟨A3, c3, rfl, _⟩, _⟩ := h
  exact ⟨⟨A1, A2, A3, c1, c2, c3⟩, rfl⟩
theorem NtV.rows {W : World} {B : Nat} {v : Value} {n : Nt} (h : NtV W B v n) : ∃ l, v = .agg (noteR n l) := by
  obtain ⟨a, b, c, rfl, ⟨A1, c1, rfl, _⟩, ⟨A2, c2, rfl, _⟩, ⟨A3, c3, rfl, _⟩, _⟩ := h
  exact ⟨⟨A1, A2, A3, c1, c2, c3⟩, rfl⟩
/-- a replica in a block of its own -/
structure RpIn (W : World) (g : Nat) (x : Rp) (l : Ls) : Prop where
  blk : Blk W g (repR x l) 28
  val : RpV W W.heap.size (.agg (repR x l)) x
structure NtIn (W : World) (g : Nat) (y : Nt) (l : Ls) : Prop where
  blk : Blk W g (noteR y l) 30
  val : NtV W W.heap.size (.agg (noteR y l)) y
theorem RpIn.keep {W W' : World} {g : Nat} {x : Rp} {l : Ls} (h : RpIn W g x l) (hb : Below W.heap.size W W') : RpIn W' g x l := ⟨h.blk.keep hb, h.val.later hb⟩
theorem NtIn.keep {W W' : World} {g : Nat} {y : Nt} {l : Ls} (h : NtIn W g y l) (hb : Below W.heap.size W W') : NtIn W' g y l := ⟨h.blk.keep hb, h.val.later hb⟩
theorem RpIn.new {W W' : World} {g : Nat} {x : Rp} {l : Ls} (hb : Blk W' g (repR x l) 28) (hv : RpV W W.heap.size (.agg (repR x l)) x) (h : Below W.heap.size W W') : RpIn W' g x l := ⟨hb, hv.later h⟩
theorem NtIn.new {W W' : World} {g : Nat} {x : Nt} {l : Ls} (hb : Blk W' g (noteR x l) 30) (hv : NtV W W.heap.size (.agg (noteR x l)) x) (h : Below W.heap.size W W') : NtIn W' g x l := ⟨hb, hv.later h⟩
end Go.Proofs.YtfjaeohfigcciabGreatDoor

namespace Go.Proofs.YtfjaeohfigcciabGreatDoor
open Go.RowKit

def refV : Option Int → Value
  | none => .nilIface
  | some c => .iface 74 (.int .i64 c)
set_option maxHeartbeats 8000000 in
set_option maxRecDepth 100000 in
theorem rClone_any (v : Value) (zs : List Rn) (w : World) (h : Sl w w.heap.size v zs) (hl : zs.length ≤ 10000) : Calls Tryz.prog 70 #[v] w fun e w' => ∃ v', e = .returned v' ∧ Own w' w.heap.size v' zs ∧ Below w.heap.size w w' := by
  have q22 : ∀ (w : World) (a : Option Addr) (n c n' c' : Nat), (binOp .eql 23 (.slice a n c) (.slice none n' c')).run Tryz.prog w = .ok (.bool a.isNone) w := fun w a n c n' c' => Lib.run_eql_slice_nil w _ _ a n c n' c' Tryz.underlying23
  have HS := Lib.hid h
  obtain ⟨A, c, rfl, hn, hok, hA⟩ := h
  rcases A with _ | ad
  · have hy : zs = [] := by
      by_cases hne : zs = []
      · exact hne
      · obtain ⟨b, off, h, _⟩ := hA hne
        cases h
    subst hy
    obtain rfl := hn rfl
    clear hn hok hA
    go_enter Tryz.func70, Tryz.ntmps70
    go_wp2
    go_ret
    exact ⟨_, rfl, Own.nil _ _, Below.refl _ _⟩
  · clear hA hn hok
    have hown : Own (w.alloc (.cells #[] 67)) w.heap.size (.slice (some ⟨w.heap.size, 0, none⟩) 0 0) [] := World.ownsRow_made w #[] 0 (Nat.le_refl _) (Nat.zero_le _) (by simp)
    have HO := Lib.hid hown; clear hown
    have HAL := Lib.hid (al1 w (.cells #[] 67))
    go_enter Tryz.func70, Tryz.ntmps70
    go_wp2_with (at_builtin; (refine append_runs rfl _ _ rfl w.heap.size _ [] rfl HO.out _ _ zs rfl (HS.out.below HAL.out) (by simp; omega) (by simp) ?_); intro v1 w1 ho1 hg1)
    rw [List.nil_append] at ho1
    have HO1 := Lib.hid ho1; clear ho1
    have HG1 := Lib.hid hg1; clear hg1
    go_wp2
    go_ret
    exact ⟨v1, rfl, HO1.out, HAL.out.grown HG1.out (by simp) (fun k hk => by have := HO.out.lt k hk; omega)⟩

end Go.Proofs.YtfjaeohfigcciabGreatDoor

