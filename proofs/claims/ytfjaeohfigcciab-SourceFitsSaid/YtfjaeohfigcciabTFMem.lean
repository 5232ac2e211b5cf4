/- Lists that lie in memory stay as they were when a replica's box, or a note's, is stored into: no entry can lie in one, nor a run in a note's; and a run that lay in a replica's is as it was, if its filter and numbers are. -/
import Derived.Test.YtfjaeohfigcciabZh
import Derived.Test.YtfjaeohfigcciabBlk
import Derived.Test.YtfjaeohfigcciabZg
namespace Go.Proofs.Ytfjaeohfigcciab
open Go.RowKit

def repRow (r : Rp) (A1 A2 A3 : Option Addr) (n1 n2 n3 c1 c2 c3 : Nat) : Array Value := r.cells (.slice A1 n1 c1) (.slice A2 n2 c2) (.slice A3 n3 c3)
def noteRow (n : Nt) (A1 A2 A3 : Option Addr) (n1 n2 n3 c1 c2 c3 : Nat) : Array Value := n.cells (.slice A1 n1 c1) (.slice A2 n2 c2) (.slice A3 n3 c3)

theorem run_in_rep {r : Rp} {A1 A2 A3 : Option Addr} {n1 n2 n3 c1 c2 c3 o : Nat} {x y z : Int} (h0 : (repRow r A1 A2 A3 n1 n2 n3 c1 c2 c3)[o]? = some (.int .u8 x)) (h1 : (repRow r A1 A2 A3 n1 n2 n3 c1 c2 c3)[o + 1]? = some (.int .u32 y))
    (h2 : (repRow r A1 A2 A3 n1 n2 n3 c1 c2 c3)[o + 2]? = some (.int .u32 z)) : o = 1 := by
  unfold repRow Rp.cells at h0 h1 h2
  match o with
  | 0 => simp at h1
  | 1 => rfl
  | 2 => simp at h0
  | 3 => simp at h0
  | 4 => simp at h0
  | 5 => simp at h0
  | 6 => simp at h0
  | 7 => simp at h0
  | 8 => simp at h1
  | 9 => simp at h2
  | 10 => simp at h0
  | 11 => simp at h0
  | 12 => simp at h0
  | o + 13 => simp at h0
theorem run_in_note {n : Nt} {A1 A2 A3 : Option Addr} {n1 n2 n3 c1 c2 c3 o : Nat} {x y z : Int} (h0 : (noteRow n A1 A2 A3 n1 n2 n3 c1 c2 c3)[o]? = some (.int .u8 x)) (h1 : (noteRow n A1 A2 A3 n1 n2 n3 c1 c2 c3)[o + 1]? = some (.int .u32 y))
    (h2 : (noteRow n A1 A2 A3 n1 n2 n3 c1 c2 c3)[o + 2]? = some (.int .u32 z)) : False := by
  unfold noteRow Nt.cells at h0 h1 h2
  match o with
  | 0 => simp at h0
  | 1 => simp at h1
  | 2 => simp at h2
  | 3 => simp at h0
  | 4 => simp at h1
  | 5 => simp at h1
  | 6 => simp at h0
  | 7 => simp at h0
  | 8 => simp at h0
  | 9 => simp at h1
  | 10 => simp at h0
  | 11 => simp at h0
  | o + 12 => simp at h0
theorem ent_in_rep {r : Rp} {A1 A2 A3 : Option Addr} {n1 n2 n3 c1 c2 c3 o : Nat} {x : Int} (h : (repRow r A1 A2 A3 n1 n2 n3 c1 c2 c3)[o]? = some (.int .i64 x)) : False := by
  unfold repRow Rp.cells at h
  match o with
  | 0 | 1 | 2 | 3 | 4 | 5 | 6 | 7 | 8 | 9 | 10 | 11 | 12 => simp at h
  | o + 13 => simp at h
theorem ent_in_note {n : Nt} {A1 A2 A3 : Option Addr} {n1 n2 n3 c1 c2 c3 o : Nat} {x : Int} (h : (noteRow n A1 A2 A3 n1 n2 n3 c1 c2 c3)[o + 1]? = some (.int .i64 x)) : False := by
  unfold noteRow Nt.cells at h
  match o with
  | 0 | 1 | 2 | 3 | 4 | 5 | 6 | 7 | 8 | 9 | 10 => simp at h
  | o + 11 => simp at h

theorem cell_other {W : World} {g b j : Nat} (cs : Array Value) (h : b ≠ g) : (W.setRow g cs).cell? ⟨b, j, none⟩ = W.cell? ⟨b, j, none⟩ := World.cell?_of_block (setRow_other W g b cs h)
theorem cell_in {W : World} {g j : Nat} {cs : Array Value} {t : TypeId} (h : Blk W g cs t) : W.cell? ⟨g, j, none⟩ = cs[j]? := cell_of_row W g j cs t (0, 0) h.at_

section
variable {W : World} {g B : Nat} {v : Value} {t : TypeId}
theorem Sl.rep {zs : List Rn} {r q : Rp} {A1 A2 A3 A1' A2' A3' : Option Addr} {n1 n2 n3 c1 c2 c3 n1' n2' n3' c1' c2' c3' : Nat} (h : Sl W B v zs) (hb : Blk W g (repRow r A1 A2 A3 n1 n2 n3 c1 c2 c3) t)
    (e1 : q.flt = r.flt) (e2 : q.epoch = r.epoch) (e3 : q.seq = r.seq) : Sl (W.setRow g (repRow q A1' A2' A3' n1' n2' n3' c1' c2' c3')) B v zs := by
  obtain ⟨A, c, hv, hn, hok, hA⟩ := h
  refine ⟨A, c, hv, hn, hok, fun hz => ?_⟩
  obtain ⟨b, off, hA1, hB, hc⟩ := hA hz
  refine ⟨b, off, hA1, hB, fun j x hx => ?_⟩
  obtain ⟨h0, h1, h2⟩ := hc j x hx
  by_cases hbg : b = g
  · subst hbg
    rw [cell_in hb] at h0 h1 h2
    have ho := run_in_rep h0 h1 h2
    have hb' := hb.row (repRow q A1' A2' A3' n1' n2' n3' c1' c2' c3')
    unfold RnAt
    rw [cell_in hb', cell_in hb', cell_in hb']
    rw [ho] at h0 h1 h2 ⊢
    unfold repRow Rp.cells at *
    simp at h0 h1 h2 ⊢
    exact ⟨by rw [e1]; exact h0, by rw [e2]; exact h1, by rw [e3]; exact h2⟩
  · exact ⟨(cell_other _ hbg).trans h0, (cell_other _ hbg).trans h1, (cell_other _ hbg).trans h2⟩
theorem Sl.note {zs : List Rn} {n : Nt} {A1 A2 A3 : Option Addr} {n1 n2 n3 c1 c2 c3 : Nat} (h : Sl W B v zs) (hb : Blk W g (noteRow n A1 A2 A3 n1 n2 n3 c1 c2 c3) t) (cs : Array Value) : Sl (W.setRow g cs) B v zs := by
  obtain ⟨A, c, hv, hn, hok, hA⟩ := h
  refine ⟨A, c, hv, hn, hok, fun hz => ?_⟩
  obtain ⟨b, off, hA1, hB, hc⟩ := hA hz
  refine ⟨b, off, hA1, hB, fun j x hx => ?_⟩
  obtain ⟨h0, h1, h2⟩ := hc j x hx
  by_cases hbg : b = g
  · subst hbg
    rw [cell_in hb] at h0 h1 h2
    exact (run_in_note h0 h1 h2).elim
  · exact ⟨(cell_other _ hbg).trans h0, (cell_other _ hbg).trans h1, (cell_other _ hbg).trans h2⟩
theorem ESl.row {zs : List En} (h : ESl W B v zs) (hne : ∀ b o x, EnAt W b o x → b ≠ g) (cs : Array Value) : ESl (W.setRow g cs) B v zs := by
  obtain ⟨A, c, hv, hn, hok, hA⟩ := h
  refine ⟨A, c, hv, hn, hok, fun hz => ?_⟩
  obtain ⟨b, off, hA1, hB, hc⟩ := hA hz
  refine ⟨b, off, hA1, hB, fun j x hx i u hu => ?_⟩
  exact (cell_other _ (hne b _ x (hc j x hx))).trans (hc j x hx i u hu)
theorem ESl.rep {zs : List En} {r : Rp} {A1 A2 A3 : Option Addr} {n1 n2 n3 c1 c2 c3 : Nat} (h : ESl W B v zs) (hb : Blk W g (repRow r A1 A2 A3 n1 n2 n3 c1 c2 c3) t) (cs : Array Value) : ESl (W.setRow g cs) B v zs :=
  h.row (fun b o x he hbg => by
    subst hbg
    have h4 := he 4 (.int .i64 x.kind) rfl
    rw [cell_in hb] at h4
    exact ent_in_rep h4) cs
theorem ESl.note {zs : List En} {n : Nt} {A1 A2 A3 : Option Addr} {n1 n2 n3 c1 c2 c3 : Nat} (h : ESl W B v zs) (hb : Blk W g (noteRow n A1 A2 A3 n1 n2 n3 c1 c2 c3) t) (cs : Array Value) : ESl (W.setRow g cs) B v zs :=
  h.row (fun b o x he hbg => by
    subst hbg
    have h4 := he 4 (.int .i64 x.kind) rfl
    rw [cell_in hb] at h4
    exact ent_in_note h4) cs
/-- entries of the call's own, when another block is stored into -/
theorem EOwn.row {zs : List En} {base : Nat} {cs0 : Array Value} (h : EOwn W base v zs) (hb : Blk W g cs0 t) (ht : t ≠ 43) (cs : Array Value) : EOwn (W.setRow g cs) base v zs := by
  refine ⟨h.1, ?_⟩
  rcases h.2 with hn | ⟨k, cap, cur, hv, hb', hg, r⟩
  · exact .inl hn
  · refine .inr ⟨k, cap, cur, hv, hb', (setRow_other W g k cs ?_).trans hg, r⟩
    rintro rfl
    have := hb.at_.symm.trans hg
    simp at this
    exact ht this.2
theorem RpV.rep {B : Nat} {u : Value} {x r q : Rp} {A1 A2 A3 A1' A2' A3' : Option Addr} {n1 n2 n3 c1 c2 c3 n1' n2' n3' c1' c2' c3' : Nat} (h : RpV W B u x) (hb : Blk W g (repRow r A1 A2 A3 n1 n2 n3 c1 c2 c3) t)
    (e1 : q.flt = r.flt) (e2 : q.epoch = r.epoch) (e3 : q.seq = r.seq) : RpV (W.setRow g (repRow q A1' A2' A3' n1' n2' n3' c1' c2' c3')) B u x := by
  obtain ⟨vk, vh, vo, hv, h1, h2, h3, ho⟩ := h
  exact ⟨vk, vh, vo, hv, h1.rep hb e1 e2 e3, h2.rep hb _, h3.rep hb e1 e2 e3, ho⟩
theorem RpV.note {B : Nat} {u : Value} {x : Rp} {n : Nt} {A1 A2 A3 : Option Addr} {n1 n2 n3 c1 c2 c3 : Nat} (h : RpV W B u x) (hb : Blk W g (noteRow n A1 A2 A3 n1 n2 n3 c1 c2 c3) t) (cs : Array Value) : RpV (W.setRow g cs) B u x := by
  obtain ⟨vk, vh, vo, hv, h1, h2, h3, ho⟩ := h
  exact ⟨vk, vh, vo, hv, h1.note hb cs, h2.note hb cs, h3.note hb cs, ho⟩
theorem NtV.rep {B : Nat} {u : Value} {x : Nt} {r q : Rp} {A1 A2 A3 A1' A2' A3' : Option Addr} {n1 n2 n3 c1 c2 c3 n1' n2' n3' c1' c2' c3' : Nat} (h : NtV W B u x) (hb : Blk W g (repRow r A1 A2 A3 n1 n2 n3 c1 c2 c3) t)
    (e1 : q.flt = r.flt) (e2 : q.epoch = r.epoch) (e3 : q.seq = r.seq) : NtV (W.setRow g (repRow q A1' A2' A3' n1' n2' n3' c1' c2' c3')) B u x := by
  obtain ⟨vk, vh, vo, hv, h1, h2, h3, ho⟩ := h
  exact ⟨vk, vh, vo, hv, h1.rep hb e1 e2 e3, h2.rep hb _, h3.rep hb e1 e2 e3, ho⟩
theorem NtV.note {B : Nat} {u : Value} {x n : Nt} {A1 A2 A3 : Option Addr} {n1 n2 n3 c1 c2 c3 : Nat} (h : NtV W B u x) (hb : Blk W g (noteRow n A1 A2 A3 n1 n2 n3 c1 c2 c3) t) (cs : Array Value) : NtV (W.setRow g cs) B u x := by
  obtain ⟨vk, vh, vo, hv, h1, h2, h3, ho⟩ := h
  exact ⟨vk, vh, vo, hv, h1.note hb cs, h2.note hb cs, h3.note hb cs, ho⟩
end
end Go.Proofs.Ytfjaeohfigcciab

