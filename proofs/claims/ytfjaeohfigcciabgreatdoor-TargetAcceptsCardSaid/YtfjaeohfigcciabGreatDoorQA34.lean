/- Texts in one: TFMath, TFRel. -/
import Derived.Test.YtfjaeohfigcciabGreatDoorQA23
import Derived.Test.YtfjaeohfigcciabGreatDoorQA02
import Derived.Test.YtfjaeohfigcciabGreatDoorQA09
import Derived.Test.YtfjaeohfigcciabGreatDoorQA32
import Derived.Test.YtfjaeohfigcciabGreatDoorQA29
import Derived.Test.YtfjaeohfigcciabGreatDoorQA17
set_option linter.all false
namespace Go.Proofs.YtfjaeohfigcciabGreatDoor

def dueAll (r s : Rp) : List En := dueL s.held r.know 0
end Go.Proofs.YtfjaeohfigcciabGreatDoor

namespace Go.Proofs.YtfjaeohfigcciabGreatDoor
open Go.RowKit

theorem RpIn.grown {W W' : World} {base g : Nat} {tv : Value} {zs : List En} {x : Rp} {l : Ls} (h : RpIn W g x l) (ho : EOwn W base tv zs) (hg : W.grownBy W' tv.ownBlock) (ha : RpAv (fun k => tv.ownBlock ≠ some k) (.agg (repR x l)) x) : RpIn W' g x l :=
  ⟨blk_grown h.blk (by decide) ho hg,(h.val.grown hg ha (Nat.le_refl _)).more hg.size⟩
theorem NtIn.grown {W W' : World} {base g : Nat} {tv : Value} {zs : List En} {x : Nt} {l : Ls} (h : NtIn W g x l) (ho : EOwn W base tv zs) (hg : W.grownBy W' tv.ownBlock) (ha : NtAv (fun k => tv.ownBlock ≠ some k) (.agg (noteR x l)) x) : NtIn W' g x l :=
  ⟨blk_grown h.blk (by decide) ho hg,(h.val.grown hg ha (Nat.le_refl _)).more hg.size⟩
theorem RpAv.next {W : World} {B : Nat} {tv tv' v : Value} {x : Rp} (h : RpAv (fun k => tv.ownBlock ≠ some k) v x) (hv : RpV W B v x) (hk : ∀ k,tv'.ownBlock = some k → tv.ownBlock = some k ∨ B ≤ k) : RpAv (fun k => tv'.ownBlock ≠ some k) v x :=
  (h.and hv.av).mono fun k hh e => by
    rcases hk k e with h1 | h1
    · exact hh.1 h1
    · have := hh.2; omega
theorem NtAv.next {W : World} {B : Nat} {tv tv' v : Value} {x : Nt} (h : NtAv (fun k => tv.ownBlock ≠ some k) v x) (hv : NtV W B v x) (hk : ∀ k,tv'.ownBlock = some k → tv.ownBlock = some k ∨ B ≤ k) : NtAv (fun k => tv'.ownBlock ≠ some k) v x :=
  (h.and hv.av).mono fun k hh e => by
    rcases hk k e with h1 | h1
    · exact hh.1 h1
    · have := hh.2; omega
theorem ESl.next {W : World} {B : Nat} {tv tv' v : Value} {zs : List En} (h : Av (fun k => tv.ownBlock ≠ some k) v zs) (hv : ESl W B v zs) (hk : ∀ k,tv'.ownBlock = some k → tv.ownBlock = some k ∨ B ≤ k) : Av (fun k => tv'.ownBlock ≠ some k) v zs :=
  (h.and hv.av).mono fun k hh e => by
    rcases hk k e with h1 | h1
    · exact hh.1 h1
    · have := hh.2; omega
theorem RpAv.free {W : World} {base : Nat} {tv v : Value} {zs : List En} {x : Rp} (ho : EOwn W base tv zs) (h : RpAv (fun k => tv.ownBlock ≠ some k ∨ W.heap.size ≤ k) v x) : RpAv (fun k => tv.ownBlock ≠ some k) v x :=
  h.mono fun k hh e => by
    rcases hh with h1 | h1
    · exact h1 e
    · have := (ho.lt k e).2; omega
theorem NtAv.free {W : World} {base : Nat} {tv v : Value} {zs : List En} {x : Nt} (ho : EOwn W base tv zs) (h : NtAv (fun k => tv.ownBlock ≠ some k ∨ W.heap.size ≤ k) v x) : NtAv (fun k => tv.ownBlock ≠ some k) v x :=
  h.mono fun k hh e => by
    rcases hh with h1 | h1
    · exact h1 e
    · have := (ho.lt k e).2; omega

structure FMem (w : World) (g : Nat) (r s : Rp) (ls : Ls) (dv : Value) (wr : World) (x : Rp) (y : Nt) (told : List En) (tv : Value) (lx ly : Ls) : Prop where
  b5 : RpIn wr g x lx
  b6 : NtIn wr (g + 1) y ly
  bs : RpIn wr (w.heap.size + 1) s ls
  tv_ : EOwn wr w.heap.size tv told
  dv_ : ESl wr wr.heap.size dv (dueAll r s)
  a5 : RpAv (fun k => tv.ownBlock ≠ some k) (.agg (repR x lx)) x
  a6 : NtAv (fun k => tv.ownBlock ≠ some k) (.agg (noteR y ly)) y
  as_ : RpAv (fun k => tv.ownBlock ≠ some k) (.agg (repR s ls)) s
  ad : Av (fun k => tv.ownBlock ≠ some k) dv (dueAll r s)
  bel : Below w.heap.size w wr
  fl : x.flt = r.flt ∧ x.epoch = r.epoch ∧ x.seq = r.seq
section
variable {w : World} {g : Nat} {r s : Rp} {ls : Ls} {dv : Value} {wr wr' : World} {x q : Rp} {y m b : Nt} {told : List En} {tv tv' : Value} {lx ly lq lm lb : Ls}
theorem FMem.keep (h : FMem w g r s ls dv wr x y told tv lx ly) (hb : Below wr.heap.size wr wr') : FMem w g r s ls dv wr' x y told tv lx ly :=
  ⟨h.b5.keep hb,h.b6.keep hb,h.bs.keep hb,h.tv_.below hb,h.dv_.later hb,h.a5,h.a6,h.as_,h.ad,h.bel.trans (hb.mono h.bel.size),h.fl⟩
theorem FMem.step (h : FMem w g r s ls dv wr x y told tv lx ly)
    (hq : RpV wr wr.heap.size (.agg (repR q lq)) q) (hm : NtV wr wr.heap.size (.agg (noteR m lm)) m) (aq : RpAv (fun k => tv.ownBlock ≠ some k) (.agg (repR q lq)) q) (am : NtAv (fun k => tv.ownBlock ≠ some k) (.agg (noteR m lm)) m)
    (fl : q.flt = r.flt ∧ q.epoch = r.epoch ∧ q.seq = r.seq) (hgw : w.heap.size + 1 < g) :
    FMem w g r s ls dv ((wr.setRow g (repR q lq)).setRow (g + 1) (noteR m lm)) q m told tv lq lm := by
  have e1 : q.flt = x.flt := fl.1.trans h.fl.1.symm
  have e2 : q.epoch = x.epoch := fl.2.1.trans h.fl.2.1.symm
  have e3 : q.seq = x.seq := fl.2.2.trans h.fl.2.2.symm
  have b6 : Blk (wr.setRow g (repR q lq)) (g + 1) (noteR y ly) 30 := h.b6.blk.other (by omega) _
  have s2 : ((wr.setRow g (repR q lq)).setRow (g + 1) (noteR m lm)).heap.size = wr.heap.size := by simp
  have hg : w.heap.size ≤ g := by omega
  refine ⟨⟨(h.b5.blk.row _).other (by omega) _,?_⟩,⟨b6.row _,?_⟩,⟨(h.bs.blk.other (by omega) _).other (by omega) _,?_⟩,?_,?_,aq,am,h.as_,h.ad,below_setRow (below_setRow h.bel hg _) (by omega) _,fl⟩
  · rw [s2]; exact (hq.rep h.b5.blk e1 e2 e3).note b6 _
  · rw [s2]; exact (hm.rep h.b5.blk e1 e2 e3).note b6 _
  · rw [s2]; exact (h.bs.val.rep h.b5.blk e1 e2 e3).note b6 _
  · exact (h.tv_.row h.b5.blk (by decide) _).row b6 (by decide) _
  · rw [s2]; exact (h.dv_.rep h.b5.blk _).note b6 _
end
theorem NtIn.ents {W : World} {g : Nat} {b : Nt} {l : Ls} (h : NtIn W g b l) : ESl W W.heap.size (.slice l.b b.ents.length l.j) b.ents := by
  obtain ⟨a1,a2,a3,hv3,_,h7,_⟩ := h.val
  obtain ⟨_,rfl,_⟩ := note_cells_inj hv3
  exact h7
theorem RpIn.held {W : World} {g : Nat} {x : Rp} {l : Ls} (h : RpIn W g x l) : ESl W W.heap.size (.slice l.b x.held.length l.j) x.held := by
  obtain ⟨a1,a2,a3,hv3,_,h7,_⟩ := h.val
  obtain ⟨_,rfl,_⟩ := rep_cells_inj hv3
  exact h7
theorem ESl.at_ {W : World} {B n c k : Nat} {A : Option Addr} {zs : List En} {x : En} (h : ESl W B (.slice A n c) zs) (hx : zs[k]? = some x) : ∃ b off,A = some ⟨b,off,none⟩ ∧ b < B ∧ EnAt W b (off + k * 7) x := by
  obtain ⟨A',c',hv,_,_,hA⟩ := h
  injection hv with h1 h2 h3
  subst h1
  obtain ⟨b,off,hA1,hb,hc⟩ := hA (by rintro rfl; simp at hx)
  exact ⟨b,off,hA1,hb,hc k x hx⟩
theorem EOwn.at_ {W : World} {base n c k : Nat} {A : Option Addr} {zs : List En} {x : En} (h : EOwn W base (.slice A n c) zs) (hx : zs[k]? = some x) : ∃ g,A = some ⟨g,0,none⟩ ∧ g < W.heap.size ∧ EnAt W g (k * 7) x := by
  obtain ⟨A',c',hv,_,hA⟩ := h.form
  injection hv with h1 h2 h3
  subst h1
  obtain ⟨g,hA1,_,hlt⟩ := hA (by rintro rfl; simp at hx)
  subst hA1
  exact ⟨g,rfl,hlt,h.cell h2 hx⟩
end Go.Proofs.YtfjaeohfigcciabGreatDoor

