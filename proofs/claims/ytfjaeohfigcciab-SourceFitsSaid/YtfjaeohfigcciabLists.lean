/- Replicas and notes whose lists' addresses are given; blocks that hold them. -/
import Derived.Test.YtfjaeohfigcciabTFMem
import Derived.Test.YtfjaeohfigcciabZd
namespace Go.Proofs.Ytfjaeohfigcciab
open Go.RowKit

/-- three lists' addresses and rooms -/
structure Ls where
  (a b c : Option Addr)
  (i j k : Nat)
def repR (r : Rp) (l : Ls) : Array Value := repRow r l.a l.b l.c r.know.length r.held.length r.ses.offer.length l.i l.j l.k
def noteR (n : Nt) (l : Ls) : Array Value := noteRow n l.a l.b l.c n.know.length n.ents.length n.offer.length l.i l.j l.k
theorem RpV.rows {W : World} {B : Nat} {v : Value} {r : Rp} (h : RpV W B v r) : ∃ l, v = .agg (repR r l) := by
  obtain ⟨a, b, c, rfl, ⟨A1, c1, rfl, _⟩, ⟨A2, c2, rfl, _⟩, ⟨A3, c3, rfl, _⟩, _⟩ := h
  exact ⟨⟨A1, A2, A3, c1, c2, c3⟩, rfl⟩
theorem NtV.rows {W : World} {B : Nat} {v : Value} {n : Nt} (h : NtV W B v n) : ∃ l, v = .agg (noteR n l) := by
  obtain ⟨a, b, c, rfl, ⟨A1, c1, rfl, _⟩, ⟨A2, c2, rfl, _⟩, ⟨A3, c3, rfl, _⟩, _⟩ := h
  exact ⟨⟨A1, A2, A3, c1, c2, c3⟩, rfl⟩
/-- a replica in a block of its own -/
structure RpIn (W : World) (g : Nat) (x : Rp) (l : Ls) : Prop where
  blk : Blk W g (repR x l) 28
  val : RpV W W.heap.size (.agg (repR x l)) x
structure NtIn (W : World) (g : Nat) (y : Nt) (l : Ls) : Prop where
  blk : Blk W g (noteR y l) 30
  val : NtV W W.heap.size (.agg (noteR y l)) y
theorem RpIn.keep {W W' : World} {g : Nat} {x : Rp} {l : Ls} (h : RpIn W g x l) (hb : Below W.heap.size W W') : RpIn W' g x l := ⟨h.blk.keep hb, h.val.later hb⟩
theorem NtIn.keep {W W' : World} {g : Nat} {y : Nt} {l : Ls} (h : NtIn W g y l) (hb : Below W.heap.size W W') : NtIn W' g y l := ⟨h.blk.keep hb, h.val.later hb⟩
theorem RpIn.new {W W' : World} {g : Nat} {x : Rp} {l : Ls} (hb : Blk W' g (repR x l) 28) (hv : RpV W W.heap.size (.agg (repR x l)) x) (h : Below W.heap.size W W') : RpIn W' g x l := ⟨hb, hv.later h⟩
theorem NtIn.new {W W' : World} {g : Nat} {x : Nt} {l : Ls} (hb : Blk W' g (noteR x l) 30) (hv : NtV W W.heap.size (.agg (noteR x l)) x) (h : Below W.heap.size W W') : NtIn W' g x l := ⟨hb, hv.later h⟩
/-- a slice of entries of the call's own has grown -/
theorem blk_grown {W W' : World} {base g : Nat} {tv : Value} {zs : List En} {cs : Array Value} {t : TypeId} (h : Blk W g cs t) (ht : t ≠ 43) (ho : EOwn W base tv zs) (hg : W.grownBy W' tv.ownBlock) : Blk W' g cs t := by
  refine ⟨(hg.block g h.lt fun e => ?_).trans h.at_⟩
  rcases ho.2 with ⟨hv, _⟩ | ⟨k, cap, cur, hv, _, hk, _⟩
  · rw [hv] at e; simp [Value.ownBlock] at e
  · rw [hv] at e
    simp [Value.ownBlock] at e
    subst e
    have := h.at_.symm.trans hk
    simp at this
    exact ht this.2
end Go.Proofs.Ytfjaeohfigcciab

