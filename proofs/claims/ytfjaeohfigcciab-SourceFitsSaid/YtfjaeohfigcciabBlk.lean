/- Blocks that hold given cells, from world to world. -/
import Derived.Test.YtfjaeohfigcciabZc
import Derived.Laws.Rows
import Derived.Laws.Tables
namespace Go.Proofs.Ytfjaeohfigcciab
open Go.RowKit

/-- a block that holds those cells -/
structure Blk (W : World) (g : Nat) (cs : Array Value) (t : TypeId) : Prop where
  at_ : W.heap[g]? = some (.cells cs t (0, 0))
theorem Blk.lt {W : World} {g : Nat} {cs : Array Value} {t : TypeId} (h : Blk W g cs t) : g < W.heap.size := (Array.getElem?_eq_some_iff.1 h.at_).1
theorem Blk.new (w : World) (cs : Array Value) (t : TypeId) : Blk (w.alloc (.cells cs t)) w.heap.size cs t := ⟨heap_alloc_new w _⟩
theorem Blk.keep {W W' : World} {g : Nat} {cs : Array Value} {t : TypeId} (h : Blk W g cs t) (hb : Below W.heap.size W W') : Blk W' g cs t := ⟨(hb.block g h.lt).trans h.at_⟩
theorem Blk.alloc {W : World} {g : Nat} {cs : Array Value} {t : TypeId} (h : Blk W g cs t) (o : Obj) : Blk (W.alloc o) g cs t := h.keep (al1 W o)
theorem Blk.cell {W : World} {g : Nat} {cs : Array Value} {t : TypeId} (h : Blk W g cs t) (j : Nat) (u : Value) (hu : cs[j]? = some u) : W.cell? ⟨g, j, none⟩ = some u := (cell_of_row W g j cs _ _ h.at_).trans hu

theorem blk_two (w : World) (a : Obj) (cs : Array Value) (t : TypeId) : Blk ((w.alloc a).alloc (.cells cs t)) (w.heap.size + 1) cs t := by
  have h := Blk.new (w.alloc a) cs t
  have e : (w.alloc a).heap.size = w.heap.size + 1 := by simp
  rw [e] at h
  exact h
theorem al3 (w : World) (a b c : Obj) : Below w.heap.size w (((w.alloc a).alloc b).alloc c) := (al2 w a b).trans ((al1 _ c).mono (al2 w a b).size)
theorem blk_three (w : World) (a : Array Value) (ta : TypeId) (b : Array Value) (tb : TypeId) (c : Array Value) (tc : TypeId) :
    Blk (((w.alloc (.cells a ta)).alloc (.cells b tb)).alloc (.cells c tc)) w.heap.size a ta ∧ Blk (((w.alloc (.cells a ta)).alloc (.cells b tb)).alloc (.cells c tc)) (w.heap.size + 1) b tb ∧ Blk (((w.alloc (.cells a ta)).alloc (.cells b tb)).alloc (.cells c tc)) (w.heap.size + 1 + 1) c tc := by
  refine ⟨((Blk.new w a ta).alloc _).alloc _, (blk_two w _ b tb).alloc _, ?_⟩
  have h := blk_two (w.alloc (.cells a ta)) (.cells b tb) c tc
  have e : (w.alloc (.cells a ta)).heap.size = w.heap.size + 1 := by simp
  rw [e] at h
  exact h

theorem Blk.row {W : World} {g : Nat} {cs : Array Value} {t : TypeId} (h : Blk W g cs t) (cs' : Array Value) : Blk (W.setRow g cs') g cs' t := ⟨setRow_heap W g cs cs' t (0, 0) h.at_⟩
theorem Blk.other {W : World} {g k : Nat} {cs : Array Value} {t : TypeId} (h : Blk W g cs t) (hne : g ≠ k) (cs' : Array Value) : Blk (W.setRow k cs') g cs t := ⟨(setRow_other W k g cs' hne).trans h.at_⟩
theorem al4 (w : World) (a b c d : Obj) : Below w.heap.size w ((((w.alloc a).alloc b).alloc c).alloc d) := (al3 w a b c).trans ((al1 _ d).mono (al3 w a b c).size)
theorem blk_four (w : World) (a : Array Value) (ta : TypeId) (b : Array Value) (tb : TypeId) (c : Array Value) (tc : TypeId) (d : Array Value) (td : TypeId) :
    Blk ((((w.alloc (.cells a ta)).alloc (.cells b tb)).alloc (.cells c tc)).alloc (.cells d td)) w.heap.size a ta ∧ Blk ((((w.alloc (.cells a ta)).alloc (.cells b tb)).alloc (.cells c tc)).alloc (.cells d td)) (w.heap.size + 1) b tb ∧
      Blk ((((w.alloc (.cells a ta)).alloc (.cells b tb)).alloc (.cells c tc)).alloc (.cells d td)) (w.heap.size + 1 + 1) c tc ∧ Blk ((((w.alloc (.cells a ta)).alloc (.cells b tb)).alloc (.cells c tc)).alloc (.cells d td)) (w.heap.size + 1 + 1 + 1) d td := by
  obtain ⟨h1, h2, h3⟩ := blk_three w a ta b tb c tc
  refine ⟨h1.alloc _, h2.alloc _, h3.alloc _, ?_⟩
  have h := Blk.new (((w.alloc (.cells a ta)).alloc (.cells b tb)).alloc (.cells c tc)) d td
  have e : (((w.alloc (.cells a ta)).alloc (.cells b tb)).alloc (.cells c tc)).heap.size = w.heap.size + 1 + 1 + 1 := by simp
  rw [e] at h
  exact h
theorem Blk.free {W : World} {g : Nat} {cs : Array Value} {t : TypeId} (h : Blk W g cs t) (j : Nat) : W.frozen? ⟨g, j, none⟩ = false := by
  simp [World.frozen?, h.at_]
theorem enc_int (x : En) (i : Nat) (A : Option Addr) (a c : Nat) : x.enc[i]? ≠ some (.slice A a c) := by
  match i with
  | 0 => simp [En.enc]
  | 1 => simp [En.enc]
  | 2 => simp [En.enc]
  | 3 => simp [En.enc]
  | 4 => simp [En.enc]
  | 5 => simp [En.enc]
  | 6 => simp [En.enc]
  | i + 7 => simp [En.enc]
/-- an entry does not lie in a note's own block -/
theorem note_apart {W : World} {g : Nat} {cs : Array Value} {t : TypeId} {b o : Nat} {x : En} {A : Option Addr} {a c : Nat} (h : Blk W g cs t) (hs : cs.size = 12) (h6 : cs[6]? = some (.slice A a c)) (he : EnAt W b o x) : b ≠ g := by
  rintro rfl
  have key : ∀ i, i < 7 → cs[o + i]? = x.enc[i]? := fun i hi => by
    have hu : x.enc[i]? = some (x.enc[i]'(by rw [enc_length]; exact hi)) := List.getElem?_eq_getElem _
    rw [hu, ← cell_of_row W b (o + i) cs t (0, 0) h.at_]
    exact he i _ hu
  by_cases ho : o ≤ 6
  · have := key (6 - o) (by omega)
    rw [show o + (6 - o) = 6 by omega, h6] at this
    exact enc_int x _ A a c this.symm
  · have h1 := key 6 (by omega)
    rw [Array.getElem?_eq_none (by omega)] at h1
    simp [En.enc] at h1
/-- a store into another block -/
theorem ESl.set {W : World} {B : Nat} {v u : Value} {zs : List En} {g j : Nat} (h : ESl W B v zs) (hne : ∀ b o x, x ∈ zs → EnAt W b o x → b ≠ g) : ESl (W.setCell ⟨g, j, none⟩ u) B v zs := by
  obtain ⟨A, c, hv, hn, hok, hA⟩ := h
  refine ⟨A, c, hv, hn, hok, fun hz => ?_⟩
  obtain ⟨b, off, hA1, hb, hc⟩ := hA hz
  refine ⟨b, off, hA1, hb, fun k x hx i y hy => ?_⟩
  have hbg := hne b _ x (List.mem_of_getElem? hx) (hc k x hx)
  rw [World.cell?_setCell_other _ _ _ _ (by intro hc; exact hbg (congrArg Addr.block hc).symm)]
  exact hc k x hx i y hy
/-- what is left of a slice behind its first ones -/
theorem ESl.tail {W : World} {B b off len c d : Nat} {zs : List En} (h : ESl W B (.slice (some ⟨b, off, none⟩) len c) zs) (hd : d < zs.length) : ESl W B (.slice (some ⟨b, off + d * 7, none⟩) (len - d) (c - d)) (zs.drop d) := by
  obtain ⟨A, c', hv, hn, hok, hA⟩ := h
  injection hv with h1 h2 h3
  subst h1 h2 h3
  obtain ⟨b', off', hA1, hb, hc⟩ := hA (by intro h; rw [h] at hd; simp at hd)
  injection hA1 with hA1
  injection hA1 with e1 e2 e3
  subst e1 e2
  refine ⟨_, c - d, by rw [List.length_drop], ⟨(fun h => by cases h), by have := hn.2; rw [List.length_drop]; omega⟩, fun x hx => hok x (List.mem_of_mem_drop hx), fun _ => ⟨b, off + d * 7, rfl, hb, fun j x hj => ?_⟩⟩
  rw [List.getElem?_drop] at hj
  have := hc (d + j) x hj
  rw [show off + (d + j) * 7 = off + d * 7 + j * 7 by rw [Nat.add_mul]; omega] at this
  exact this
end Go.Proofs.Ytfjaeohfigcciab

