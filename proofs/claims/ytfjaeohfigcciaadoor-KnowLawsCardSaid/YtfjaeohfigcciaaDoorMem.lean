/- When a value is a slice that reads as a list of runs, and how that is carried from world to world. -/
import Derived.Test.YtfjaeohfigcciaaDoorPlain
import Derived.Below
import Derived.Laws.OwnMore
import Derived.Deep.Draws
import Derived.Sort.Grow
namespace Go.Proofs.YtfjaeohfigcciaaDoor
open Go.RowKit

/-- the cells of one run -/
def Rn.enc (x : Rn) : List Value := [.int .u8 x.r, .int .u32 x.lo, .int .u32 x.hi]

/-- a run lies at a place -/
def RnAt (w : World) (b o : Nat) (x : Rn) : Prop :=
  w.cell? ⟨b, o, none⟩ = some (.int .u8 x.r) ∧ w.cell? ⟨b, o + 1, none⟩ = some (.int .u32 x.lo) ∧ w.cell? ⟨b, o + 2, none⟩ = some (.int .u32 x.hi)

/-- v is a slice whose elements are zs, below block B -/
def Sl (w : World) (B : Nat) (v : Value) (zs : List Rn) : Prop :=
  ∃ A c, v = .slice A zs.length c ∧ (A = none → c = 0) ∧ (∀ x ∈ zs, x.ok) ∧ (zs ≠ [] → ∃ b off, A = some ⟨b, off, none⟩ ∧ b < B ∧ ∀ j x, zs[j]? = some x → RnAt w b (off + j * 3) x)

theorem RnAt.keep {w w' : World} {B b o : Nat} {x : Rn} (h : RnAt w b o x) (hb : Below B w w') (hB : b < B) : RnAt w' b o x := by
  obtain ⟨h0, h1, h2⟩ := h
  exact ⟨(hb.cell (p := ⟨b, o, none⟩) hB).trans h0, (hb.cell (p := ⟨b, o + 1, none⟩) hB).trans h1, (hb.cell (p := ⟨b, o + 2, none⟩) hB).trans h2⟩

theorem Sl.below {w w' : World} {B : Nat} {v : Value} {zs : List Rn} (h : Sl w B v zs) (hb : Below B w w') : Sl w' B v zs := by
  obtain ⟨A, c, hv, hn, hok, hA⟩ := h
  refine ⟨A, c, hv, hn, hok, fun hne => ?_⟩
  obtain ⟨b, off, rfl, hlt, hc⟩ := hA hne
  exact ⟨b, off, rfl, hlt, fun j x hj => (hc j x hj).keep hb hlt⟩
theorem Sl.more {w : World} {B B' : Nat} {v : Value} {zs : List Rn} (h : Sl w B v zs) (hB : B ≤ B') : Sl w B' v zs := by
  obtain ⟨A, c, hv, hn, hok, hA⟩ := h
  refine ⟨A, c, hv, hn, hok, fun hne => ?_⟩
  obtain ⟨b, off, rfl, hlt, hc⟩ := hA hne
  exact ⟨b, off, rfl, by omega, hc⟩
theorem Sl.nil (w : World) (B : Nat) : Sl w B (.slice none 0 0) [] := ⟨none, 0, rfl, fun _ => rfl, by simp, fun h => absurd rfl h⟩

/-- all that is old, in a world that has grown -/
theorem below_grow {B : Nat} (w : World) (n : Nat) (os : Array Obj) (hB : B ≤ w.heap.size) : Below B w (Sort.grow (w.drewN n) os) := by
  refine ⟨rfl, rfl, rfl, by simp [Sort.grow, World.drewN], fun i hi => ?_⟩
  show (w.heap ++ os)[i]? = w.heap[i]?
  rw [Array.getElem?_append_left (by omega)]

/-- the cells of runs, one behind the other -/
def flat (zs : List Rn) : List Value := zs.flatMap Rn.enc
theorem flat_length (zs : List Rn) : (flat zs).length = zs.length * 3 := by
  induction zs with
  | nil => rfl
  | cons x l ih => simp only [flat, List.flatMap_cons, List.length_append] at *; rw [ih]; simp [Rn.enc]; omega
theorem flat_append (zs ys : List Rn) : flat (zs ++ ys) = flat zs ++ flat ys := by simp [flat]
theorem flat_get (zs : List Rn) (j i : Nat) (x : Rn) (h : zs[j]? = some x) (hi : i < 3) : (flat zs)[j * 3 + i]? = x.enc[i]? := by
  induction zs generalizing j with
  | nil => simp at h
  | cons y l ih =>
    simp only [flat, List.flatMap_cons]
    match j, h with
    | 0, h =>
      simp at h; subst h
      rw [List.getElem?_append_left (by simp [Rn.enc]; omega)]
      congr 1; omega
    | j + 1, h =>
      rw [List.getElem?_append_right (by simp [Rn.enc]; omega)]
      have := ih j (by simpa using h)
      rw [← this]
      simp only [flat]
      congr 1
      simp [Rn.enc]; omega
theorem flat_one (x : Rn) : flat [x] = x.enc := by simp [flat]
theorem flat_one_cell (zs : List Rn) : ∀ u ∈ flat zs, u.oneCell' = true := by
  intro u hu
  simp only [flat, List.mem_flatMap] at hu
  obtain ⟨x, _, hx⟩ := hu
  simp only [Rn.enc, List.mem_cons, List.not_mem_nil, or_false] at hx
  rcases hx with rfl | rfl | rfl <;> rfl
theorem flat_set_hi (zs : List Rn) (j : Nat) (x : Rn) (q : Int) (h : zs[j]? = some x) : (flat zs).set (j * 3 + 2) (.int .u32 q) = flat (zs.set j ⟨x.r, x.lo, q⟩) := by
  induction zs generalizing j with
  | nil => simp at h
  | cons y l ih =>
    match j, h with
    | 0, h =>
      simp at h; subst h
      simp [flat, Rn.enc]
    | j + 1, h =>
      have := ih j (by simpa using h)
      simp only [flat, List.flatMap_cons, List.set_cons_succ] at *
      rw [← this]
      simp only [Rn.enc]
      rw [show (j + 1) * 3 + 2 = (j * 3 + 2) + 1 + 1 + 1 by omega]
      rfl

/-- v is a slice of the call's own, its elements zs, at block base or behind it -/
def Own (w : World) (base : Nat) (v : Value) (zs : List Rn) : Prop := w.ownsRow base 51 3 v zs.length (flat zs)
theorem Own.nil (w : World) (base : Nat) : Own w base (.slice none 0 0) [] := w.ownsRow_nil base 51 3
theorem Own.alloc {w : World} {base : Nat} {v : Value} {zs : List Rn} (h : Own w base v zs) (o : Obj) : Own (w.alloc o) base v zs := World.ownsRow.alloc h o
theorem Own.mono {w : World} {base base' : Nat} {v : Value} {zs : List Rn} (h : Own w base v zs) (hb : base' ≤ base) : Own w base' v zs := by
  refine ⟨h.1, ?_⟩
  rcases h.2 with hn | ⟨g, cap, cur, hv, hb', r⟩
  · exact .inl hn
  · exact .inr ⟨g, cap, cur, hv, by omega, r⟩
theorem Own.below {w w' : World} {base : Nat} {v : Value} {zs : List Rn} (h : Own w base v zs) (hb : Below w.heap.size w w') : Own w' base v zs := by
  refine ⟨h.1, ?_⟩
  rcases h.2 with hn | ⟨g, cap, cur, hv, hb', hg, r⟩
  · exact .inl hn
  · exact .inr ⟨g, cap, cur, hv, hb', (hb.block g (Array.getElem?_eq_some_iff.1 hg).1).trans hg, r⟩
theorem Own.lt {w : World} {base : Nat} {v : Value} {zs : List Rn} (h : Own w base v zs) : ∀ k, v.ownBlock = some k → base ≤ k ∧ k < w.heap.size := World.ownsRow.lt h
theorem Own.form {w : World} {base : Nat} {v : Value} {zs : List Rn} (h : Own w base v zs) : ∃ A c, v = .slice A zs.length c ∧ (A = none → c = 0) ∧ (zs ≠ [] → ∃ g, A = some ⟨g, 0, none⟩ ∧ base ≤ g ∧ g < w.heap.size) := by
  rcases h.2 with ⟨hv, hn⟩ | ⟨g, cap, cur, hv, hb', hg, r⟩
  · refine ⟨none, 0, ?_, fun _ => rfl, fun hne => ?_⟩
    · rw [hv, hn]
    · exact absurd (List.length_eq_zero_iff.1 hn) hne
  · exact ⟨_, cap, hv, (fun h => by simp at h), fun _ => ⟨g, rfl, hb', (Array.getElem?_eq_some_iff.1 hg).1⟩⟩
theorem Own.cell {w : World} {base g c n : Nat} {zs : List Rn} (h : Own w base (.slice (some ⟨g, 0, none⟩) n c) zs) (hn : n = zs.length) {j : Nat} {x : Rn} (hj : zs[j]? = some x) : RnAt w g (j * 3) x := by
  have hl : j < zs.length := (List.getElem?_eq_some_iff.1 hj).1
  subst hn
  have hc := fun i (hi : i < 3) => (World.ownsRow.cellAt h (j * 3 + i) (by omega)).trans (flat_get zs j i x hj hi)
  exact ⟨by have := hc 0 (by omega); simpa [Rn.enc] using this, by have := hc 1 (by omega); simpa [Rn.enc] using this, by have := hc 2 (by omega); simpa [Rn.enc] using this⟩
theorem Own.sl {w : World} {base : Nat} {v : Value} {zs : List Rn} (h : Own w base v zs) (hok : ∀ x ∈ zs, x.ok) : Sl w w.heap.size v zs := by
  obtain ⟨A, c, rfl, hn, hA⟩ := h.form
  refine ⟨A, c, rfl, hn, hok, fun hne => ?_⟩
  obtain ⟨g, rfl, _, hlt⟩ := hA hne
  exact ⟨g, 0, rfl, hlt, fun j x hj => by rw [Nat.zero_add]; exact h.cell rfl hj⟩
/-- one cell of the last field stored anew -/
theorem Own.set {w : World} {base g c n : Nat} {zs : List Rn} (h : Own w base (.slice (some ⟨g, 0, none⟩) n c) zs) (hn : n = zs.length) {j : Nat} {x : Rn} (hj : zs[j]? = some x) (q : Int) :
    Own (w.setCell ⟨g, j * 3 + 2, none⟩ (.int .u32 q)) base (.slice (some ⟨g, 0, none⟩) n c) (zs.set j ⟨x.r, x.lo, q⟩) ∧ w.grownBy (w.setCell ⟨g, j * 3 + 2, none⟩ (.int .u32 q)) (some g) := by
  subst hn
  have := World.ownsRow.stored h (j * 3 + 2) (.int .u32 q)
  rw [flat_set_hi zs j x q hj] at this
  refine ⟨?_, this.2⟩
  have h1 := this.1
  unfold Own
  rw [List.length_set]
  exact h1
theorem Own.frozen {w : World} {base g c n : Nat} {zs : List Rn} (h : Own w base (.slice (some ⟨g, 0, none⟩) n c) zs) (hn : n = zs.length) (j : Nat) : w.frozen? ⟨g, j, none⟩ = false := by
  subst hn
  exact World.ownsRow.frozenAt h j
end Go.Proofs.YtfjaeohfigcciaaDoor

