/- When a value is a slice that reads as a list of entries, and how that is carried from world to world; worlds that came later. -/
import Derived.Test.YtfjaeohfigcciaaDoorIPlain
import Derived.Below
import Derived.Laws.OwnMore
import Derived.Deep.Draws
import Derived.Deep.Quiet
import Derived.Deep.QuietTactic
import Derived.Sort.Grow
namespace Go.Proofs.YtfjaeohfigcciaaDoor
open Go.RowKit

/-- the cells of one entry -/
def En.enc (x : En) : List Value := [.int .u8 x.id, .int .u8 x.rep, .int .u32 x.seq, .int .u32 x.stamp, .int .i64 x.kind, .int .u8 x.cls, .int .u32 x.val]

/-- an entry lies at a place -/
def EnAt (w : World) (b o : Nat) (x : En) : Prop := ∀ i u, x.enc[i]? = some u → w.cell? ⟨b, o + i, none⟩ = some u

theorem EnAt.all {w : World} {b o : Nat} {x : En} (h : EnAt w b o x) : w.cell? ⟨b, o, none⟩ = some (.int .u8 x.id) ∧ w.cell? ⟨b, o + 1, none⟩ = some (.int .u8 x.rep) ∧ w.cell? ⟨b, o + 2, none⟩ = some (.int .u32 x.seq) ∧ w.cell? ⟨b, o + 3, none⟩ = some (.int .u32 x.stamp) ∧ w.cell? ⟨b, o + 4, none⟩ = some (.int .i64 x.kind) ∧ w.cell? ⟨b, o + 5, none⟩ = some (.int .u8 x.cls) ∧ w.cell? ⟨b, o + 6, none⟩ = some (.int .u32 x.val) :=
  ⟨h 0 _ rfl, h 1 _ rfl, h 2 _ rfl, h 3 _ rfl, h 4 _ rfl, h 5 _ rfl, h 6 _ rfl⟩
theorem EnAt.all0 {w : World} {b : Nat} {x : En} (h : EnAt w b 0 x) : w.cell? ⟨b, 0, none⟩ = some (.int .u8 x.id) ∧ w.cell? ⟨b, 1, none⟩ = some (.int .u8 x.rep) ∧ w.cell? ⟨b, 2, none⟩ = some (.int .u32 x.seq) ∧ w.cell? ⟨b, 3, none⟩ = some (.int .u32 x.stamp) ∧ w.cell? ⟨b, 4, none⟩ = some (.int .i64 x.kind) ∧ w.cell? ⟨b, 5, none⟩ = some (.int .u8 x.cls) ∧ w.cell? ⟨b, 6, none⟩ = some (.int .u32 x.val) := h.all
theorem EnAt.mk {w : World} {b o : Nat} {x : En} (h0 : w.cell? ⟨b, o, none⟩ = some (.int .u8 x.id)) (h1 : w.cell? ⟨b, o + 1, none⟩ = some (.int .u8 x.rep)) (h2 : w.cell? ⟨b, o + 2, none⟩ = some (.int .u32 x.seq)) (h3 : w.cell? ⟨b, o + 3, none⟩ = some (.int .u32 x.stamp)) (h4 : w.cell? ⟨b, o + 4, none⟩ = some (.int .i64 x.kind)) (h5 : w.cell? ⟨b, o + 5, none⟩ = some (.int .u8 x.cls)) (h6 : w.cell? ⟨b, o + 6, none⟩ = some (.int .u32 x.val)) : EnAt w b o x := by
  intro i u hu
  match i, hu with
  | 0, hu => simp [En.enc] at hu; subst hu; exact h0
  | 1, hu => simp [En.enc] at hu; subst hu; exact h1
  | 2, hu => simp [En.enc] at hu; subst hu; exact h2
  | 3, hu => simp [En.enc] at hu; subst hu; exact h3
  | 4, hu => simp [En.enc] at hu; subst hu; exact h4
  | 5, hu => simp [En.enc] at hu; subst hu; exact h5
  | 6, hu => simp [En.enc] at hu; subst hu; exact h6
  | i + 7, hu => simp [En.enc] at hu
theorem EnAt.keep {w w' : World} {B b o : Nat} {x : En} (h : EnAt w b o x) (hb : Below B w w') (hB : b < B) : EnAt w' b o x := fun i u hu => (hb.cell (p := ⟨b, o + i, none⟩) hB).trans (h i u hu)

/-- v is a slice whose elements are zs, below block B -/
def ESl (w : World) (B : Nat) (v : Value) (zs : List En) : Prop :=
  ∃ A c, v = .slice A zs.length c ∧ (A = none → c = 0) ∧ (∀ x ∈ zs, x.ok) ∧ (zs ≠ [] → ∃ b off, A = some ⟨b, off, none⟩ ∧ b < B ∧ ∀ j x, zs[j]? = some x → EnAt w b (off + j * 7) x)

theorem ESl.below {w w' : World} {B : Nat} {v : Value} {zs : List En} (h : ESl w B v zs) (hb : Below B w w') : ESl w' B v zs := by
  obtain ⟨A, c, hv, hn, hok, hA⟩ := h
  refine ⟨A, c, hv, hn, hok, fun hne => ?_⟩
  obtain ⟨b, off, rfl, hlt, hc⟩ := hA hne
  exact ⟨b, off, rfl, hlt, fun j x hj => (hc j x hj).keep hb hlt⟩
theorem ESl.more {w : World} {B B' : Nat} {v : Value} {zs : List En} (h : ESl w B v zs) (hB : B ≤ B') : ESl w B' v zs := by
  obtain ⟨A, c, hv, hn, hok, hA⟩ := h
  refine ⟨A, c, hv, hn, hok, fun hne => ?_⟩
  obtain ⟨b, off, rfl, hlt, hc⟩ := hA hne
  exact ⟨b, off, rfl, by omega, hc⟩
/-- .. in a world that came later -/
theorem ESl.later {w w' : World} {v : Value} {zs : List En} (h : ESl w w.heap.size v zs) (hb : Below w.heap.size w w') : ESl w' w'.heap.size v zs := (h.below hb).more hb.size
theorem ESl.nil (w : World) (B : Nat) : ESl w B (.slice none 0 0) [] := ⟨none, 0, rfl, fun _ => rfl, by simp, fun h => absurd rfl h⟩
theorem ESl.okAll {w : World} {B : Nat} {v : Value} {zs : List En} (h : ESl w B v zs) : ∀ x ∈ zs, x.ok := by
  obtain ⟨_, _, _, _, h, _⟩ := h
  exact h

/-- the cells of entries, one behind the other -/
def flatE (zs : List En) : List Value := zs.flatMap En.enc
theorem enc_length (x : En) : x.enc.length = 7 := rfl
theorem flatE_length (zs : List En) : (flatE zs).length = zs.length * 7 := by
  induction zs with
  | nil => rfl
  | cons x l ih => simp only [flatE, List.flatMap_cons, List.length_append] at *; rw [ih]; simp [En.enc]; omega
theorem flatE_append (zs ys : List En) : flatE (zs ++ ys) = flatE zs ++ flatE ys := by simp [flatE]
theorem flatE_cons (x : En) (ys : List En) : flatE (x :: ys) = x.enc ++ flatE ys := by simp [flatE]
theorem flatE_one (x : En) : flatE [x] = x.enc := by simp [flatE]
theorem flatE_take (zs : List En) (j : Nat) : flatE (zs.take j) = (flatE zs).take (j * 7) := by
  induction zs generalizing j with
  | nil => simp [flatE]
  | cons x l ih =>
    match j with
    | 0 => simp [flatE]
    | j + 1 =>
      rw [List.take_succ_cons, flatE_cons, flatE_cons, ih, List.take_append, enc_length, show x.enc.take ((j + 1) * 7) = x.enc from List.take_of_length_le (by rw [enc_length]; omega)]
      rw [show (j + 1) * 7 - 7 = j * 7 by omega]
theorem flatE_drop (zs : List En) (j : Nat) : flatE (zs.drop j) = (flatE zs).drop (j * 7) := by
  induction zs generalizing j with
  | nil => simp [flatE]
  | cons x l ih =>
    match j with
    | 0 => simp
    | j + 1 =>
      rw [List.drop_succ_cons, flatE_cons, ih, List.drop_append, enc_length, show x.enc.drop ((j + 1) * 7) = [] from List.drop_of_length_le (by rw [enc_length]; omega), List.nil_append]
      rw [show (j + 1) * 7 - 7 = j * 7 by omega]
theorem flatE_get (zs : List En) (j i : Nat) (x : En) (h : zs[j]? = some x) (hi : i < 7) : (flatE zs)[j * 7 + i]? = x.enc[i]? := by
  have hd : zs.drop j = x :: zs.drop (j + 1) := by
    obtain ⟨hj, rfl⟩ := List.getElem?_eq_some_iff.1 h
    exact List.drop_eq_getElem_cons hj
  have := congrArg flatE hd
  rw [flatE_drop, flatE_cons] at this
  have h2 := congrArg (fun l => l[i]?) this
  simp only [List.getElem?_drop] at h2
  rw [h2, List.getElem?_append_left (by rw [enc_length]; exact hi)]
theorem flatE_one_cell (zs : List En) : ∀ u ∈ flatE zs, u.oneCell' = true := by
  intro u hu
  simp only [flatE, List.mem_flatMap] at hu
  obtain ⟨x, _, hx⟩ := hu
  simp only [En.enc, List.mem_cons, List.not_mem_nil, or_false] at hx
  rcases hx with rfl | rfl | rfl | rfl | rfl | rfl | rfl <;> rfl
/-- cells of a flat row, read at places, from the entries' own -/
theorem flat_cells {w : World} {b off : Nat} {zs : List En} (h : ∀ j x, zs[j]? = some x → EnAt w b (off + j * 7) x) : ∀ j u, (flatE zs)[j]? = some u → w.cell? ⟨b, off + j, none⟩ = some u := by
  intro j u hu
  have hjl : j < zs.length * 7 := by
    have := (List.getElem?_eq_some_iff.1 hu).1
    rwa [flatE_length] at this
  have hj : j / 7 < zs.length := by omega
  have hg := flatE_get zs (j / 7) (j % 7) zs[j / 7] (List.getElem?_eq_getElem hj) (by omega)
  rw [show j / 7 * 7 + j % 7 = j by omega, hu] at hg
  have := h (j / 7) _ (List.getElem?_eq_getElem hj) (j % 7) u hg.symm
  rwa [show off + j / 7 * 7 + j % 7 = off + j by omega] at this

/-- v is a slice of the call's own, its elements zs, at block base or behind it -/
def EOwn (w : World) (base : Nat) (v : Value) (zs : List En) : Prop := w.ownsRow base 42 7 v zs.length (flatE zs)
theorem EOwn.nil (w : World) (base : Nat) : EOwn w base (.slice none 0 0) [] := w.ownsRow_nil base 42 7
theorem EOwn.alloc {w : World} {base : Nat} {v : Value} {zs : List En} (h : EOwn w base v zs) (o : Obj) : EOwn (w.alloc o) base v zs := World.ownsRow.alloc h o
theorem EOwn.mono {w : World} {base base' : Nat} {v : Value} {zs : List En} (h : EOwn w base v zs) (hb : base' ≤ base) : EOwn w base' v zs := by
  refine ⟨h.1, ?_⟩
  rcases h.2 with hn | ⟨g, cap, cur, hv, hb', r⟩
  · exact .inl hn
  · exact .inr ⟨g, cap, cur, hv, by omega, r⟩
theorem EOwn.below {w w' : World} {base : Nat} {v : Value} {zs : List En} (h : EOwn w base v zs) (hb : Below w.heap.size w w') : EOwn w' base v zs := by
  refine ⟨h.1, ?_⟩
  rcases h.2 with hn | ⟨g, cap, cur, hv, hb', hg, r⟩
  · exact .inl hn
  · exact .inr ⟨g, cap, cur, hv, hb', (hb.block g (Array.getElem?_eq_some_iff.1 hg).1).trans hg, r⟩
theorem EOwn.lt {w : World} {base : Nat} {v : Value} {zs : List En} (h : EOwn w base v zs) : ∀ k, v.ownBlock = some k → base ≤ k ∧ k < w.heap.size := World.ownsRow.lt h
theorem EOwn.form {w : World} {base : Nat} {v : Value} {zs : List En} (h : EOwn w base v zs) : ∃ A c, v = .slice A zs.length c ∧ (A = none → c = 0) ∧ (zs ≠ [] → ∃ g, A = some ⟨g, 0, none⟩ ∧ base ≤ g ∧ g < w.heap.size) := by
  rcases h.2 with ⟨hv, hn⟩ | ⟨g, cap, cur, hv, hb', hg, r⟩
  · refine ⟨none, 0, ?_, fun _ => rfl, fun hne => ?_⟩
    · rw [hv, hn]
    · exact absurd (List.length_eq_zero_iff.1 hn) hne
  · exact ⟨_, cap, hv, (fun h => by simp at h), fun _ => ⟨g, rfl, hb', (Array.getElem?_eq_some_iff.1 hg).1⟩⟩
theorem EOwn.cell {w : World} {base g c n : Nat} {zs : List En} (h : EOwn w base (.slice (some ⟨g, 0, none⟩) n c) zs) (hn : n = zs.length) {j : Nat} {x : En} (hj : zs[j]? = some x) : EnAt w g (j * 7) x := by
  have hl : j < zs.length := (List.getElem?_eq_some_iff.1 hj).1
  subst hn
  intro i u hu
  have hi : i < 7 := by have := (List.getElem?_eq_some_iff.1 hu).1; rwa [enc_length] at this
  exact (World.ownsRow.cellAt h (j * 7 + i) (by omega)).trans ((flatE_get zs j i x hj hi).trans hu)
theorem EOwn.sl {w : World} {base : Nat} {v : Value} {zs : List En} (h : EOwn w base v zs) (hok : ∀ x ∈ zs, x.ok) : ESl w w.heap.size v zs := by
  obtain ⟨A, c, rfl, hn, hA⟩ := h.form
  refine ⟨A, c, rfl, hn, hok, fun hne => ?_⟩
  obtain ⟨g, rfl, _, hlt⟩ := hA hne
  exact ⟨g, 0, rfl, hlt, fun j x hj => by rw [Nat.zero_add]; exact h.cell rfl hj⟩

/-- a world that came later than w: all that was there is as it was -/
structure Later (w : World) where
  now : World
  bel : Below w.heap.size w now

instance laterNow (w : World) : Inhabited (Later w) := ⟨⟨w, Below.refl _ _⟩⟩

theorem wp_region_later {P : Program} {id : Nat} {Q : Exit → Act → World → Prop} {a : Act} {w : World} {l : List Oper} (hm : P.follows .mixedOrders = true) (hB : Region.lexB .any l.toArray = true)
    (h : wpQuiet P l.toArray (fun w' => ∃ p : Later w, w' = p.now) (fun a' => ∀ w', (∃ p : Later w, w' = p.now) → Q .normal a' w') l a) : (Code.region id l.toArray true).wp P Q a w :=
  wp_region_quiet (C := fun w' => ∃ p : Later w, w' = p.now) hm hB ⟨⟨_, (Below.refl _ w).drew⟩, rfl⟩ (by simpa using h)
theorem Calls.later {P : Program} {f : FuncId} {args : Array Value} {w : World} {p : Later w} {v : Value} (h : Calls P f args p.now fun e w' => e = .returned v ∧ Below p.now.heap.size p.now w') :
    Calls P f args p.now fun e w' => e = .returned v ∧ ∃ q : Later w, w' = q.now :=
  h.mono fun _ _ ⟨he, hb⟩ => ⟨he, ⟨_, p.bel.trans (hb.mono p.bel.size)⟩, rfl⟩
theorem EnAt.later {w : World} {b o : Nat} {x : En} (h : EnAt w b o x) (hB : b < w.heap.size) (p : Later w) : EnAt p.now b o x := h.keep p.bel hB
/-- a new block that holds an entry -/
theorem new_entry (w : World) (x : En) (t : TypeId) : EnAt (w.alloc (.cells #[.int .u8 x.id, .int .u8 x.rep, .int .u32 x.seq, .int .u32 x.stamp, .int .i64 x.kind, .int .u8 x.cls, .int .u32 x.val] t)) w.heap.size 0 x := by
  apply EnAt.mk <;> simp
end Go.Proofs.YtfjaeohfigcciaaDoor
