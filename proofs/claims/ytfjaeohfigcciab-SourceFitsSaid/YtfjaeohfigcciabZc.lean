/- Texts in one: Later, IPlain, IMem, ISmall, ICmp, IEntry, IRight. -/
import Derived.Test.YtfjaeohfigcciabRows
import Derived.WalkKit
import Derived.Below
import Derived.Deep.Draws
import Derived.Deep.QuietTactic
import Derived.BigQuiet
import Derived.Calls
import Derived.Laws.OwnMore
import Derived.Deep.Quiet
import Derived.Sort.Grow
import Derived.WalkSpells
import Derived.WalkLawsBesides
import Derived.Lib.Hide
import Derived.Deep.RegionHeld3
import Derived.Deep.DrawnRows
/- A world that came later: all that was there is as it was; a drawn region of reads and of calls that make memory, in one walk. -/
namespace Go.Proofs.Ytfjaeohfigcciab
open Go.RowKit

/-- a world that came later than w: all that was there is as it was -/
structure Later (w : World) where
  now : World
  bel : Below w.heap.size w now

instance laterNow (w : World) : Inhabited (Later w) := ⟨⟨w, Below.refl _ _⟩⟩

theorem wp_region_later {P : Program} {id : Nat} {Q : Exit → Act → World → Prop} {a : Act} {w : World} {l : List Oper} (hm : P.follows .mixedOrders = true) (hB : Region.lexB .any l.toArray = true)
    (h : wpQuiet P l.toArray (fun w' => ∃ p : Later w, w' = p.now) (fun a' => ∀ w', (∃ p : Later w, w' = p.now) → Q .normal a' w') l a) : (Code.region id l.toArray true).wp P Q a w :=
  wp_region_quiet (C := fun w' => ∃ p : Later w, w' = p.now) hm hB ⟨⟨_, (Below.refl _ w).drew⟩, rfl⟩ (by simpa using h)
theorem Calls.later {P : Program} {f : FuncId} {args : Array Value} {w : World} {p : Later w} {v : Value} (h : Calls P f args p.now fun e w' => e = .returned v ∧ Below p.now.heap.size p.now w') :
    Calls P f args p.now fun e w' => e = .returned v ∧ ∃ q : Later w, w' = q.now :=
  h.mono fun _ _ ⟨he, hb⟩ => ⟨he, ⟨_, p.bel.trans (hb.mono p.bel.size)⟩, rfl⟩
end Go.Proofs.Ytfjaeohfigcciab

/- What versions and entries are, in plain words: when they are right, which version is less, what is in a filter, what a ghost is. Nothing of a program is in here. -/
namespace Go.Proofs.Ytfjaeohfigcciab

structure Vr where
  (rep seq stamp : Int)
  deriving DecidableEq, Inhabited, Repr
structure En where
  (id rep seq stamp kind cls val : Int)
  deriving DecidableEq, Inhabited, Repr

def En.ver (x : En) : Vr := ⟨x.rep, x.seq, x.stamp⟩
/-- a version is right -/
def rvB (v : Vr) : Bool := decide (v.rep < 8 ∧ 1 ≤ v.seq ∧ 1 ≤ v.stamp)
/-- a version is less than another one -/
def ltV (a b : Vr) : Bool := decide (a.stamp < b.stamp ∨ (a.stamp = b.stamp ∧ (a.rep < b.rep ∨ (a.rep = b.rep ∧ a.seq < b.seq))))
def cmpV (a b : Vr) : Int := if ltV a b = true then -1 else if ltV b a = true then 1 else 0
/-- what a kind asks -/
def rkB (x : En) : Bool := decide ((x.kind = 1 ∧ x.cls = x.val % 8) ∨ (x.kind = 2 ∧ x.cls < 8 ∧ x.val = 0) ∨ (x.kind = 3 ∧ x.cls = 0 ∧ x.val = 0))
/-- an entry is right -/
def reB (x : En) : Bool := rvB x.ver && (decide (x.id < 64) && rkB x)
/-- an entry comes instead of what is held -/
def repB (e x : En) : Bool := ltV x.ver e.ver || (decide (x.ver = e.ver) && (decide (x.kind = 2) && decide (e.kind ≠ 2)))
/-- its ghost -/
def fadeE (x : En) : En := if x.kind = 1 then ⟨x.id, x.rep, x.seq, x.stamp, 2, x.cls, 0⟩ else x

/-- within what the types hold -/
def Vr.ok (v : Vr) : Prop := (0 ≤ v.rep ∧ v.rep ≤ 255) ∧ (0 ≤ v.seq ∧ v.seq ≤ 4294967295) ∧ (0 ≤ v.stamp ∧ v.stamp ≤ 4294967295)
def En.ok (x : En) : Prop := (0 ≤ x.id ∧ x.id ≤ 255) ∧ x.ver.ok ∧ (-9223372036854775808 ≤ x.kind ∧ x.kind ≤ 9223372036854775807) ∧ (0 ≤ x.cls ∧ x.cls ≤ 255) ∧ (0 ≤ x.val ∧ x.val ≤ 4294967295)

theorem cmpV_neg (a b : Vr) : cmpV a b < 0 ↔ ltV a b = true := by
  unfold cmpV
  split
  · simp [*]
  · split <;> simp [*]
theorem cmpV_zero (a b : Vr) : cmpV a b = 0 ↔ a = b := by
  obtain ⟨r, q, t⟩ := a
  obtain ⟨r', q', t'⟩ := b
  simp only [cmpV, ltV, Vr.mk.injEq, decide_eq_true_eq]
  split
  · constructor
    · intro h; omega
    · intro h; omega
  · split
    · constructor
      · intro h; omega
      · intro h; omega
    · constructor
      · intro h; omega
      · intro h; omega
theorem ltV_irrefl (a : Vr) : ltV a a = false := by
  simp [ltV]
theorem ltV_trans {a b c : Vr} (h : ltV a b = true) (k : ltV b c = true) : ltV a c = true := by
  simp only [ltV, decide_eq_true_eq] at *
  omega
theorem ltV_total (a b : Vr) : ltV a b = true ∨ a = b ∨ ltV b a = true := by
  obtain ⟨r, q, t⟩ := a
  obtain ⟨r', q', t'⟩ := b
  simp only [ltV, Vr.mk.injEq, decide_eq_true_eq]
  omega
theorem ltV_asymm {a b : Vr} (h : ltV a b = true) : ltV b a = false := by
  simp only [ltV, decide_eq_true_eq, decide_eq_false_iff_not] at *
  omega

end Go.Proofs.Ytfjaeohfigcciab

/- When a value is a slice that reads as a list of entries, and how that is carried from world to world; worlds that came later. -/
namespace Go.Proofs.Ytfjaeohfigcciab
open Go.RowKit

/-- the cells of one entry -/
def En.enc (x : En) : List Value := [.int .u8 x.id, .int .u8 x.rep, .int .u32 x.seq, .int .u32 x.stamp, .int .i64 x.kind, .int .u8 x.cls, .int .u32 x.val]

/-- an entry lies at a place -/
def EnAt (w : World) (b o : Nat) (x : En) : Prop := ∀ i u, x.enc[i]? = some u → w.cell? ⟨b, o + i, none⟩ = some u

theorem EnAt.all {w : World} {b o : Nat} {x : En} (h : EnAt w b o x) : w.cell? ⟨b, o, none⟩ = some (.int .u8 x.id) ∧ w.cell? ⟨b, o + 1, none⟩ = some (.int .u8 x.rep) ∧ w.cell? ⟨b, o + 2, none⟩ = some (.int .u32 x.seq) ∧ w.cell? ⟨b, o + 3, none⟩ = some (.int .u32 x.stamp) ∧ w.cell? ⟨b, o + 4, none⟩ = some (.int .i64 x.kind) ∧ w.cell? ⟨b, o + 5, none⟩ = some (.int .u8 x.cls) ∧ w.cell? ⟨b, o + 6, none⟩ = some (.int .u32 x.val) :=
  ⟨h 0 _ rfl, h 1 _ rfl, h 2 _ rfl, h 3 _ rfl, h 4 _ rfl, h 5 _ rfl, h 6 _ rfl⟩
theorem EnAt.all0 {w : World} {b : Nat} {x : En} (h : EnAt w b 0 x) : w.cell? ⟨b, 0, none⟩ = some (.int .u8 x.id) ∧ w.cell? ⟨b, 1, none⟩ = some (.int .u8 x.rep) ∧ w.cell? ⟨b, 2, none⟩ = some (.int .u32 x.seq) ∧ w.cell? ⟨b, 3, none⟩ = some (.int .u32 x.stamp) ∧ w.cell? ⟨b, 4, none⟩ = some (.int .i64 x.kind) ∧ w.cell? ⟨b, 5, none⟩ = some (.int .u8 x.cls) ∧ w.cell? ⟨b, 6, none⟩ = some (.int .u32 x.val) := h.all
theorem EnAt.mk {w : World} {b o : Nat} {x : En} (h0 : w.cell? ⟨b, o, none⟩ = some (.int .u8 x.id)) (h1 : w.cell? ⟨b, o + 1, none⟩ = some (.int .u8 x.rep)) (h2 : w.cell? ⟨b, o + 2, none⟩ = some (.int .u32 x.seq)) (h3 : w.cell? ⟨b, o + 3, none⟩ = some (.int .u32 x.stamp)) (h4 : w.cell? ⟨b, o + 4, none⟩ = some (.int .i64 x.kind)) (h5 : w.cell? ⟨b, o + 5, none⟩ = some (.int .u8 x.cls)) (h6 : w.cell? ⟨b, o + 6, none⟩ = some (.int .u32 x.val)) : EnAt w b o x := by
  intro i u hu
  match i, hu with
  | 0, hu => simp [En.enc] at hu; subst hu; exact h0
  | 1, hu => simp [En.enc] at hu; subst hu; exact h1
  | 2, hu => simp [En.enc] at hu; subst hu; exact h2
  | 3, hu => simp [En.enc] at hu; subst hu; exact h3
  | 4, hu => simp [En.enc] at hu; subst hu; exact h4
  | 5, hu => simp [En.enc] at hu; subst hu; exact h5
  | 6, hu => simp [En.enc] at hu; subst hu; exact h6
  | i + 7, hu => simp [En.enc] at hu
theorem EnAt.keep {w w' : World} {B b o : Nat} {x : En} (h : EnAt w b o x) (hb : Below B w w') (hB : b < B) : EnAt w' b o x := fun i u hu => (hb.cell (p := ⟨b, o + i, none⟩) hB).trans (h i u hu)

/-- v is a slice whose elements are zs, below block B -/
def ESl (w : World) (B : Nat) (v : Value) (zs : List En) : Prop :=
  ∃ A c, v = .slice A zs.length c ∧ ((A = none → c = 0) ∧ zs.length ≤ c) ∧ (∀ x ∈ zs, x.ok) ∧ (zs ≠ [] → ∃ b off, A = some ⟨b, off, none⟩ ∧ b < B ∧ ∀ j x, zs[j]? = some x → EnAt w b (off + j * 7) x)

theorem ESl.below {w w' : World} {B : Nat} {v : Value} {zs : List En} (h : ESl w B v zs) (hb : Below B w w') : ESl w' B v zs := by
  obtain ⟨A, c, hv, hn, hok, hA⟩ := h
  refine ⟨A, c, hv, hn, hok, fun hne => ?_⟩
  obtain ⟨b, off, rfl, hlt, hc⟩ := hA hne
  exact ⟨b, off, rfl, hlt, fun j x hj => (hc j x hj).keep hb hlt⟩
theorem ESl.more {w : World} {B B' : Nat} {v : Value} {zs : List En} (h : ESl w B v zs) (hB : B ≤ B') : ESl w B' v zs := by
  obtain ⟨A, c, hv, hn, hok, hA⟩ := h
  refine ⟨A, c, hv, hn, hok, fun hne => ?_⟩
  obtain ⟨b, off, rfl, hlt, hc⟩ := hA hne
  exact ⟨b, off, rfl, by omega, hc⟩
/-- .. in a world that came later -/
theorem ESl.later {w w' : World} {v : Value} {zs : List En} (h : ESl w w.heap.size v zs) (hb : Below w.heap.size w w') : ESl w' w'.heap.size v zs := (h.below hb).more hb.size
theorem ESl.nil (w : World) (B : Nat) : ESl w B (.slice none 0 0) [] := ⟨none, 0, rfl, ⟨fun _ => rfl, Nat.le_refl _⟩, by simp, fun h => absurd rfl h⟩
theorem ESl.cap {w : World} {B : Nat} {A : Option Addr} {n c : Nat} {zs : List En} (h : ESl w B (.slice A n c) zs) : zs.length ≤ c := by
  obtain ⟨_, _, hv, hn, _⟩ := h
  injection hv with _ _ h3
  rw [h3]
  exact hn.2
theorem ESl.okAll {w : World} {B : Nat} {v : Value} {zs : List En} (h : ESl w B v zs) : ∀ x ∈ zs, x.ok := by
  obtain ⟨_, _, _, _, h, _⟩ := h
  exact h

/-- the cells of entries, one behind the other -/
def flatE (zs : List En) : List Value := zs.flatMap En.enc
theorem enc_length (x : En) : x.enc.length = 7 := rfl
theorem flatE_length (zs : List En) : (flatE zs).length = zs.length * 7 := by
  induction zs with
  | nil => rfl
  | cons x l ih => simp only [flatE, List.flatMap_cons, List.length_append] at *; rw [ih]; simp [En.enc]; omega
theorem flatE_append (zs ys : List En) : flatE (zs ++ ys) = flatE zs ++ flatE ys := by simp [flatE]
theorem flatE_cons (x : En) (ys : List En) : flatE (x :: ys) = x.enc ++ flatE ys := by simp [flatE]
theorem flatE_one (x : En) : flatE [x] = x.enc := by simp [flatE]
theorem flatE_take (zs : List En) (j : Nat) : flatE (zs.take j) = (flatE zs).take (j * 7) := by
  induction zs generalizing j with
  | nil => simp [flatE]
  | cons x l ih =>
    match j with
    | 0 => simp [flatE]
    | j + 1 =>
      rw [List.take_succ_cons, flatE_cons, flatE_cons, ih, List.take_append, enc_length, show x.enc.take ((j + 1) * 7) = x.enc from List.take_of_length_le (by rw [enc_length]; omega)]
      rw [show (j + 1) * 7 - 7 = j * 7 by omega]
theorem flatE_drop (zs : List En) (j : Nat) : flatE (zs.drop j) = (flatE zs).drop (j * 7) := by
  induction zs generalizing j with
  | nil => simp [flatE]
  | cons x l ih =>
    match j with
    | 0 => simp
    | j + 1 =>
      rw [List.drop_succ_cons, flatE_cons, ih, List.drop_append, enc_length, show x.enc.drop ((j + 1) * 7) = [] from List.drop_of_length_le (by rw [enc_length]; omega), List.nil_append]
      rw [show (j + 1) * 7 - 7 = j * 7 by omega]
theorem flatE_get (zs : List En) (j i : Nat) (x : En) (h : zs[j]? = some x) (hi : i < 7) : (flatE zs)[j * 7 + i]? = x.enc[i]? := by
  have hd : zs.drop j = x :: zs.drop (j + 1) := by
    obtain ⟨hj, rfl⟩ := List.getElem?_eq_some_iff.1 h
    exact List.drop_eq_getElem_cons hj
  have := congrArg flatE hd
  rw [flatE_drop, flatE_cons] at this
  have h2 := congrArg (fun l => l[i]?) this
  simp only [List.getElem?_drop] at h2
  rw [h2, List.getElem?_append_left (by rw [enc_length]; exact hi)]
theorem flatE_one_cell (zs : List En) : ∀ u ∈ flatE zs, u.oneCell' = true := by
  intro u hu
  simp only [flatE, List.mem_flatMap] at hu
  obtain ⟨x, _, hx⟩ := hu
  simp only [En.enc, List.mem_cons, List.not_mem_nil, or_false] at hx
  rcases hx with rfl | rfl | rfl | rfl | rfl | rfl | rfl <;> rfl
/-- cells of a flat row, read at places, from the entries' own -/
theorem flat_cells {w : World} {b off : Nat} {zs : List En} (h : ∀ j x, zs[j]? = some x → EnAt w b (off + j * 7) x) : ∀ j u, (flatE zs)[j]? = some u → w.cell? ⟨b, off + j, none⟩ = some u := by
  intro j u hu
  have hjl : j < zs.length * 7 := by
    have := (List.getElem?_eq_some_iff.1 hu).1
    rwa [flatE_length] at this
  have hj : j / 7 < zs.length := by omega
  have hg := flatE_get zs (j / 7) (j % 7) zs[j / 7] (List.getElem?_eq_getElem hj) (by omega)
  rw [show j / 7 * 7 + j % 7 = j by omega, hu] at hg
  have := h (j / 7) _ (List.getElem?_eq_getElem hj) (j % 7) u hg.symm
  rwa [show off + j / 7 * 7 + j % 7 = off + j by omega] at this

/-- v is a slice of the call's own, its elements zs, at block base or behind it -/
def EOwn (w : World) (base : Nat) (v : Value) (zs : List En) : Prop := w.ownsRow base 43 7 v zs.length (flatE zs)
theorem EOwn.nil (w : World) (base : Nat) : EOwn w base (.slice none 0 0) [] := w.ownsRow_nil base 43 7
theorem EOwn.alloc {w : World} {base : Nat} {v : Value} {zs : List En} (h : EOwn w base v zs) (o : Obj) : EOwn (w.alloc o) base v zs := World.ownsRow.alloc h o
theorem EOwn.mono {w : World} {base base' : Nat} {v : Value} {zs : List En} (h : EOwn w base v zs) (hb : base' ≤ base) : EOwn w base' v zs := by
  refine ⟨h.1, ?_⟩
  rcases h.2 with hn | ⟨g, cap, cur, hv, hb', r⟩
  · exact .inl hn
  · exact .inr ⟨g, cap, cur, hv, by omega, r⟩
theorem EOwn.below {w w' : World} {base : Nat} {v : Value} {zs : List En} (h : EOwn w base v zs) (hb : Below w.heap.size w w') : EOwn w' base v zs := by
  refine ⟨h.1, ?_⟩
  rcases h.2 with hn | ⟨g, cap, cur, hv, hb', hg, r⟩
  · exact .inl hn
  · exact .inr ⟨g, cap, cur, hv, hb', (hb.block g (Array.getElem?_eq_some_iff.1 hg).1).trans hg, r⟩
theorem EOwn.lt {w : World} {base : Nat} {v : Value} {zs : List En} (h : EOwn w base v zs) : ∀ k, v.ownBlock = some k → base ≤ k ∧ k < w.heap.size := World.ownsRow.lt h
theorem EOwn.form {w : World} {base : Nat} {v : Value} {zs : List En} (h : EOwn w base v zs) : ∃ A c, v = .slice A zs.length c ∧ (A = none → c = 0) ∧ (zs ≠ [] → ∃ g, A = some ⟨g, 0, none⟩ ∧ base ≤ g ∧ g < w.heap.size) := by
  rcases h.2 with ⟨hv, hn⟩ | ⟨g, cap, cur, hv, hb', hg, r⟩
  · refine ⟨none, 0, ?_, fun _ => rfl, fun hne => ?_⟩
    · rw [hv, hn]
    · exact absurd (List.length_eq_zero_iff.1 hn) hne
  · exact ⟨_, cap, hv, (fun h => by simp at h), fun _ => ⟨g, rfl, hb', (Array.getElem?_eq_some_iff.1 hg).1⟩⟩
theorem EOwn.cell {w : World} {base g c n : Nat} {zs : List En} (h : EOwn w base (.slice (some ⟨g, 0, none⟩) n c) zs) (hn : n = zs.length) {j : Nat} {x : En} (hj : zs[j]? = some x) : EnAt w g (j * 7) x := by
  have hl : j < zs.length := (List.getElem?_eq_some_iff.1 hj).1
  subst hn
  intro i u hu
  have hi : i < 7 := by have := (List.getElem?_eq_some_iff.1 hu).1; rwa [enc_length] at this
  exact (World.ownsRow.cellAt h (j * 7 + i) (by omega)).trans ((flatE_get zs j i x hj hi).trans hu)
theorem EOwn.le {w : World} {base : Nat} {A : Option Addr} {n c : Nat} {zs : List En} (h : EOwn w base (.slice A n c) zs) : zs.length ≤ c := by
  rcases h.2 with ⟨_, hn⟩ | ⟨g, cap, cur, hv, _, _, hle, _⟩
  · omega
  · injection hv with _ _ h3
    omega
theorem EOwn.sl {w : World} {base : Nat} {v : Value} {zs : List En} (h : EOwn w base v zs) (hok : ∀ x ∈ zs, x.ok) : ESl w w.heap.size v zs := by
  obtain ⟨A, c, rfl, hn, hA⟩ := h.form
  refine ⟨A, c, rfl, ⟨hn, h.le⟩, hok, fun hne => ?_⟩
  obtain ⟨g, rfl, _, hlt⟩ := hA hne
  exact ⟨g, 0, rfl, hlt, fun j x hj => by rw [Nat.zero_add]; exact h.cell rfl hj⟩

theorem EnAt.later {w : World} {b o : Nat} {x : En} (h : EnAt w b o x) (hB : b < w.heap.size) (p : Later w) : EnAt p.now b o x := h.keep p.bel hB
/-- a new block that holds an entry -/
theorem new_entry (w : World) (x : En) (t : TypeId) : EnAt (w.alloc (.cells #[.int .u8 x.id, .int .u8 x.rep, .int .u32 x.seq, .int .u32 x.stamp, .int .i64 x.kind, .int .u8 x.cls, .int .u32 x.val] t)) w.heap.size 0 x := by
  apply EnAt.mk <;> simp
end Go.Proofs.Ytfjaeohfigcciab

/- The contracts of the small functions: a version is right, less than another one; an entry is right. -/
namespace Go.Proofs.Ytfjaeohfigcciab
open Go.RowKit

theorem al1 (w : World) (o : Obj) : Below w.heap.size w (w.alloc o) := (Below.refl _ w).alloc (Nat.le_refl _) o
theorem al2 (w : World) (o o' : Obj) : Below w.heap.size w ((w.alloc o).alloc o') := (al1 w o).alloc (by simp) o'

set_option maxHeartbeats 400000 in
theorem iRightVer_any (r q t : Int) (w : World) :
    Calls Try.prog 55 #[.agg #[.int .u8 r, .int .u32 q, .int .u32 t]] w fun e w' => e = .returned (.bool (rvB ⟨r, q, t⟩)) ∧ Below w.heap.size w w' := by
  by_cases h1 : r < 8
  · by_cases h2 : 1 ≤ q
    · by_cases h3 : 1 ≤ t
      · have e : rvB ⟨r, q, t⟩ = true := by simp [rvB, h1, h2, h3]
        rw [e]; clear e
        go_enter Try.func55, Try.ntmps55
        go_wp2
        go_ret
        exact ⟨rfl, al1 _ _⟩
      · have e : rvB ⟨r, q, t⟩ = false := by simp [rvB, h1, h2, h3]
        rw [e]; clear e
        go_enter Try.func55, Try.ntmps55
        go_wp2
        go_ret
        exact ⟨rfl, al1 _ _⟩
    · have e : rvB ⟨r, q, t⟩ = false := by simp [rvB, h1, h2]
      rw [e]; clear e
      go_enter Try.func55, Try.ntmps55
      go_wp2
      go_ret
      exact ⟨rfl, al1 _ _⟩
  · have e : rvB ⟨r, q, t⟩ = false := by simp [rvB, h1]
    rw [e]; clear e
    go_enter Try.func55, Try.ntmps55
    go_wp2
    go_ret
    exact ⟨rfl, al1 _ _⟩
def icmpI (a b : Int) : Int := if a < b then -1 else if b < a then 1 else 0
end Go.Proofs.Ytfjaeohfigcciab

/- The contracts of item.Cmp, of the reference's Less and Cmp: one order of versions. -/
namespace Go.Proofs.Ytfjaeohfigcciab
open Go.RowKit
attribute [local go_sem ↓] Go.wp_at_zero Go.wp_at_succ

def orI (a b c : Int) : Int := if a = 0 then (if b = 0 then c else b) else a
theorem or_cmp (a b : Vr) : orI (icmpI a.stamp b.stamp) (icmpI a.rep b.rep) (icmpI a.seq b.seq) = cmpV a b := by
  simp only [orI, icmpI, cmpV, ltV, decide_eq_true_eq]
  repeat' split
  all_goals omega

end Go.Proofs.Ytfjaeohfigcciab

/- The contracts of item.rightKind, item.rightEntry, item.replaces, and of the reference's RightEntry. -/
namespace Go.Proofs.Ytfjaeohfigcciab
open Go.RowKit

def En.agg (x : En) : Value := .agg #[.int .u8 x.id, .int .u8 x.rep, .int .u32 x.seq, .int .u32 x.stamp, .int .i64 x.kind, .int .u8 x.cls, .int .u32 x.val]

set_option maxHeartbeats 1000000 in
theorem rightKind_any (x : En) (w : World) (hx : x.ok) :
    Calls Try.prog 56 #[x.agg] w fun e w' => e = .returned (.bool (rkB x)) ∧ Below w.heap.size w w' := by
  obtain ⟨id, rep, seq, stamp, kind, cls, val⟩ := x
  obtain ⟨⟨i1, i2⟩, _, ⟨k1, k2⟩, ⟨c1, c2⟩, v1, v2⟩ := hx
  simp only [En.agg] at *
  by_cases h1 : kind = 1
  · subst h1
    by_cases hc : cls = val % 8
    · have e : rkB ⟨id, rep, seq, stamp, 1, cls, val⟩ = true := by simp [rkB, hc]
      rw [e]; clear e
      have hc' : (cls == val % 8) = true := by simp [hc]
      clear hc
      go_enter Try.func56, Try.ntmps56
      go_wp2
      go_ret
      exact ⟨rfl, al1 _ _⟩
    · have e : rkB ⟨id, rep, seq, stamp, 1, cls, val⟩ = false := by simp [rkB, hc]
      rw [e]; clear e
      have hc' : (cls == val % 8) = false := by simp [hc]
      clear hc
      go_enter Try.func56, Try.ntmps56
      go_wp2
      go_ret
      exact ⟨rfl, al1 _ _⟩
  · have h1' : (kind == 1) = false := by simp [h1]
    by_cases h3 : kind = 3
    · subst h3
      clear h1 h1'
      by_cases hc : cls = 0
      · subst hc
        rw [show rkB ⟨id, rep, seq, stamp, 3, 0, val⟩ = (val == 0) by rw [Bool.eq_iff_iff]; simp [rkB]]
        go_enter Try.func56, Try.ntmps56
        go_wp2
        go_ret
        exact ⟨rfl, al1 _ _⟩
      · have e : rkB ⟨id, rep, seq, stamp, 3, cls, val⟩ = false := by simp [rkB, hc]
        rw [e]; clear e
        have hc' : (cls != 0) = true := by simp [hc]
        clear hc
        go_enter Try.func56, Try.ntmps56
        go_wp2
        go_ret
        exact ⟨rfl, al1 _ _⟩
    · have h3' : (kind == 3) = false := by simp [h3]
      by_cases h2 : kind = 2
      · subst h2
        clear h1 h1' h3 h3'
        by_cases hc : cls < 8
        · rw [show rkB ⟨id, rep, seq, stamp, 2, cls, val⟩ = (val == 0) by rw [Bool.eq_iff_iff]; simp [rkB, hc]]
          go_enter Try.func56, Try.ntmps56
          go_wp2
          go_ret
          exact ⟨rfl, al1 _ _⟩
        · have e : rkB ⟨id, rep, seq, stamp, 2, cls, val⟩ = false := by simp [rkB, hc]
          rw [e]; clear e
          go_enter Try.func56, Try.ntmps56
          go_wp2
          go_ret
          exact ⟨rfl, al1 _ _⟩
      · have h2' : (kind == 2) = false := by simp [h2]
        have e : rkB ⟨id, rep, seq, stamp, kind, cls, val⟩ = false := by simp [rkB, h1, h2, h3]
        rw [e]; clear e
        clear h1 h2 h3
        go_enter Try.func56, Try.ntmps56
        go_wp2
        go_ret
        exact ⟨rfl, al1 _ _⟩

set_option maxHeartbeats 1000000 in
theorem irightEntry_any (x : En) (w : World) (hx : x.ok) :
    Calls Try.prog 51 #[x.agg] w fun e w' => e = .returned (.bool (reB x)) ∧ Below w.heap.size w w' := by
  have k1 := fun W => iRightVer_any x.rep x.seq x.stamp W
  have k2 := fun W => rightKind_any x W hx
  simp only [En.agg] at k2 ⊢
  unfold reB
  rw [show x.ver = ⟨x.rep, x.seq, x.stamp⟩ from rfl]
  generalize rvB ⟨x.rep, x.seq, x.stamp⟩ = a at k1 ⊢
  generalize rkB x = b at k2 ⊢
  have K1 := Lib.hid k1; clear k1
  have K2 := Lib.hid k2; clear k2
  clear hx
  have hN := Lib.hid (new_entry w x 43)
  cases a
  · simp only [Bool.false_and]
    go_enter Try.func51, Try.ntmps51
    go_wp2_with fail
    refine (K1.out _).mono ?_
    rintro e w1 ⟨rfl, hb1⟩
    have HB := Lib.hid ((al1 w _).trans (hb1.mono (by simp)))
    clear hb1
    go_wp2_with fail
    go_ret
    exact ⟨rfl, HB.out⟩
  · simp only [Bool.true_and]
    by_cases h : x.id < 64
    · simp only [h, decide_true, Bool.true_and]
      go_enter Try.func51, Try.ntmps51
      go_wp2_with fail
      refine (K1.out _).mono ?_
      rintro e w1 ⟨rfl, hb1⟩
      obtain ⟨c0, c1, c2, c3, c4, c5, c6⟩ := (hN.out.keep hb1 (by simp)).all
      have HB := Lib.hid ((al1 w _).trans (hb1.mono (by simp)))
      clear hb1 hN
      go_wp2_with fail
      refine (K2.out _).mono ?_
      rintro e w2 ⟨rfl, hb2⟩
      go_wp2_with fail
      go_ret
      exact ⟨rfl, HB.out.trans (hb2.mono HB.out.size)⟩
    · simp only [h, decide_false, Bool.false_and]
      go_enter Try.func51, Try.ntmps51
      go_wp2_with fail
      refine (K1.out _).mono ?_
      rintro e w1 ⟨rfl, hb1⟩
      obtain ⟨c0, c1, c2, c3, c4, c5, c6⟩ := (hN.out.keep hb1 (by simp)).all
      have HB := Lib.hid ((al1 w _).trans (hb1.mono (by simp)))
      clear hb1 hN
      go_wp2_with fail
      go_ret
      exact ⟨rfl, HB.out⟩

theorem rep_cmp (e x : En) : repB e x = (decide (cmpV x.ver e.ver < 0) || (decide (cmpV x.ver e.ver = 0) && (decide (x.kind = 2) && decide (e.kind ≠ 2)))) := by
  rw [Bool.eq_iff_iff]
  simp only [repB, Bool.or_eq_true, Bool.and_eq_true, decide_eq_true_eq, cmpV_neg, cmpV_zero]

end Go.Proofs.Ytfjaeohfigcciab

/- The contracts of item.Right and of the reference's Right: a slice of entries is right just where the plain test says so; the call leaves all that was there. -/
namespace Go.Proofs.Ytfjaeohfigcciab
open Go.RowKit

def eokAt (zs : List En) (i : Nat) : Bool := reB zs[i]! && (decide (i = 0) || decide (zs[i - 1]!.id < zs[i]!.id))
def erightB (zs : List En) : Bool := (List.range zs.length).all (eokAt zs)

theorem erightB_true {zs : List En} (ha : ∀ j, j < zs.length → eokAt zs j = true) : erightB zs = true := by
  simp only [erightB, List.all_eq_true, List.mem_range]
  exact ha
theorem erightB_false {zs : List En} {k : Nat} (hk : k < zs.length) (ha : eokAt zs k = false) : erightB zs = false := by
  simp only [erightB, List.all_eq_false, List.mem_range]
  exact ⟨k, hk, by simp [ha]⟩
theorem egetBang_of {zs : List En} {k : Nat} {x : En} (h : zs[k]? = some x) : zs[k]! = x := by simp [List.getElem!_eq_getElem?_getD, h]

set_option maxHeartbeats 2000000 in
theorem iRight_any (w : World) (v : Value) (zs : List En) (h : ESl w w.heap.size v zs) (hl : zs.length ≤ 9223372036854775807) :
    Calls Try.prog 43 #[v] w fun e w' => e = .returned (.bool (erightB zs)) ∧ Below w.heap.size w w' := by
  obtain ⟨A, c, rfl, _, hok, hA⟩ := h
  have hm : Try.prog.follows .mixedOrders = true := by kernel_rfl
  have HA := Lib.hid hA; clear hA
  have HM := Lib.hid hm; clear hm
  have HK := Lib.hid hok; clear hok
  generalize hrb : erightB zs = rb
  have HR := Lib.hid hrb; clear hrb
  go_enter Try.func43, Try.ntmps43
  go_wp2
  go_loopw [7] (fun i wr => ∃ k : Nat, i = .int .i64 k ∧ k ≤ zs.length ∧ Hid (∀ j, j < k → eokAt zs j = true) ∧ Below w.heap.size w wr) (fun i _ => zs.length - (intOf i).toNat)
  case atStart => exact ⟨0, rfl, by omega, Lib.hid (fun j hj => absurd hj (by omega)), Below.refl _ _⟩
  case round =>
    obtain ⟨k, rfl, hk, HO, hb⟩ := hrel
    by_cases hlt : k < zs.length
    · obtain ⟨b, off, rfl, hbw, hc⟩ := HA.out (by intro h; simp [h] at hlt)
      have hxk : zs[k]? = some zs[k] := List.getElem?_eq_getElem hlt
      generalize zs[k] = x at hxk
      have hxB := egetBang_of hxk
      have hxo := HK.out x (List.mem_of_getElem? hxk)
      have hz := hb.size
      have HNW := Lib.hid (new_entry wr x 43)
      have HAL := Lib.hid (al1 wr (.cells #[.int .u8 x.id, .int .u8 x.rep, .int .u32 x.seq, .int .u32 x.stamp, .int .i64 x.kind, .int .u8 x.cls, .int .u32 x.val] 43))
      have hsz : wr.heap.size < (wr.alloc (.cells #[.int .u8 x.id, .int .u8 x.rep, .int .u32 x.seq, .int .u32 x.stamp, .int .i64 x.kind, .int .u8 x.cls, .int .u32 x.val] 43)).heap.size := by simp
      obtain ⟨c0, c1, c2, c3, c4, c5, c6⟩ := ((hc k x hxk).keep hb hbw).all
      have HX := Lib.hid hxk; clear hxk
      have HXO := Lib.hid hxo; clear hxo
      have HB := Lib.hid hxB; clear hxB
      have HC := Lib.hid hc; clear hc
      have HBB := Lib.hid hb; clear hb
      by_cases hx : reB x = true
      · have r1 := fun (W : World) => irightEntry_any x W HXO.out
        rw [hx] at r1
        simp only [En.agg] at r1
        have HX1 := Lib.hid hx; clear hx
        have R1 := Lib.hid r1; clear r1
        by_cases hk0 : 0 < k
        · obtain ⟨j, rfl⟩ : ∃ j, k = j + 1 := ⟨k - 1, by omega⟩
          have hyk : zs[j]? = some zs[j] := List.getElem?_eq_getElem (by omega)
          generalize zs[j] = y at hyk
          have hyB := egetBang_of hyk
          have HYA := Lib.hid ((HC.out j y hyk).keep HBB.out hbw)
          have HY := Lib.hid hyk; clear hyk
          have HYB := Lib.hid hyB; clear hyB
          obtain ⟨q, hq⟩ : ∃ q, q = decide (x.id ≤ y.id) := ⟨_, rfl⟩
          have HQ := Lib.hid hq
          cases q
          · have hp : decide (x.id ≤ y.id) = false := hq.symm
            clear hq
            go_wp2_with fail
            generalize hwq : wr.alloc (.cells #[.int .u8 x.id, .int .u8 x.rep, .int .u32 x.seq, .int .u32 x.stamp, .int .i64 x.kind, .int .u8 x.cls, .int .u32 x.val] 43) = wq at HNW HAL hsz ⊢
            clear hwq
            have m0 := fun p : Later wq => (HNW.out.later hsz p).all0.1
            have m1 := fun p : Later wq => (HNW.out.later hsz p).all0.2.1
            have m2 := fun p : Later wq => (HNW.out.later hsz p).all0.2.2.1
            have m3 := fun p : Later wq => (HNW.out.later hsz p).all0.2.2.2.1
            have m4 := fun p : Later wq => (HNW.out.later hsz p).all0.2.2.2.2.1
            have m5 := fun p : Later wq => (HNW.out.later hsz p).all0.2.2.2.2.2.1
            have m6 := fun p : Later wq => (HNW.out.later hsz p).all0.2.2.2.2.2.2
            have y0 := fun p : Later wq => (((HYA.out.keep HAL.out (by omega)).later (by omega) p)).all.1
            have hm : Try.prog.follows .mixedOrders = true := HM.out
            have i2 : j < zs.length := by omega
            have i1 : IntKind.i64.wrap (j : Int) = (j : Int) := IntWalk.i64_in _ (by omega)
            refine wp_region_later hm (by kernel_rfl) ?_
            repeat (any_goals (first | go_big_quiet_step (first | (go_at_call 51; exact Calls.later (R1.out _))) | quiet_step (first | (go_at_call 51; exact Calls.later (R1.out _)))))
            refine wpQuiet_nil ?_
            intro wp hw'
            obtain ⟨lp, hlp⟩ := hw'
            have hbp := lp.bel
            rw [← hlp] at hbp
            clear hlp lp
            clear i1
            have hbn : Below w.heap.size w wp := HBB.out.trans ((HAL.out.trans (hbp.mono (by omega))).mono hz)
            have HBN := Lib.hid hbn; clear hbn
            clear HAL HNW m0 m1 m2 m3 m4 m5 m6 y0
            go_wp2
            go_roundw
            case rel =>
              refine ⟨j + 1 + 1, by go_num, by omega, Lib.hid (fun i hi => ?_), HBN.out⟩
              rcases Nat.lt_or_ge i (j + 1) with h | h
              · exact HO.out i h
              · obtain rfl : i = j + 1 := by omega
                have hq := HQ.out
                simp at hq
                simp [eokAt, HB.out, HYB.out, HX1.out, hq]
            case measure => simp [intOf]; omega
          · have hp : decide (x.id ≤ y.id) = true := hq.symm
            clear hq
            go_wp2_with fail
            generalize hwq : wr.alloc (.cells #[.int .u8 x.id, .int .u8 x.rep, .int .u32 x.seq, .int .u32 x.stamp, .int .i64 x.kind, .int .u8 x.cls, .int .u32 x.val] 43) = wq at HNW HAL hsz ⊢
            clear hwq
            have m0 := fun p : Later wq => (HNW.out.later hsz p).all0.1
            have m1 := fun p : Later wq => (HNW.out.later hsz p).all0.2.1
            have m2 := fun p : Later wq => (HNW.out.later hsz p).all0.2.2.1
            have m3 := fun p : Later wq => (HNW.out.later hsz p).all0.2.2.2.1
            have m4 := fun p : Later wq => (HNW.out.later hsz p).all0.2.2.2.2.1
            have m5 := fun p : Later wq => (HNW.out.later hsz p).all0.2.2.2.2.2.1
            have m6 := fun p : Later wq => (HNW.out.later hsz p).all0.2.2.2.2.2.2
            have y0 := fun p : Later wq => (((HYA.out.keep HAL.out (by omega)).later (by omega) p)).all.1
            have hm : Try.prog.follows .mixedOrders = true := HM.out
            have i2 : j < zs.length := by omega
            have i1 : IntKind.i64.wrap (j : Int) = (j : Int) := IntWalk.i64_in _ (by omega)
            refine wp_region_later hm (by kernel_rfl) ?_
            repeat (any_goals (first | go_big_quiet_step (first | (go_at_call 51; exact Calls.later (R1.out _))) | quiet_step (first | (go_at_call 51; exact Calls.later (R1.out _)))))
            refine wpQuiet_nil ?_
            intro wp hw'
            obtain ⟨lp, hlp⟩ := hw'
            have hbp := lp.bel
            rw [← hlp] at hbp
            clear hlp lp
            clear i1
            have hbn : Below w.heap.size w wp := HBB.out.trans ((HAL.out.trans (hbp.mono (by omega))).mono hz)
            have HBN := Lib.hid hbn; clear hbn
            clear HAL HNW m0 m1 m2 m3 m4 m5 m6 y0
            go_wp2
            go_ret
            refine ⟨?_, HBN.out⟩
            have hq := HQ.out
            simp at hq
            rw [← HR.out, erightB_false (k := j + 1) hlt (by simp [eokAt, HB.out, HYB.out]; omega)]
            rfl
        · have hk1 : decide (0 < k) = false := by simp; omega
          have HK0 := Lib.hid hk0; clear hk0
          go_wp2_with fail
          generalize hwq : wr.alloc (.cells #[.int .u8 x.id, .int .u8 x.rep, .int .u32 x.seq, .int .u32 x.stamp, .int .i64 x.kind, .int .u8 x.cls, .int .u32 x.val] 43) = wq at HNW HAL hsz ⊢
          clear hwq
          have m0 := fun p : Later wq => (HNW.out.later hsz p).all0.1
          have m1 := fun p : Later wq => (HNW.out.later hsz p).all0.2.1
          have m2 := fun p : Later wq => (HNW.out.later hsz p).all0.2.2.1
          have m3 := fun p : Later wq => (HNW.out.later hsz p).all0.2.2.2.1
          have m4 := fun p : Later wq => (HNW.out.later hsz p).all0.2.2.2.2.1
          have m5 := fun p : Later wq => (HNW.out.later hsz p).all0.2.2.2.2.2.1
          have m6 := fun p : Later wq => (HNW.out.later hsz p).all0.2.2.2.2.2.2
          have hm : Try.prog.follows .mixedOrders = true := HM.out
          refine wp_region_later hm (by kernel_rfl) ?_
          repeat (any_goals (first | go_big_quiet_step (first | (go_at_call 51; exact Calls.later (R1.out _))) | quiet_step (first | (go_at_call 51; exact Calls.later (R1.out _)))))
          refine wpQuiet_nil ?_
          intro wp hw'
          obtain ⟨lp, hlp⟩ := hw'
          have hbp := lp.bel
          rw [← hlp] at hbp
          clear hlp lp
          have hbn : Below w.heap.size w wp := HBB.out.trans ((HAL.out.trans (hbp.mono (by omega))).mono hz)
          have HBN := Lib.hid hbn; clear hbn
          clear HAL HNW m0 m1 m2 m3 m4 m5 m6
          go_wp2
          go_roundw
          case rel =>
            refine ⟨k + 1, by go_num, by omega, Lib.hid (fun i hi => ?_), HBN.out⟩
            rcases Nat.lt_or_ge i k with h | h
            · exact HO.out i h
            · obtain rfl : i = k := by omega
              have := HK0.out
              simp [eokAt, HB.out, HX1.out]
              omega
          case measure => simp [intOf]; omega
      · have hx : reB x = false := by simpa using hx
        have r1 := fun (W : World) => irightEntry_any x W HXO.out
        rw [hx] at r1
        simp only [En.agg] at r1
        have HX1 := Lib.hid hx; clear hx
        have R1 := Lib.hid r1; clear r1
        go_wp2_with fail
        generalize hwq : wr.alloc (.cells #[.int .u8 x.id, .int .u8 x.rep, .int .u32 x.seq, .int .u32 x.stamp, .int .i64 x.kind, .int .u8 x.cls, .int .u32 x.val] 43) = wq at HNW HAL hsz ⊢
        clear hwq
        have m0 := fun p : Later wq => (HNW.out.later hsz p).all0.1
        have m1 := fun p : Later wq => (HNW.out.later hsz p).all0.2.1
        have m2 := fun p : Later wq => (HNW.out.later hsz p).all0.2.2.1
        have m3 := fun p : Later wq => (HNW.out.later hsz p).all0.2.2.2.1
        have m4 := fun p : Later wq => (HNW.out.later hsz p).all0.2.2.2.2.1
        have m5 := fun p : Later wq => (HNW.out.later hsz p).all0.2.2.2.2.2.1
        have m6 := fun p : Later wq => (HNW.out.later hsz p).all0.2.2.2.2.2.2
        have hm : Try.prog.follows .mixedOrders = true := HM.out
        refine wp_region_later hm (by kernel_rfl) ?_
        repeat (any_goals (first | go_big_quiet_step (first | (go_at_call 51; exact Calls.later (R1.out _))) | quiet_step (first | (go_at_call 51; exact Calls.later (R1.out _)))))
        refine wpQuiet_nil ?_
        intro wp hw'
        obtain ⟨lp, hlp⟩ := hw'
        have hbp := lp.bel
        rw [← hlp] at hbp
        clear hlp lp
        have hbn : Below w.heap.size w wp := HBB.out.trans ((HAL.out.trans (hbp.mono (by omega))).mono hz)
        have HBN := Lib.hid hbn; clear hbn
        clear HAL HNW m0 m1 m2 m3 m4 m5 m6
        go_wp2
        go_ret
        refine ⟨?_, HBN.out⟩
        rw [← HR.out, erightB_false (k := k) hlt (by simp [eokAt, HB.out, HX1.out])]
        rfl
    · go_wp2
      go_ret
      refine ⟨?_, hb⟩
      rw [← HR.out, erightB_true (fun j hj => HO.out j (by omega))]
      rfl
end Go.Proofs.Ytfjaeohfigcciab

