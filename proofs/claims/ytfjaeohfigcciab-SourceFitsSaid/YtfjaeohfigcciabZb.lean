/- Texts in one: Small, Mem, Right. -/
import Derived.Test.YtfjaeohfigcciabZa
import Derived.Test.YtfjaeohfigcciabRows
import Derived.WalkKit
import Derived.WalkSpells
import Derived.WalkLawsBesides
import Derived.Deep.QuietTactic
import Derived.BigQuiet
import Derived.Below
import Derived.Laws.OwnMore
import Derived.Deep.Draws
import Derived.Sort.Grow
import Derived.Shelf.SlSortCmp.QuietGrown
import Derived.Lib.Hide
/- The contracts of the small functions: a run is right, covers a pair, stands apart from the next one; two numbers compared. -/
namespace Go.Proofs.Ytfjaeohfigcciab
open Go.RowKit

set_option maxHeartbeats 400000 in
theorem rightRun_any (r lo hi : Int) (w : World) :
    Calls Try.prog 37 #[.agg #[.int .u8 r, .int .u32 lo, .int .u32 hi]] w fun e w' => e = .returned (.bool (rrB ⟨r, lo, hi⟩)) ∧ w' = w.alloc (.cells #[.int .u8 r, .int .u32 lo, .int .u32 hi] 49) := by
  by_cases h1 : r < 8
  · by_cases h2 : 1 ≤ lo
    · by_cases h3 : lo ≤ hi
      · have e : rrB ⟨r, lo, hi⟩ = true := by simp [rrB, h1, h2, h3]
        rw [e]; clear e
        go_enter Try.func37, Try.ntmps37
        go_wp2
        go_ret
        exact ⟨rfl, rfl⟩
      · have e : rrB ⟨r, lo, hi⟩ = false := by simp [rrB, h1, h2, h3]
        rw [e]; clear e
        go_enter Try.func37, Try.ntmps37
        go_wp2
        go_ret
        exact ⟨rfl, rfl⟩
    · have e : rrB ⟨r, lo, hi⟩ = false := by simp [rrB, h1, h2]
      rw [e]; clear e
      go_enter Try.func37, Try.ntmps37
      go_wp2
      go_ret
      exact ⟨rfl, rfl⟩
  · have e : rrB ⟨r, lo, hi⟩ = false := by simp [rrB, h1]
    rw [e]; clear e
    go_enter Try.func37, Try.ntmps37
    go_wp2
    go_ret
    exact ⟨rfl, rfl⟩


set_option maxHeartbeats 400000 in
theorem covers_any (r lo hi p n : Int) (w : World) :
    Calls Try.prog 38 #[.agg #[.int .u8 r, .int .u32 lo, .int .u32 hi], .int .u8 p, .int .u32 n] w fun e w' => e = .returned (.bool (covB ⟨r, lo, hi⟩ p n)) ∧ w' = w.alloc (.cells #[.int .u8 r, .int .u32 lo, .int .u32 hi] 49) := by
  by_cases h1 : r = p
  · subst h1
    by_cases h2 : lo ≤ n
    · by_cases h3 : n ≤ hi
      · have e : covB ⟨r, lo, hi⟩ r n = true := by simp [covB, h2, h3]
        rw [e]; clear e
        go_enter Try.func38, Try.ntmps38
        go_wp2
        go_ret
        exact ⟨rfl, rfl⟩
      · have e : covB ⟨r, lo, hi⟩ r n = false := by simp [covB, h2, h3]
        rw [e]; clear e
        go_enter Try.func38, Try.ntmps38
        go_wp2
        go_ret
        exact ⟨rfl, rfl⟩
    · have e : covB ⟨r, lo, hi⟩ r n = false := by simp [covB, h2]
      rw [e]; clear e
      go_enter Try.func38, Try.ntmps38
      go_wp2
      go_ret
      exact ⟨rfl, rfl⟩
  · have e : covB ⟨r, lo, hi⟩ p n = false := by simp [covB, h1]
    have h1' : (r == p) = false := by simp [h1]
    rw [e]; clear e
    go_enter Try.func38, Try.ntmps38
    go_wp2
    go_ret
    exact ⟨rfl, rfl⟩

set_option maxHeartbeats 400000 in
theorem apart_any (r lo hi r' lo' hi' : Int) (w : World) (a1 : 0 ≤ hi) (a2 : hi ≤ 4294967295) (b1 : 0 ≤ lo') (b2 : lo' ≤ 4294967295) :
    Calls Try.prog 42 #[.agg #[.int .u8 r, .int .u32 lo, .int .u32 hi], .agg #[.int .u8 r', .int .u32 lo', .int .u32 hi']] w fun e w' => e = .returned (.bool (apB ⟨r, lo, hi⟩ ⟨r', lo', hi'⟩)) ∧ w' = (w.alloc (.cells #[.int .u8 r, .int .u32 lo, .int .u32 hi] 49)).alloc (.cells #[.int .u8 r', .int .u32 lo', .int .u32 hi'] 49) := by
  by_cases h1 : r = r'
  · subst h1
    by_cases h2 : lo' ≤ hi
    · have e : apB ⟨r, lo, hi⟩ ⟨r, lo', hi'⟩ = false := by simp [apB]; omega
      rw [e]; clear e
      go_enter Try.func42, Try.ntmps42
      go_wp2
      go_ret
      exact ⟨rfl, rfl⟩
    · have hb1 : 0 ≤ lo' - hi := by omega
      have hb2 : lo' - hi ≤ 4294967295 := by omega
      by_cases h3 : lo' - hi = 1
      · have e : apB ⟨r, lo, hi⟩ ⟨r, lo', hi'⟩ = false := by simp [apB]; omega
        rw [e]; clear e
        have h3' : (lo' - hi == 1) = true := by simp [h3]
        clear h3
        go_enter Try.func42, Try.ntmps42
        go_wp2
        go_ret
        exact ⟨rfl, rfl⟩
      · have e : apB ⟨r, lo, hi⟩ ⟨r, lo', hi'⟩ = true := by simp [apB]; omega
        rw [e]; clear e
        have h3' : (lo' - hi == 1) = false := by simp [h3]
        go_enter Try.func42, Try.ntmps42
        go_wp2
        go_ret
        exact ⟨rfl, rfl⟩
  · have h1' : (r == r') = false := by simp [h1]
    by_cases h2 : r < r'
    · have e : apB ⟨r, lo, hi⟩ ⟨r', lo', hi'⟩ = true := by simp [apB, h2]
      rw [e]; clear e
      go_enter Try.func42, Try.ntmps42
      go_wp2
      go_ret
      exact ⟨rfl, rfl⟩
    · have e : apB ⟨r, lo, hi⟩ ⟨r', lo', hi'⟩ = false := by simp [apB]; omega
      rw [e]; clear e
      go_enter Try.func42, Try.ntmps42
      go_wp2
      go_ret
      exact ⟨rfl, rfl⟩

def cmpI (a b : Int) : Int := if a < b then -1 else if b < a then 1 else 0

/-- the closure that sorts: by Rep, then by From -/
def cmpR (x y : Rn) : Int := if x.r = y.r then cmpI x.lo y.lo else cmpI x.r y.r

end Go.Proofs.Ytfjaeohfigcciab

/- When a value is a slice that reads as a list of runs, and how that is carried from world to world. -/
namespace Go.Proofs.Ytfjaeohfigcciab
open Go.RowKit

/-- the cells of one run -/
def Rn.enc (x : Rn) : List Value := [.int .u8 x.r, .int .u32 x.lo, .int .u32 x.hi]

/-- a run lies at a place -/
def RnAt (w : World) (b o : Nat) (x : Rn) : Prop :=
  w.cell? ⟨b, o, none⟩ = some (.int .u8 x.r) ∧ w.cell? ⟨b, o + 1, none⟩ = some (.int .u32 x.lo) ∧ w.cell? ⟨b, o + 2, none⟩ = some (.int .u32 x.hi)

/-- v is a slice whose elements are zs, below block B -/
def Sl (w : World) (B : Nat) (v : Value) (zs : List Rn) : Prop :=
  ∃ A c, v = .slice A zs.length c ∧ (A = none → c = 0) ∧ (∀ x ∈ zs, x.ok) ∧ (zs ≠ [] → ∃ b off, A = some ⟨b, off, none⟩ ∧ b < B ∧ ∀ j x, zs[j]? = some x → RnAt w b (off + j * 3) x)

theorem RnAt.keep {w w' : World} {B b o : Nat} {x : Rn} (h : RnAt w b o x) (hb : Below B w w') (hB : b < B) : RnAt w' b o x := by
  obtain ⟨h0, h1, h2⟩ := h
  exact ⟨(hb.cell (p := ⟨b, o, none⟩) hB).trans h0, (hb.cell (p := ⟨b, o + 1, none⟩) hB).trans h1, (hb.cell (p := ⟨b, o + 2, none⟩) hB).trans h2⟩

theorem Sl.below {w w' : World} {B : Nat} {v : Value} {zs : List Rn} (h : Sl w B v zs) (hb : Below B w w') : Sl w' B v zs := by
  obtain ⟨A, c, hv, hn, hok, hA⟩ := h
  refine ⟨A, c, hv, hn, hok, fun hne => ?_⟩
  obtain ⟨b, off, rfl, hlt, hc⟩ := hA hne
  exact ⟨b, off, rfl, hlt, fun j x hj => (hc j x hj).keep hb hlt⟩
theorem Sl.more {w : World} {B B' : Nat} {v : Value} {zs : List Rn} (h : Sl w B v zs) (hB : B ≤ B') : Sl w B' v zs := by
  obtain ⟨A, c, hv, hn, hok, hA⟩ := h
  refine ⟨A, c, hv, hn, hok, fun hne => ?_⟩
  obtain ⟨b, off, rfl, hlt, hc⟩ := hA hne
  exact ⟨b, off, rfl, by omega, hc⟩
theorem Sl.nil (w : World) (B : Nat) : Sl w B (.slice none 0 0) [] := ⟨none, 0, rfl, fun _ => rfl, by simp, fun h => absurd rfl h⟩

/-- all that is old, in a world that has grown -/
theorem below_grow {B : Nat} (w : World) (n : Nat) (os : Array Obj) (hB : B ≤ w.heap.size) : Below B w (Sort.grow (w.drewN n) os) := by
  refine ⟨rfl, rfl, rfl, by simp [Sort.grow, World.drewN], fun i hi => ?_⟩
  show (w.heap ++ os)[i]? = w.heap[i]?
  rw [Array.getElem?_append_left (by omega)]

/-- the cells of runs, one behind the other -/
def flat (zs : List Rn) : List Value := zs.flatMap Rn.enc
theorem flat_length (zs : List Rn) : (flat zs).length = zs.length * 3 := by
  induction zs with
  | nil => rfl
  | cons x l ih => simp only [flat, List.flatMap_cons, List.length_append] at *; rw [ih]; simp [Rn.enc]; omega
theorem flat_append (zs ys : List Rn) : flat (zs ++ ys) = flat zs ++ flat ys := by simp [flat]
theorem flat_get (zs : List Rn) (j i : Nat) (x : Rn) (h : zs[j]? = some x) (hi : i < 3) : (flat zs)[j * 3 + i]? = x.enc[i]? := by
  induction zs generalizing j with
  | nil => simp at h
  | cons y l ih =>
    simp only [flat, List.flatMap_cons]
    match j, h with
    | 0, h =>
      simp at h; subst h
      rw [List.getElem?_append_left (by simp [Rn.enc]; omega)]
      congr 1; omega
    | j + 1, h =>
      rw [List.getElem?_append_right (by simp [Rn.enc]; omega)]
      have := ih j (by simpa using h)
      rw [← this]
      simp only [flat]
      congr 1
      simp [Rn.enc]; omega
theorem flat_one (x : Rn) : flat [x] = x.enc := by simp [flat]
theorem flat_one_cell (zs : List Rn) : ∀ u ∈ flat zs, u.oneCell' = true := by
  intro u hu
  simp only [flat, List.mem_flatMap] at hu
  obtain ⟨x, _, hx⟩ := hu
  simp only [Rn.enc, List.mem_cons, List.not_mem_nil, or_false] at hx
  rcases hx with rfl | rfl | rfl <;> rfl
theorem flat_set_hi (zs : List Rn) (j : Nat) (x : Rn) (q : Int) (h : zs[j]? = some x) : (flat zs).set (j * 3 + 2) (.int .u32 q) = flat (zs.set j ⟨x.r, x.lo, q⟩) := by
  induction zs generalizing j with
  | nil => simp at h
  | cons y l ih =>
    match j, h with
    | 0, h =>
      simp at h; subst h
      simp [flat, Rn.enc]
    | j + 1, h =>
      have := ih j (by simpa using h)
      simp only [flat, List.flatMap_cons, List.set_cons_succ] at *
      rw [← this]
      simp only [Rn.enc]
      rw [show (j + 1) * 3 + 2 = (j * 3 + 2) + 1 + 1 + 1 by omega]
      rfl

/-- v is a slice of the call's own, its elements zs, at block base or behind it -/
def Own (w : World) (base : Nat) (v : Value) (zs : List Rn) : Prop := w.ownsRow base 49 3 v zs.length (flat zs)
theorem Own.nil (w : World) (base : Nat) : Own w base (.slice none 0 0) [] := w.ownsRow_nil base 49 3
theorem Own.alloc {w : World} {base : Nat} {v : Value} {zs : List Rn} (h : Own w base v zs) (o : Obj) : Own (w.alloc o) base v zs := World.ownsRow.alloc h o
theorem Own.mono {w : World} {base base' : Nat} {v : Value} {zs : List Rn} (h : Own w base v zs) (hb : base' ≤ base) : Own w base' v zs := by
  refine ⟨h.1, ?_⟩
  rcases h.2 with hn | ⟨g, cap, cur, hv, hb', r⟩
  · exact .inl hn
  · exact .inr ⟨g, cap, cur, hv, by omega, r⟩
theorem Own.below {w w' : World} {base : Nat} {v : Value} {zs : List Rn} (h : Own w base v zs) (hb : Below w.heap.size w w') : Own w' base v zs := by
  refine ⟨h.1, ?_⟩
  rcases h.2 with hn | ⟨g, cap, cur, hv, hb', hg, r⟩
  · exact .inl hn
  · exact .inr ⟨g, cap, cur, hv, hb', (hb.block g (Array.getElem?_eq_some_iff.1 hg).1).trans hg, r⟩
theorem Own.lt {w : World} {base : Nat} {v : Value} {zs : List Rn} (h : Own w base v zs) : ∀ k, v.ownBlock = some k → base ≤ k ∧ k < w.heap.size := World.ownsRow.lt h
theorem Own.form {w : World} {base : Nat} {v : Value} {zs : List Rn} (h : Own w base v zs) : ∃ A c, v = .slice A zs.length c ∧ (A = none → c = 0) ∧ (zs ≠ [] → ∃ g, A = some ⟨g, 0, none⟩ ∧ base ≤ g ∧ g < w.heap.size) := by
  rcases h.2 with ⟨hv, hn⟩ | ⟨g, cap, cur, hv, hb', hg, r⟩
  · refine ⟨none, 0, ?_, fun _ => rfl, fun hne => ?_⟩
    · rw [hv, hn]
    · exact absurd (List.length_eq_zero_iff.1 hn) hne
  · exact ⟨_, cap, hv, (fun h => by simp at h), fun _ => ⟨g, rfl, hb', (Array.getElem?_eq_some_iff.1 hg).1⟩⟩
theorem Own.cell {w : World} {base g c n : Nat} {zs : List Rn} (h : Own w base (.slice (some ⟨g, 0, none⟩) n c) zs) (hn : n = zs.length) {j : Nat} {x : Rn} (hj : zs[j]? = some x) : RnAt w g (j * 3) x := by
  have hl : j < zs.length := (List.getElem?_eq_some_iff.1 hj).1
  subst hn
  have hc := fun i (hi : i < 3) => (World.ownsRow.cellAt h (j * 3 + i) (by omega)).trans (flat_get zs j i x hj hi)
  exact ⟨by have := hc 0 (by omega); simpa [Rn.enc] using this, by have := hc 1 (by omega); simpa [Rn.enc] using this, by have := hc 2 (by omega); simpa [Rn.enc] using this⟩
theorem Own.sl {w : World} {base : Nat} {v : Value} {zs : List Rn} (h : Own w base v zs) (hok : ∀ x ∈ zs, x.ok) : Sl w w.heap.size v zs := by
  obtain ⟨A, c, rfl, hn, hA⟩ := h.form
  refine ⟨A, c, rfl, hn, hok, fun hne => ?_⟩
  obtain ⟨g, rfl, _, hlt⟩ := hA hne
  exact ⟨g, 0, rfl, hlt, fun j x hj => by rw [Nat.zero_add]; exact h.cell rfl hj⟩
/-- one cell of the last field stored anew -/
theorem Own.set {w : World} {base g c n : Nat} {zs : List Rn} (h : Own w base (.slice (some ⟨g, 0, none⟩) n c) zs) (hn : n = zs.length) {j : Nat} {x : Rn} (hj : zs[j]? = some x) (q : Int) :
    Own (w.setCell ⟨g, j * 3 + 2, none⟩ (.int .u32 q)) base (.slice (some ⟨g, 0, none⟩) n c) (zs.set j ⟨x.r, x.lo, q⟩) ∧ w.grownBy (w.setCell ⟨g, j * 3 + 2, none⟩ (.int .u32 q)) (some g) := by
  subst hn
  have := World.ownsRow.stored h (j * 3 + 2) (.int .u32 q)
  rw [flat_set_hi zs j x q hj] at this
  refine ⟨?_, this.2⟩
  have h1 := this.1
  unfold Own
  rw [List.length_set]
  exact h1
theorem Own.frozen {w : World} {base g c n : Nat} {zs : List Rn} (h : Own w base (.slice (some ⟨g, 0, none⟩) n c) zs) (hn : n = zs.length) (j : Nat) : w.frozen? ⟨g, j, none⟩ = false := by
  subst hn
  exact World.ownsRow.frozenAt h j
end Go.Proofs.Ytfjaeohfigcciab

/- The contract of know.Right: a slice of runs is right just where the plain test says so; the call leaves all that was there. -/
namespace Go.Proofs.Ytfjaeohfigcciab
open Go.RowKit Go.Sort

def okAt (zs : List Rn) (i : Nat) : Bool := rrB zs[i]! && (decide (i = 0) || apB zs[i - 1]! zs[i]!)
def rightB (zs : List Rn) : Bool := decide (zs.length ≤ 64) && (List.range zs.length).all (okAt zs)

theorem rightB_true {zs : List Rn} (h : zs.length ≤ 64) (ha : ∀ j, j < zs.length → okAt zs j = true) : rightB zs = true := by
  simp only [rightB, Bool.and_eq_true, decide_eq_true_eq, List.all_eq_true, List.mem_range]
  exact ⟨h, ha⟩
theorem rightB_false {zs : List Rn} {k : Nat} (hk : k < zs.length) (ha : okAt zs k = false) : rightB zs = false := by
  simp only [rightB, Bool.and_eq_false_iff, List.all_eq_false, List.mem_range]
  exact .inr ⟨k, hk, by simp [ha]⟩

theorem rightRun_grown (r lo hi : Int) (w : World) (n : Nat) (os : Array Obj) :
    Calls Try.prog 37 #[.agg #[.int .u8 r, .int .u32 lo, .int .u32 hi]] (grow (w.drewN n) os) fun e w' => e = .returned (.bool (rrB ⟨r, lo, hi⟩)) ∧ ∃ p : GrownBy, w' = grow (w.drewN p.n) p.os :=
  Calls.grown_of ((rightRun_any r lo hi _).mono fun _ _ ⟨he, hw⟩ => ⟨he, 0, _, hw.trans (alloc_eq_grow _ _)⟩)
theorem apart_grown (r lo hi r' lo' hi' : Int) (w : World) (n : Nat) (os : Array Obj) (a1 : 0 ≤ hi) (a2 : hi ≤ 4294967295) (b1 : 0 ≤ lo') (b2 : lo' ≤ 4294967295) :
    Calls Try.prog 42 #[.agg #[.int .u8 r, .int .u32 lo, .int .u32 hi], .agg #[.int .u8 r', .int .u32 lo', .int .u32 hi']] (grow (w.drewN n) os) fun e w' => e = .returned (.bool (apB ⟨r, lo, hi⟩ ⟨r', lo', hi'⟩)) ∧ ∃ p : GrownBy, w' = grow (w.drewN p.n) p.os :=
  Calls.grown_of ((apart_any r lo hi r' lo' hi' _ a1 a2 b1 b2).mono fun _ _ ⟨he, hw⟩ => ⟨he, 0, _, hw.trans ((alloc_eq_grow _ _).trans ((congrArg (fun u => grow u _) (alloc_eq_grow _ _)).trans (grow_grow _ _ _)))⟩)

theorem getBang_of {zs : List Rn} {k : Nat} {x : Rn} (h : zs[k]? = some x) : zs[k]! = x := by simp [List.getElem!_eq_getElem?_getD, h]

/-- a new block, and what is old, in every world that has grown from it -/
theorem new_run (wr : World) (x : Rn) (n : Nat) (os : Array Obj) : RnAt (grow ((wr.alloc (.cells #[.int .u8 x.r, .int .u32 x.lo, .int .u32 x.hi] 49)).drewN n) os) wr.heap.size 0 x := by
  refine ⟨cell_grown ?_ ?_ n os, cell_grown ?_ ?_ n os, cell_grown ?_ ?_ n os⟩ <;> simp
theorem old_run {B b o : Nat} {x : Rn} (wr : World) (ob : Obj) (n : Nat) (os : Array Obj) (h : RnAt wr b o x) (hb : b < B) (hB : B ≤ wr.heap.size) : RnAt (grow ((wr.alloc ob).drewN n) os) b o x :=
  (h.keep ((Below.refl B wr).alloc hB ob) hb).keep (below_grow (B := B) _ n os (by simp; omega)) hb

set_option maxHeartbeats 2000000 in
theorem Right_any (w : World) (v : Value) (zs : List Rn) (h : Sl w w.heap.size v zs) :
    Calls Try.prog 28 #[v] w fun e w' => e = .returned (.bool (rightB zs)) ∧ Below w.heap.size w w' := by
  obtain ⟨A, c, rfl, _, hok, hA⟩ := h
  by_cases h64 : 64 < zs.length
  · have e : rightB zs = false := by simp [rightB]; intro; omega
    rw [e]; clear e
    go_enter Try.func28, Try.ntmps28
    go_wp2
    go_ret
    exact ⟨rfl, Below.refl _ _⟩
  · have hm : Try.prog.follows .mixedOrders = true := by kernel_rfl
    have HA := Lib.hid hA; clear hA
    have HM := Lib.hid hm; clear hm
    have HK := Lib.hid hok; clear hok
    generalize hrb : rightB zs = rb
    have HR := Lib.hid hrb; clear hrb
    go_enter Try.func28, Try.ntmps28
    go_wp2
    go_loopw [10] (fun i wr => ∃ k : Nat, i = .int .i64 k ∧ k ≤ zs.length ∧ Hid (∀ j, j < k → okAt zs j = true) ∧ Below w.heap.size w wr) (fun i _ => zs.length - (intOf i).toNat)
    case atStart => exact ⟨0, rfl, by omega, Lib.hid (fun j hj => absurd hj (by omega)), Below.refl _ _⟩
    case round =>
      obtain ⟨k, rfl, hk, HO, hb⟩ := hrel
      by_cases hlt : k < zs.length
      · obtain ⟨b, off, rfl, hbw, hc⟩ := HA.out (by intro h; simp [h] at hlt)
        have hxk : zs[k]? = some zs[k] := List.getElem?_eq_getElem hlt
        generalize zs[k] = x at hxk
        have hxB := getBang_of hxk
        obtain ⟨⟨o1, o2⟩, ⟨o3, o4⟩, o5, o6⟩ := HK.out x (List.mem_of_getElem? hxk)
        have hz := hb.size
        have hnew := new_run wr x
        have hal := fun (B : Nat) (hB : B ≤ wr.heap.size) => (Below.refl B wr).alloc hB (.cells #[.int .u8 x.r, .int .u32 x.lo, .int .u32 x.hi] 49)
        have hsz : wr.heap.size ≤ (wr.alloc (.cells #[.int .u8 x.r, .int .u32 x.lo, .int .u32 x.hi] 49)).heap.size := by simp
        have hold := fun (b o : Nat) (y : Rn) (n : Nat) (os : Array Obj) (h : RnAt wr b o y) (hb : b < w.heap.size) => old_run (B := w.heap.size) wr (.cells #[.int .u8 x.r, .int .u32 x.lo, .int .u32 x.hi] 49) n os h hb hz
        obtain ⟨c0, c1, c2⟩ := (hc k x hxk).keep hb hbw
        have HX := Lib.hid hxk; clear hxk
        have HB := Lib.hid hxB; clear hxB
        have HC := Lib.hid hc; clear hc
        have HN := Lib.hid hnew; clear hnew
        have HL := Lib.hid hal; clear hal
        have HD := Lib.hid hold; clear hold
        by_cases hx : rrB x = true
        · have r1 := fun (W : World) n os => rightRun_grown x.r x.lo x.hi W n os
          rw [show rrB ⟨x.r, x.lo, x.hi⟩ = true from hx] at r1
          have HX1 := Lib.hid hx; clear hx
          have R1 := Lib.hid r1; clear r1
          by_cases hk0 : 0 < k
          ·
            obtain ⟨j, rfl⟩ : ∃ j, k = j + 1 := ⟨k - 1, by omega⟩
            have hyk : zs[j]? = some zs[j] := List.getElem?_eq_getElem (by omega)
            generalize zs[j] = y at hyk
            have hyB := getBang_of hyk
            obtain ⟨⟨p1, p2⟩, ⟨p3, p4⟩, p5, p6⟩ := HK.out y (List.mem_of_getElem? hyk)
            have hyat := (HC.out j y hyk).keep hb hbw
            have HY := Lib.hid hyk; clear hyk
            have HYB := Lib.hid hyB; clear hyB
            have HYA := Lib.hid hyat; clear hyat
            have r2 := fun (W : World) n os => apart_grown y.r y.lo y.hi x.r x.lo x.hi W n os p5 p6 o3 o4
            rw [show apB ⟨y.r, y.lo, y.hi⟩ ⟨x.r, x.lo, x.hi⟩ = apB y x from rfl] at r2
            by_cases hp : apB y x = true
            ·
              rw [hp] at r2
              have HP := Lib.hid hp; clear hp
              have R2 := Lib.hid r2; clear r2
              go_wp2_with fail
              generalize hwq : wr.alloc (.cells #[.int .u8 x.r, .int .u32 x.lo, .int .u32 x.hi] 49) = wq at HN HL HD hsz ⊢
              clear hwq
              have m0 := fun n os => (HN.out n os).1
              have m1 := fun n os => (HN.out n os).2.1
              have m2 := fun n os => (HN.out n os).2.2
              have hm : Try.prog.follows .mixedOrders = true := HM.out
              have y0 := fun n os => (HD.out _ _ _ n os HYA.out hbw).1
              have y1 := fun n os => (HD.out _ _ _ n os HYA.out hbw).2.1
              have y2 := fun n os => (HD.out _ _ _ n os HYA.out hbw).2.2
              have i2 : j < zs.length := by omega
              have i1 : IntKind.i64.wrap (j : Int) = (j : Int) := IntWalk.i64_in _ (by omega)
              refine wp_region_quiet_grown hm (by kernel_rfl) ?_
              repeat (any_goals (first | go_big_quiet_step (first | (go_at_call 37; exact R1.out _ _ _) | (go_at_call 42; exact R2.out _ _ _)) | quiet_step (first | (go_at_call 37; exact R1.out _ _ _) | (go_at_call 42; exact R2.out _ _ _))))
              refine wpQuiet_nil ?_
              intro _ hw'
              obtain ⟨⟨nq, osq⟩, hw''⟩ := hw'
              subst hw''
              clear i1
              have hbn : Below w.heap.size w (grow (wq.drewN nq) osq) := hb.trans ((HL.out _ hz).trans (below_grow wq nq osq (by omega)))
              have HBN := Lib.hid hbn; clear hbn
              clear HL HD HN
              go_wp2
              go_roundw
              case rel =>
                refine ⟨j + 1 + 1, by go_num, by omega, Lib.hid (fun i hi => ?_), HBN.out⟩
                rcases Nat.lt_or_ge i (j + 1) with h | h
                · exact HO.out i h
                · obtain rfl : i = j + 1 := by omega
                  simp [okAt, HB.out, HYB.out, HX1.out, HP.out]
              case measure => simp [intOf]; omega

            ·
              have hp : apB y x = false := by simpa using hp
              rw [hp] at r2
              have HP := Lib.hid hp; clear hp
              have R2 := Lib.hid r2; clear r2
              go_wp2_with fail
              generalize hwq : wr.alloc (.cells #[.int .u8 x.r, .int .u32 x.lo, .int .u32 x.hi] 49) = wq at HN HL HD hsz ⊢
              clear hwq
              have m0 := fun n os => (HN.out n os).1
              have m1 := fun n os => (HN.out n os).2.1
              have m2 := fun n os => (HN.out n os).2.2
              have hm : Try.prog.follows .mixedOrders = true := HM.out
              have y0 := fun n os => (HD.out _ _ _ n os HYA.out hbw).1
              have y1 := fun n os => (HD.out _ _ _ n os HYA.out hbw).2.1
              have y2 := fun n os => (HD.out _ _ _ n os HYA.out hbw).2.2
              have i2 : j < zs.length := by omega
              have i1 : IntKind.i64.wrap (j : Int) = (j : Int) := IntWalk.i64_in _ (by omega)
              refine wp_region_quiet_grown hm (by kernel_rfl) ?_
              repeat (any_goals (first | go_big_quiet_step (first | (go_at_call 37; exact R1.out _ _ _) | (go_at_call 42; exact R2.out _ _ _)) | quiet_step (first | (go_at_call 37; exact R1.out _ _ _) | (go_at_call 42; exact R2.out _ _ _))))
              refine wpQuiet_nil ?_
              intro _ hw'
              obtain ⟨⟨nq, osq⟩, hw''⟩ := hw'
              subst hw''
              clear i1
              have hbn : Below w.heap.size w (grow (wq.drewN nq) osq) := hb.trans ((HL.out _ hz).trans (below_grow wq nq osq (by omega)))
              have HBN := Lib.hid hbn; clear hbn
              clear HL HD HN
              go_wp2
              go_ret
              refine ⟨?_, HBN.out⟩
              rw [← HR.out, rightB_false (k := j + 1) hlt (by simp [okAt, HB.out, HYB.out, HX1.out, HP.out])]
              rfl

          · have hk1 : decide (0 < k) = false := by simp; omega
            have HK0 := Lib.hid hk0; clear hk0
            go_wp2_with fail
            generalize hwq : wr.alloc (.cells #[.int .u8 x.r, .int .u32 x.lo, .int .u32 x.hi] 49) = wq at HN HL HD hsz ⊢
            clear hwq
            have m0 := fun n os => (HN.out n os).1
            have m1 := fun n os => (HN.out n os).2.1
            have m2 := fun n os => (HN.out n os).2.2
            have hm : Try.prog.follows .mixedOrders = true := HM.out
            refine wp_region_quiet_grown hm (by kernel_rfl) ?_
            repeat (any_goals (first | go_big_quiet_step (first | (go_at_call 37; exact R1.out _ _ _)) | quiet_step (first | (go_at_call 37; exact R1.out _ _ _))))
            refine wpQuiet_nil ?_
            intro _ hw'
            obtain ⟨⟨nq, osq⟩, hw''⟩ := hw'
            subst hw''
            have hbn : Below w.heap.size w (grow (wq.drewN nq) osq) := hb.trans ((HL.out _ hz).trans (below_grow wq nq osq (by omega)))
            have HBN := Lib.hid hbn; clear hbn
            clear HL HD HN
            go_wp2
            go_roundw
            case rel =>
              refine ⟨k + 1, by go_num, by omega, Lib.hid (fun i hi => ?_), HBN.out⟩
              rcases Nat.lt_or_ge i (k) with h | h
              · exact HO.out i h
              · obtain rfl : i = k := by omega
                have := HK0.out
                simp [okAt, HB.out, HX1.out]
                omega
            case measure => simp [intOf]; omega
        · have hx : rrB x = false := by simpa using hx
          have r1 := fun (W : World) n os => rightRun_grown x.r x.lo x.hi W n os
          rw [show rrB ⟨x.r, x.lo, x.hi⟩ = false from hx] at r1
          have HX1 := Lib.hid hx; clear hx
          have R1 := Lib.hid r1; clear r1
          go_wp2_with fail
          generalize hwq : wr.alloc (.cells #[.int .u8 x.r, .int .u32 x.lo, .int .u32 x.hi] 49) = wq at HN HL HD hsz ⊢
          clear hwq
          have m0 := fun n os => (HN.out n os).1
          have m1 := fun n os => (HN.out n os).2.1
          have m2 := fun n os => (HN.out n os).2.2
          have hm : Try.prog.follows .mixedOrders = true := HM.out
          refine wp_region_quiet_grown hm (by kernel_rfl) ?_
          repeat (any_goals (first | go_big_quiet_step (first | (go_at_call 37; exact R1.out _ _ _)) | quiet_step (first | (go_at_call 37; exact R1.out _ _ _))))
          refine wpQuiet_nil ?_
          intro _ hw'
          obtain ⟨⟨nq, osq⟩, hw''⟩ := hw'
          subst hw''
          have hbn : Below w.heap.size w (grow (wq.drewN nq) osq) := hb.trans ((HL.out _ hz).trans (below_grow wq nq osq (by omega)))
          have HBN := Lib.hid hbn; clear hbn
          clear HL HD HN
          go_wp2
          go_ret
          refine ⟨?_, HBN.out⟩
          rw [← HR.out, rightB_false (k := k) hlt (by simp [okAt, HB.out, HX1.out])]
          rfl

      · go_wp2
        go_ret
        refine ⟨?_, hb⟩
        rw [← HR.out, rightB_true (by omega) (fun j hj => HO.out j (by omega))]
        rfl

end Go.Proofs.Ytfjaeohfigcciab

