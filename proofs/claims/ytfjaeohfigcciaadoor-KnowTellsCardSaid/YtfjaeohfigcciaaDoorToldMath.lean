/- The reference's way to tell a set, by marks where something begins or ends: what its scanning makes. Plain lists and numbers. -/
import Derived.Test.YtfjaeohfigcciaaDoorMath
namespace Go.Proofs.YtfjaeohfigcciaaDoor

/-- is a number in the set, at one replica: of zs, without one pair -/
def inS (zs : List Rn) (p wo r n : Int) : Bool := covs zs r n && !((decide (p = r) && decide (0 < wo)) && decide (n = wo))
def IsMark (zs : List Rn) (p wo r x : Int) : Prop := (∃ y ∈ zs, y.r = r ∧ (x = y.lo ∨ x = y.hi + 1)) ∨ ((p = r ∧ 0 < wo) ∧ (x = wo ∨ x = wo + 1))
def Asc (ms : List Int) : Prop := ms.Pairwise (· < ·)

theorem inS_step {zs : List Rn} {p wo r n : Int} (h : inS zs p wo r n ≠ inS zs p wo r (n + 1)) : IsMark zs p wo r (n + 1) := by
  by_cases hw : (p = r ∧ 0 < wo) ∧ (n = wo ∨ n + 1 = wo)
  · exact .inr ⟨hw.1, by omega⟩
  · have e1 : ∀ m, (m = n ∨ m = n + 1) → inS zs p wo r m = covs zs r m := by
      intro m hm
      have : ((decide (p = r) && decide (0 < wo)) && decide (m = wo)) = false := by
        by_cases h1 : p = r ∧ 0 < wo
        · have : m ≠ wo := by rcases hm with rfl | rfl <;> (intro e; exact hw ⟨h1, by omega⟩)
          simp [this]
        · by_cases h2 : p = r
          · simp [h2]; intro h3; exact absurd ⟨h2, h3⟩ h1
          · simp [h2]
      simp [inS, this]
    rw [e1 n (.inl rfl), e1 (n + 1) (.inr rfl)] at h
    left
    by_cases hc : covs zs r n = true
    · rw [hc] at h
      obtain ⟨y, hy, h1, h2, h3⟩ := (covs_iff _ _ _).1 hc
      refine ⟨y, hy, h1, .inr ?_⟩
      rcases Int.lt_or_le n y.hi with h4 | h4
      · have : covs zs r (n + 1) = true := (covs_iff _ _ _).2 ⟨y, hy, h1, by omega, by omega⟩
        rw [this] at h; exact absurd rfl h
      · omega
    · have hc : covs zs r n = false := by simpa using hc
      rw [hc] at h
      have : covs zs r (n + 1) = true := by
        cases h' : covs zs r (n + 1)
        · rw [h'] at h; exact absurd rfl h
        · rfl
      obtain ⟨y, hy, h1, h2, h3⟩ := (covs_iff _ _ _).1 this
      refine ⟨y, hy, h1, .inl ?_⟩
      rcases Int.lt_or_le y.lo (n + 1) with h4 | h4
      · have : covs zs r n = true := (covs_iff _ _ _).2 ⟨y, hy, h1, by omega, by omega⟩
        rw [this] at hc; cases hc
      · omega
theorem inS_const {zs : List Rn} {p wo r a : Int} : ∀ d : Nat, (∀ x, a < x → x ≤ a + d → ¬ IsMark zs p wo r x) → inS zs p wo r (a + d) = inS zs p wo r a
  | 0, _ => by simp
  | d + 1, h => by
    have ih := inS_const d fun x h1 h2 => h x h1 (by omega)
    rw [← ih]
    by_cases he : inS zs p wo r (a + d) = inS zs p wo r (a + (d : Int) + 1)
    · rw [show a + ((d + 1 : Nat) : Int) = a + (d : Int) + 1 by omega]; exact he.symm
    · exact absurd (inS_step he) (h _ (by omega) (by omega))
theorem inS_between {zs : List Rn} {p wo r a b : Int} (hab : a ≤ b) (h : ∀ x, a < x → x ≤ b → ¬ IsMark zs p wo r x) : inS zs p wo r b = inS zs p wo r a := by
  have := inS_const (zs := zs) (p := p) (wo := wo) (r := r) (a := a) (b - a).toNat (fun x h1 h2 => h x h1 (by omega))
  rw [show a + ((b - a).toNat : Int) = b by omega] at this
  exact this

/-- below the next mark -/
def under (n : Int) : Option Int → Prop
  | none => True
  | some b => n < b
instance (n : Int) (o : Option Int) : Decidable (under n o) := by cases o <;> (unfold under; infer_instance)

structure Marked (zs : List Rn) (p wo r : Int) (ms : List Int) : Prop where
  asc : Asc ms
  mem : ∀ x, x ∈ ms ↔ IsMark zs p wo r x

theorem Marked.const {zs : List Rn} {p wo r : Int} {ms : List Int} (h : Marked zs p wo r ms) {i : Nat} {m n : Int} (hm : ms[i]? = some m) (h1 : m ≤ n) (h2 : under n ms[i + 1]?) : inS zs p wo r n = inS zs p wo r m := by
  refine inS_between h1 fun x hx1 hx2 hx => ?_
  obtain ⟨j, hj, rfl⟩ := List.mem_iff_getElem.1 ((h.mem x).2 hx)
  obtain ⟨hi, rfl⟩ := List.getElem?_eq_some_iff.1 hm
  have ha := List.pairwise_iff_getElem.1 h.asc
  rcases Nat.lt_trichotomy i j with hij | rfl | hij
  · rcases Nat.lt_or_ge (i + 1) j with h3 | h3
    · have h4 := ha (i + 1) j (by omega) hj h3
      rw [List.getElem?_eq_getElem (by omega)] at h2
      have : n < ms[i + 1] := h2
      omega
    · obtain rfl : j = i + 1 := by omega
      rw [List.getElem?_eq_getElem hj] at h2
      have : n < ms[i + 1] := h2
      omega
  · omega
  · have := ha j i hj hi hij
    omega
theorem Marked.before {zs : List Rn} {p wo r : Int} {ms : List Int} (h : Marked zs p wo r ms) (hz : ∀ x ∈ zs, 1 ≤ x.lo) {n : Int} (h2 : under n ms[0]?) : inS zs p wo r n = false := by
  rcases Int.lt_or_le n 1 with h0 | h0
  · have : covs zs r n = false := by
      rw [← Bool.not_eq_true, covs_iff]
      rintro ⟨y, hy, _, h3, _⟩
      have := hz y hy
      omega
    simp [inS, this]
  · have : inS zs p wo r n = inS zs p wo r 0 := by
      refine inS_between (by omega) fun x hx1 hx2 hx => ?_
      obtain ⟨j, hj, rfl⟩ := List.mem_iff_getElem.1 ((h.mem x).2 hx)
      have ha := List.pairwise_iff_getElem.1 h.asc
      rw [List.getElem?_eq_getElem (by omega)] at h2
      have h3 : n < ms[0] := h2
      rcases Nat.eq_zero_or_pos j with rfl | hj0
      · omega
      · have := ha 0 j (by omega) hj hj0
        omega
    rw [this]
    have : covs zs r 0 = false := by
      rw [← Bool.not_eq_true, covs_iff]
      rintro ⟨y, hy, _, h3, _⟩
      have := hz y hy
      omega
    simp [inS, this]
theorem Marked.next {zs : List Rn} {p wo r : Int} {ms : List Int} (h : Marked zs p wo r ms) {i : Nat} {m : Int} (hm : ms[i]? = some m) : under m ms[i + 1]? := by
  obtain ⟨hi, rfl⟩ := List.getElem?_eq_some_iff.1 hm
  rcases Nat.lt_or_ge (i + 1) ms.length with h1 | h1
  · rw [List.getElem?_eq_getElem h1]
    exact List.pairwise_iff_getElem.1 h.asc i (i + 1) hi h1 (by omega)
  · rw [List.getElem?_eq_none h1]; trivial

theorem under_trans {a b : Int} {o : Option Int} (h : a ≤ b) (hb : under b o) : under a o := by
  cases o with
  | none => trivial
  | some c => exact Int.lt_of_le_of_lt h hb

/-- where the scanning stands behind i marks, nothing being open -/
structure Shut (zs : List Rn) (p wo r : Int) (ms : List Int) (i : Nat) (Y : List Rn) : Prop where
  good : Good Y
  own : ∀ y ∈ Y, y.r = r
  far : ∀ y ∈ Y, under (y.hi + 1) ms[i]?
  tells : ∀ n, covs Y r n = (inS zs p wo r n && decide (under n ms[i]?))
/-- .. a run being open that began at f -/
structure Open (zs : List Rn) (p wo r : Int) (ms : List Int) (i : Nat) (Y : List Rn) (f : Int) : Prop where
  good : Good Y
  own : ∀ y ∈ Y, y.r = r
  far : ∀ y ∈ Y, y.hi + 1 < f
  pos : 1 ≤ f
  ahead : under f ms[i]?
  tells : ∀ n, covs Y r n = (inS zs p wo r n && decide (n < f))
  on : ∀ n, f ≤ n → under n ms[i]? → inS zs p wo r n = true

theorem Shut.start {zs : List Rn} {p wo r : Int} {ms : List Int} (h : Marked zs p wo r ms) (hz : ∀ x ∈ zs, 1 ≤ x.lo) : Shut zs p wo r ms 0 [] := by
  refine ⟨⟨by simp, by simp⟩, by simp, by simp, fun n => ?_⟩
  by_cases hu : under n ms[0]?
  · rw [h.before hz hu]; rfl
  · simp [hu, covs]
theorem Shut.opens {zs : List Rn} {p wo r : Int} {ms : List Int} {i : Nat} {Y : List Rn} {m : Int} (h : Shut zs p wo r ms i Y) (hm : Marked zs p wo r ms) (hi : ms[i]? = some m) (hs : inS zs p wo r m = true) (hp : 1 ≤ m) : Open zs p wo r ms (i + 1) Y m := by
  obtain ⟨g1, g2, g3, g4⟩ := h
  rw [hi] at g3 g4
  exact ⟨g1, g2, g3, hp, hm.next hi, g4, fun n h1 h2 => by rw [hm.const hi h1 h2]; exact hs⟩
theorem Shut.stays {zs : List Rn} {p wo r : Int} {ms : List Int} {i : Nat} {Y : List Rn} {m : Int} (h : Shut zs p wo r ms i Y) (hm : Marked zs p wo r ms) (hi : ms[i]? = some m) (hs : inS zs p wo r m = false) : Shut zs p wo r ms (i + 1) Y := by
  obtain ⟨g1, g2, g3, g4⟩ := h
  rw [hi] at g3 g4
  refine ⟨g1, g2, fun y hy => under_trans (Int.le_of_lt (g3 y hy)) (hm.next hi), fun n => ?_⟩
  rw [g4]
  by_cases h1 : n < m
  · have h2 : under n ms[i + 1]? := under_trans (Int.le_of_lt h1) (hm.next hi)
    have h3 : under n (some m) := h1
    simp [h2, h3]
  · have h3 : ¬ under n (some m) := h1
    by_cases h2 : under n ms[i + 1]?
    · rw [hm.const hi (by omega) h2, hs]; simp
    · simp [h2, h3]
theorem Open.stays {zs : List Rn} {p wo r : Int} {ms : List Int} {i : Nat} {Y : List Rn} {f m : Int} (h : Open zs p wo r ms i Y f) (hm : Marked zs p wo r ms) (hi : ms[i]? = some m) (hs : inS zs p wo r m = true) : Open zs p wo r ms (i + 1) Y f := by
  obtain ⟨g1, g2, g3, g4, g5, g6, g7⟩ := h
  rw [hi] at g5 g7
  refine ⟨g1, g2, g3, g4, under_trans (Int.le_of_lt g5) (hm.next hi), g6, fun n h1 h2 => ?_⟩
  rcases Int.lt_or_le n m with h3 | h3
  · exact g7 n h1 h3
  · rw [hm.const hi h3 h2]; exact hs
theorem Open.shuts {zs : List Rn} {p wo r : Int} {ms : List Int} {i : Nat} {Y : List Rn} {f m : Int} (h : Open zs p wo r ms i Y f) (hm : Marked zs p wo r ms) (hi : ms[i]? = some m) (hs : inS zs p wo r m = false) (hr : r < 8) : Shut zs p wo r ms (i + 1) (Y ++ [⟨r, f, m - 1⟩]) := by
  obtain ⟨g1, g2, g3, g4, g5, g6, g7⟩ := h
  rw [hi] at g5 g7
  have hfm : f < m := g5
  refine ⟨⟨fun y hy => ?_, ?_⟩, fun y hy => ?_, fun y hy => ?_, fun n => ?_⟩
  · rcases List.mem_append.1 hy with hy | hy
    · exact g1.1 y hy
    · simp at hy; subst hy; rw [rr_iff]; exact ⟨hr, g4, by simp only; omega⟩
  · rw [List.pairwise_append]
    refine ⟨g1.2, by simp, fun a ha b hb => ?_⟩
    simp at hb; subst hb
    rw [ap_iff]
    exact .inr ⟨g2 a ha, g3 a ha⟩
  · rcases List.mem_append.1 hy with hy | hy
    · exact g2 y hy
    · simp at hy; subst hy; rfl
  · rcases List.mem_append.1 hy with hy | hy
    · have := g3 y hy
      exact under_trans (show y.hi + 1 ≤ m by omega) (hm.next hi)
    · simp at hy; subst hy
      exact under_trans (show m - 1 + 1 ≤ m by omega) (hm.next hi)
  · rw [covs_append, g6]
    have e : covs [(⟨r, f, m - 1⟩ : Rn)] r n = (decide (f ≤ n) && decide (n < m)) := by
      rw [Bool.eq_iff_iff, covs_iff, Bool.and_eq_true, decide_eq_true_eq, decide_eq_true_eq]
      simp only [List.mem_singleton, exists_eq_left, true_and]
      omega
    rw [e]
    rcases Int.lt_or_le n f with h1 | h1
    · have h2 : under n ms[i + 1]? := under_trans (show n ≤ m by omega) (hm.next hi)
      have h3 : ¬ f ≤ n := by omega
      simp [h1, h2, h3]
    · have h3 : ¬ n < f := by omega
      rcases Int.lt_or_le n m with h4 | h4
      · have h2 : under n ms[i + 1]? := under_trans (show n ≤ m by omega) (hm.next hi)
        rw [g7 n h1 h4]
        simp [h1, h2, h3, h4]
      · have h5 : ¬ n < m := by omega
        by_cases h2 : under n ms[i + 1]?
        · rw [hm.const hi h4 h2, hs]; simp [h3, h5]
        · simp [h2, h3, h5]
/-- behind all marks nothing is open -/
theorem Open.never {zs : List Rn} {p wo r : Int} {ms : List Int} {Y : List Rn} {f : Int} (h : Open zs p wo r ms ms.length Y f) : False := by
  have hb : ∀ l : List Rn, ∃ M : Int, ∀ y ∈ l, y.hi < M := by
    intro l
    induction l with
    | nil => exact ⟨0, by simp⟩
    | cons x l ih =>
      obtain ⟨M, hM⟩ := ih
      refine ⟨max M (x.hi + 1), fun y hy => ?_⟩
      rcases List.mem_cons.1 hy with rfl | hy
      · omega
      · have := hM y hy; omega
  obtain ⟨M, hM⟩ := hb zs
  have := h.on (max M f) (by omega) (by rw [List.getElem?_eq_none (Nat.le_refl _)]; trivial)
  have hc : covs zs r (max M f) = true := by
    simp only [inS, Bool.and_eq_true] at this
    exact this.1
  obtain ⟨y, hy, _, _, h3⟩ := (covs_iff _ _ _).1 hc
  have := hM y hy
  omega
theorem Shut.done {zs : List Rn} {p wo r : Int} {ms : List Int} {Y : List Rn} (h : Shut zs p wo r ms ms.length Y) (n : Int) : covs Y r n = inS zs p wo r n := by
  rw [h.tells, List.getElem?_eq_none (Nat.le_refl _), decide_eq_true (show under n none from trivial), Bool.and_true]

/-- the runs of the replicas below r -/
structure Told (zs : List Rn) (p wo : Int) (r : Nat) (P : List Rn) : Prop where
  good : Good P
  low : ∀ y ∈ P, y.r < r
  tells : ∀ q n, covs P q n = (inS zs p wo q n && decide (q < r))
theorem Told.start {zs : List Rn} {p wo : Int} (hz : ∀ x ∈ zs, 0 ≤ x.r) : Told zs p wo 0 [] := by
  refine ⟨⟨by simp, by simp⟩, by simp, fun q n => ?_⟩
  by_cases h : q < ((0 : Nat) : Int)
  · have : covs zs q n = false := by
      rw [← Bool.not_eq_true, covs_iff]
      rintro ⟨y, hy, h1, _⟩
      have := hz y hy
      omega
    simp only [inS, this, Bool.false_and]; rfl
  · simp only [h, decide_false, Bool.and_false]; rfl
theorem Told.step {zs : List Rn} {p wo : Int} {r : Nat} {P Y : List Rn} {ms : List Int} (h : Told zs p wo r P) (hs : Shut zs p wo r ms ms.length Y) : Told zs p wo (r + 1) (P ++ Y) := by
  refine ⟨⟨fun y hy => ?_, ?_⟩, fun y hy => ?_, fun q n => ?_⟩
  · rcases List.mem_append.1 hy with hy | hy
    · exact h.good.1 y hy
    · exact hs.good.1 y hy
  · rw [List.pairwise_append]
    refine ⟨h.good.2, hs.good.2, fun a ha b hb => ?_⟩
    have h1 := h.low a ha
    have h2 := hs.own b hb
    rw [ap_iff]
    omega
  · rcases List.mem_append.1 hy with hy | hy
    · have := h.low y hy; omega
    · have := hs.own y hy; omega
  · rw [covs_append, h.tells]
    by_cases hq : q = r
    · subst hq
      rw [hs.done]
      have h1 : ¬ ((r : Int) < (r : Int)) := by omega
      have h2 : (r : Int) < ((r + 1 : Nat) : Int) := by omega
      simp only [h1, h2, decide_false, decide_true, Bool.and_false, Bool.false_or, Bool.and_true]
    · have h0 : covs Y q n = false := by
        rw [← Bool.not_eq_true, covs_iff]
        rintro ⟨y, hy, h1, _⟩
        have := hs.own y hy
        omega
      rw [h0, Bool.or_false]
      congr 1
      rw [decide_eq_decide]
      omega
theorem Told.all {zs : List Rn} {p wo : Int} {P : List Rn} (h : Told zs p wo 8 P) (hz : ∀ x ∈ zs, x.r < 8) (q n : Int) : covs P q n = inS zs p wo q n := by
  rw [h.tells]
  by_cases hq : q < ((8 : Nat) : Int)
  · simp only [hq, decide_true, Bool.and_true]
  · have : covs zs q n = false := by
      rw [← Bool.not_eq_true, covs_iff]
      rintro ⟨y, hy, h1, _⟩
      have := hz y hy
      omega
    simp [inS, this]
end Go.Proofs.YtfjaeohfigcciaaDoor

