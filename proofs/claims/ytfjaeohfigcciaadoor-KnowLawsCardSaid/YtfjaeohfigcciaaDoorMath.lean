/- Runs as sets of pairs: what joining and dropping do to them, and that right runs tell their set in one way only. Plain lists and numbers. -/
import Derived.Test.YtfjaeohfigcciaaDoorJoin
namespace Go.Proofs.YtfjaeohfigcciaaDoor

/-- the runs are right, but for how many they are -/
def Good (l : List Rn) : Prop := (∀ x ∈ l, rrB x = true) ∧ l.Pairwise (fun x y => apB x y = true)
def covs (l : List Rn) (p n : Int) : Bool := l.any (covB · p n)

theorem rr_iff (x : Rn) : rrB x = true ↔ x.r < 8 ∧ 1 ≤ x.lo ∧ x.lo ≤ x.hi := by simp [rrB]
theorem ap_iff (x y : Rn) : apB x y = true ↔ x.r < y.r ∨ (x.r = y.r ∧ x.hi + 1 < y.lo) := by simp [apB]
theorem cov_iff (x : Rn) (p n : Int) : covB x p n = true ↔ x.r = p ∧ x.lo ≤ n ∧ n ≤ x.hi := by simp [covB]
theorem covs_iff (l : List Rn) (p n : Int) : covs l p n = true ↔ ∃ x ∈ l, x.r = p ∧ x.lo ≤ n ∧ n ≤ x.hi := by simp [covs, cov_iff]

theorem bang_eq {zs : List Rn} {i : Nat} (h : i < zs.length) : zs[i]! = zs[i] := by simp [List.getElem!_eq_getElem?_getD, List.getElem?_eq_getElem h]

theorem right_iff (zs : List Rn) : rightB zs = true ↔ zs.length ≤ 64 ∧ Good zs := by
  simp only [rightB, Bool.and_eq_true, decide_eq_true_eq, List.all_eq_true, List.mem_range]
  refine and_congr_right fun _ => ?_
  constructor
  · intro h
    have hr : ∀ i (hi : i < zs.length), rrB zs[i] = true := fun i hi => by
      have := h i hi
      simp only [okAt, bang_eq hi, Bool.and_eq_true] at this
      exact this.1
    have hs : ∀ i (hi : i + 1 < zs.length), apB zs[i] zs[i + 1] = true := fun i hi => by
      have := h (i + 1) hi
      simp only [okAt, bang_eq hi, Nat.add_sub_cancel, bang_eq (show i < zs.length by omega), Bool.and_eq_true, Bool.or_eq_true, decide_eq_true_eq] at this
      rcases this.2 with h0 | h0
      · omega
      · exact h0
    refine ⟨fun x hx => ?_, ?_⟩
    · obtain ⟨i, hi, rfl⟩ := List.mem_iff_getElem.1 hx
      exact hr i hi
    · rw [List.pairwise_iff_getElem]
      intro i j hi hj hij
      obtain ⟨d, rfl⟩ : ∃ d, j = i + 1 + d := ⟨j - (i + 1), by omega⟩
      clear hij
      induction d with
      | zero => exact hs i hj
      | succ d ih =>
        have h1 := ih (by omega)
        have h2 := hs (i + 1 + d) (by omega)
        have h3 := hr (i + 1 + d) (by omega)
        rw [ap_iff] at h1 h2 ⊢
        rw [rr_iff] at h3
        simp only [← Nat.add_assoc] at h2 ⊢
        omega
  · rintro ⟨h1, h2⟩ i hi
    simp only [okAt, bang_eq hi, Bool.and_eq_true, Bool.or_eq_true, decide_eq_true_eq]
    refine ⟨h1 _ (List.getElem_mem hi), ?_⟩
    rcases Nat.eq_zero_or_pos i with h0 | h0
    · exact .inl h0
    · right
      rw [bang_eq (show i - 1 < zs.length by omega)]
      exact List.pairwise_iff_getElem.1 h2 (i - 1) i (by omega) hi (by omega)

theorem covs_cons (x : Rn) (l : List Rn) (p n : Int) : covs (x :: l) p n = (covB x p n || covs l p n) := rfl
theorem covs_append (a b : List Rn) (p n : Int) : covs (a ++ b) p n = (covs a p n || covs b p n) := by simp [covs]
theorem covs_perm {a b : List Rn} (h : a.Perm b) (p n : Int) : covs a p n = covs b p n := by
  rw [Bool.eq_iff_iff, covs_iff, covs_iff]
  constructor <;> rintro ⟨x, hx, h'⟩
  · exact ⟨x, h.mem_iff.1 hx, h'⟩
  · exact ⟨x, h.mem_iff.2 hx, h'⟩

theorem joinS_concat (Z : List Rn) (y x : Rn) : joinS (Z ++ [y]) x = if apB y x then Z ++ [y] ++ [x] else Z ++ [⟨y.r, y.lo, max y.hi x.hi⟩] := by
  by_cases h : apB y x = true
  · rw [joinS_app (m := Z.length) (by simp) (by simp) h, if_pos h]
  · rw [joinS_set (m := Z.length) (y := y) (by simp) (by simp) (by simpa using h), if_neg h]
    simp

/-- what holds behind each step of the joining -/
def JoinInv (P Y : List Rn) : Prop := Good Y ∧ (∀ p n, covs Y p n = covs P p n) ∧ (∀ y ∈ Y, ∃ x ∈ P, x.r = y.r ∧ x.lo = y.lo)

theorem JoinInv.step {P Y : List Rn} {x : Rn} (h : JoinInv P Y) (hx : rrB x = true) (hs : ∀ z ∈ P, ¬ (x.r < z.r ∨ (x.r = z.r ∧ x.lo < z.lo))) : JoinInv (P ++ [x]) (joinS Y x) := by
  obtain ⟨⟨g1, g2⟩, hc, hl⟩ := h
  rcases List.eq_nil_or_concat Y with rfl | ⟨Z, y, rfl⟩
  · refine ⟨⟨by simpa [joinS] using hx, by simp [joinS]⟩, fun p n => ?_, fun y hy => ?_⟩
    · rw [covs_append, ← hc p n]; simp [joinS, covs]
    · simp [joinS] at hy; subst hy; exact ⟨y, by simp, rfl, rfl⟩
  · rw [List.concat_eq_append] at *
    rw [joinS_concat]
    have hy := g1 y (by simp)
    obtain ⟨z, hz, e1, e2⟩ := hl y (by simp)
    have hzx := hs z hz
    rw [List.pairwise_append] at g2
    obtain ⟨p1, _, p3⟩ := g2
    by_cases ha : apB y x = true
    · rw [if_pos ha]
      refine ⟨⟨?_, ?_⟩, fun p n => ?_, fun w hw => ?_⟩
      · intro w hw
        simp only [List.mem_append, List.mem_singleton] at hw
        rcases hw with hw | rfl
        · exact g1 w (by simpa using hw)
        · exact hx
      · rw [List.pairwise_append]
        refine ⟨List.pairwise_append.2 ⟨p1, by simp, p3⟩, by simp, fun a ha' b hb => ?_⟩
        simp at hb; subst hb
        simp only [List.mem_append, List.mem_singleton] at ha'
        rcases ha' with ha' | rfl
        · have := p3 a ha' y (by simp)
          rw [ap_iff] at this ha ⊢
          rw [rr_iff] at hy
          omega
        · exact ha
      · rw [covs_append, covs_append P, ← hc p n]
      · simp only [List.mem_append, List.mem_singleton] at hw
        rcases hw with hw | rfl
        · obtain ⟨q, hq, e⟩ := hl w (by simpa using hw)
          exact ⟨q, by simp [hq], e⟩
        · exact ⟨w, by simp, rfl, rfl⟩
    · rw [if_neg ha]
      have ha' : ¬ (y.r < x.r ∨ (y.r = x.r ∧ y.hi + 1 < x.lo)) := by rw [← ap_iff]; exact ha
      rw [rr_iff] at hx hy
      refine ⟨⟨?_, ?_⟩, fun p n => ?_, fun w hw => ?_⟩
      · intro w hw
        simp only [List.mem_append, List.mem_singleton] at hw
        rcases hw with hw | rfl
        · exact g1 w (by simp [hw])
        · rw [rr_iff]; simp only; omega
      · rw [List.pairwise_append]
        refine ⟨p1, by simp, fun a ha'' b hb => ?_⟩
        simp at hb; subst hb
        have := p3 a ha'' y (by simp)
        rw [ap_iff] at this ⊢
        exact this
      · rw [covs_append, covs_append P, ← hc p n, covs_append, Bool.or_assoc]
        congr 1
        rw [Bool.eq_iff_iff, Bool.or_eq_true]
        simp only [covs_iff, List.mem_singleton, exists_eq_left]
        omega
      · simp only [List.mem_append, List.mem_singleton] at hw
        rcases hw with hw | rfl
        · obtain ⟨q, hq, e⟩ := hl w (by simp [hw])
          exact ⟨q, by simp [hq], e⟩
        · exact ⟨z, by simp [hz], e1, e2⟩

/-- no later one is less than an earlier one -/
def Ordered (l : List Rn) : Prop := l.Pairwise (fun x y => ¬ (y.r < x.r ∨ (y.r = x.r ∧ y.lo < x.lo)))

theorem join_foldl (l : List Rn) : ∀ P Y, JoinInv P Y → (∀ x ∈ l, rrB x = true) → Ordered (P ++ l) → JoinInv (P ++ l) (l.foldl joinS Y) := by
  induction l with
  | nil => intro P Y h _ _; simpa using h
  | cons x l ih =>
    intro P Y h hr ho
    have h1 : JoinInv (P ++ [x]) (joinS Y x) := h.step (hr x (by simp)) fun z hz => by
      have := (List.pairwise_append.1 ho).2.2 z hz x (by simp)
      exact this
    have := ih (P ++ [x]) (joinS Y x) h1 (fun y hy => hr y (by simp [hy])) (by simpa using ho)
    simpa using this

theorem joinL_good {l : List Rn} (hr : ∀ x ∈ l, rrB x = true) (ho : Ordered l) : Good (joinL l) ∧ ∀ p n, covs (joinL l) p n = covs l p n := by
  have := join_foldl l [] [] ⟨⟨by simp, by simp⟩, fun _ _ => rfl, by simp⟩ hr (by simpa using ho)
  simp only [List.nil_append] at this
  exact ⟨this.1, this.2.1⟩

theorem arL_mem {x z : Rn} {p n : Int} (hx : rrB x = true) (hc : covB x p n = true) (hz : z ∈ arL x n) : z.r = x.r ∧ x.lo ≤ z.lo ∧ z.hi ≤ x.hi ∧ rrB z = true ∧ (z.hi < n ∨ n < z.lo) := by
  rw [rr_iff] at hx
  rw [cov_iff] at hc
  simp only [arL, List.mem_append] at hz
  rw [rr_iff]
  rcases hz with hz | hz <;> split at hz <;> simp at hz <;> subst hz
  · exact ⟨rfl, Int.le_refl _, by simp only; omega, ⟨hx.1, hx.2.1, by simp only; omega⟩, .inl (by simp only; omega)⟩
  · exact ⟨rfl, by simp only; omega, Int.le_refl _, ⟨hx.1, by simp only; omega, by simp only; omega⟩, .inr (by simp only; omega)⟩
theorem arL_pair (x : Rn) (n : Int) : (arL x n).Pairwise (fun x y => apB x y = true) := by
  unfold arL
  split <;> split <;> simp [ap_iff]
  omega
theorem arL_covs {x : Rn} {p n q m : Int} (hc : covB x p n = true) : covs (arL x n) q m = (covB x q m && !decide (m = n)) := by
  rw [cov_iff] at hc
  rw [Bool.eq_iff_iff, covs_iff, Bool.and_eq_true, cov_iff]
  simp only [arL, List.mem_append, Bool.not_eq_true', decide_eq_false_iff_not]
  constructor
  · rintro ⟨z, hz, h⟩
    rcases hz with hz | hz <;> split at hz <;> simp at hz <;> subst hz <;> simp only at h <;> omega
  · rintro ⟨h, hm⟩
    rcases Int.lt_or_gt_of_ne hm with h1 | h1
    · exact ⟨⟨x.r, x.lo, n - 1⟩, .inl (by rw [if_pos (by omega)]; simp), by simp only; omega⟩
    · exact ⟨⟨x.r, n + 1, x.hi⟩, .inr (by rw [if_pos (by omega)]; simp), by simp only; omega⟩

theorem dropL_good {zs : List Rn} {p n : Int} (h : Good zs) : Good (dropL zs p n) ∧ ∀ q m, covs (dropL zs p n) q m = (covs zs q m && !(decide (q = p) && decide (m = n))) := by
  obtain ⟨h1, h2⟩ := h
  have hin : ∀ x ∈ zs, ∀ z ∈ (if covB x p n then arL x n else [x]), z.r = x.r ∧ x.lo ≤ z.lo ∧ z.hi ≤ x.hi ∧ rrB z = true := by
    intro x hx z hz
    split at hz
    · rename_i hc
      obtain ⟨a, b, c, d, _⟩ := arL_mem (h1 x hx) hc hz
      exact ⟨a, b, c, d⟩
    · simp at hz; subst hz; exact ⟨rfl, Int.le_refl _, Int.le_refl _, h1 z hx⟩
  refine ⟨⟨?_, ?_⟩, fun q m => ?_⟩
  · intro z hz
    simp only [dropL, List.mem_flatMap] at hz
    obtain ⟨x, hx, hz⟩ := hz
    exact (hin x hx z hz).2.2.2
  · unfold dropL
    rw [List.pairwise_flatMap]
    refine ⟨fun x _ => ?_, ?_⟩
    · split
      · exact arL_pair x n
      · simp
    · rw [List.pairwise_iff_getElem] at h2 ⊢
      intro i j hi hj hij a ha b hb
      have hap := h2 i j hi hj hij
      have h3 := hin _ (List.getElem_mem hi) a ha
      have h4 := hin _ (List.getElem_mem hj) b hb
      rw [ap_iff] at hap ⊢
      omega
  · clear h2 hin
    induction zs with
    | nil => simp [dropL, covs]
    | cons x l ih =>
      have ih' := ih (fun y hy => h1 y (by simp [hy]))
      rw [covs_cons]
      have : dropL (x :: l) p n = (if covB x p n then arL x n else [x]) ++ dropL l p n := by simp [dropL]
      rw [this, covs_append, ih', Bool.and_or_distrib_right]
      congr 1
      split
      · rename_i hc
        rw [arL_covs hc]
        rw [cov_iff] at hc
        by_cases hq : q = p
        · simp [hq]
        · have : covB x q m = false := by
            rw [← Bool.not_eq_true, cov_iff]; omega
          simp [this]
      · rename_i hc
        rw [cov_iff] at hc
        simp only [covs, List.any_cons, List.any_nil, Bool.or_false]
        by_cases hqm : q = p ∧ m = n
        · obtain ⟨rfl, rfl⟩ := hqm
          have : covB x q m = false := by rw [← Bool.not_eq_true, cov_iff]; exact hc
          simp [this]
        · have : (decide (q = p) && decide (m = n)) = false := by simp; omega
          simp [this]

theorem Good.tail {x : Rn} {l : List Rn} (h : Good (x :: l)) : Good l := ⟨fun y hy => h.1 y (by simp [hy]), (List.pairwise_cons.1 h.2).2⟩
/-- the first run begins the set -/
theorem Good.first {x : Rn} {l : List Rn} (h : Good (x :: l)) {p n : Int} (hc : covs (x :: l) p n = true) : x.r < p ∨ (x.r = p ∧ x.lo ≤ n) := by
  obtain ⟨z, hz, h1, h2, _⟩ := (covs_iff _ _ _).1 hc
  rcases List.mem_cons.1 hz with rfl | hz
  · omega
  · have := (List.pairwise_cons.1 h.2).1 z hz
    have hx := h.1 x (by simp)
    rw [ap_iff] at this
    rw [rr_iff] at hx
    omega
/-- behind the first run nothing of its replica follows at once -/
theorem Good.next {x : Rn} {l : List Rn} (h : Good (x :: l)) : covs (x :: l) x.r (x.hi + 1) = false := by
  rw [← Bool.not_eq_true, covs_iff]
  rintro ⟨z, hz, h1, h2, h3⟩
  rcases List.mem_cons.1 hz with rfl | hz
  · omega
  · have := (List.pairwise_cons.1 h.2).1 z hz
    rw [ap_iff] at this
    omega
theorem Good.rest {x : Rn} {l : List Rn} (h : Good (x :: l)) (p n : Int) : covs l p n = (covs (x :: l) p n && !covB x p n) := by
  rw [covs_cons]
  by_cases hc : covB x p n = true
  · simp only [hc, Bool.true_or, Bool.not_true, Bool.and_false]
    rw [← Bool.not_eq_true, covs_iff]
    rintro ⟨z, hz, h1, h2, h3⟩
    have := (List.pairwise_cons.1 h.2).1 z hz
    rw [ap_iff] at this
    rw [cov_iff] at hc
    omega
  · have : covB x p n = false := by simpa using hc
    simp [this]
/-- right runs tell their set in one way only -/
theorem canon : ∀ (A B : List Rn), Good A → Good B → (∀ p n, covs A p n = covs B p n) → A = B
  | [], [], _, _, _ => rfl
  | [], y :: B, _, hB, h => by
    have hy := hB.1 y (by simp)
    rw [rr_iff] at hy
    have : covs (y :: B) y.r y.lo = true := (covs_iff _ _ _).2 ⟨y, by simp, rfl, by omega, by omega⟩
    rw [← h] at this
    simp [covs] at this
  | x :: A, [], hA, _, h => by
    have hx := hA.1 x (by simp)
    rw [rr_iff] at hx
    have : covs (x :: A) x.r x.lo = true := (covs_iff _ _ _).2 ⟨x, by simp, rfl, by omega, by omega⟩
    rw [h] at this
    simp [covs] at this
  | x :: A, y :: B, hA, hB, h => by
    have hx := hA.1 x (by simp)
    have hy := hB.1 y (by simp)
    rw [rr_iff] at hx hy
    have c1 : covs (x :: A) x.r x.lo = true := (covs_iff _ _ _).2 ⟨x, by simp, rfl, by omega, by omega⟩
    have c2 : covs (y :: B) y.r y.lo = true := (covs_iff _ _ _).2 ⟨y, by simp, rfl, by omega, by omega⟩
    have f1 := hA.first ((h _ _).trans c2)
    have f2 := hB.first ((h _ _).symm.trans c1)
    have n1 := hA.next
    have n2 := hB.next
    have e1 : x.r = y.r := by omega
    have e2 : x.lo = y.lo := by omega
    have e3 : x.hi = y.hi := by
      rcases Int.lt_trichotomy x.hi y.hi with hlt | heq | hgt
      · rw [h] at n1
        have : covs (y :: B) x.r (x.hi + 1) = true := (covs_iff _ _ _).2 ⟨y, by simp, e1.symm, by omega, by omega⟩
        rw [this] at n1; cases n1
      · exact heq
      · rw [← h] at n2
        have : covs (x :: A) y.r (y.hi + 1) = true := (covs_iff _ _ _).2 ⟨x, by simp, e1, by omega, by omega⟩
        rw [this] at n2; cases n2
    have exy : x = y := by
      cases x; cases y
      simp only at e1 e2 e3
      subst e1 e2 e3
      rfl
    subst exy
    rw [canon A B hA.tail hB.tail fun p n => by rw [hA.rest, hB.rest, h]]

end Go.Proofs.YtfjaeohfigcciaaDoor

