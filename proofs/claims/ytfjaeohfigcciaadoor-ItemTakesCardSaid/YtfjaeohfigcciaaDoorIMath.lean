/- What is held after entries were taken: versions by ID, and that the order of taking does not matter. Plain lists. -/
import Derived.Test.YtfjaeohfigcciaaDoorITake
namespace Go.Proofs.YtfjaeohfigcciaaDoor

abbrev Rise (zs : List En) : Prop := zs.Pairwise (fun a b => a.id < b.id)

theorem rise_of_right {zs : List En} (h : erightB zs = true) : Rise zs := by
  refine List.pairwise_iff_getElem.2 ?_
  intro i j hi hj hij
  have h1 := right_le h (i + 1) (j - (i + 1)) (by omega)
  have h2 := right_step h (j := i) (by omega)
  rw [show i + 1 + (j - (i + 1)) = j by omega] at h1
  rw [getElem!_pos zs i hi, getElem!_pos zs (i + 1) (by omega)] at h2
  rw [getElem!_pos zs (i + 1) (by omega), getElem!_pos zs j hj] at h1
  omega
theorem re_of_right {zs : List En} (h : erightB zs = true) : ∀ x ∈ zs, reB x = true := by
  intro x hx
  obtain ⟨i, hi, rfl⟩ := List.mem_iff_getElem.1 hx
  simp only [erightB, List.all_eq_true, List.mem_range] at h
  have := h i hi
  simp only [eokAt, Bool.and_eq_true] at this
  rw [getElem!_pos zs i hi] at this
  exact this.1
theorem right_of {zs : List En} (h : Rise zs) (hr : ∀ x ∈ zs, reB x = true) : erightB zs = true := by
  apply erightB_true
  intro j hj
  have h := List.pairwise_iff_getElem.1 h
  simp only [eokAt, Bool.and_eq_true, Bool.or_eq_true, decide_eq_true_eq]
  refine ⟨by rw [getElem!_pos zs j hj]; exact hr _ (List.getElem_mem hj), ?_⟩
  rcases Nat.eq_zero_or_pos j with h0 | h0
  · exact .inl h0
  · right
    rw [getElem!_pos zs j hj, getElem!_pos zs (j - 1) (by omega)]
    exact h (j - 1) j (by omega) hj (by omega)

def takeS : List En → En → List En
  | [], e => [e]
  | x :: r, e => if x.id < e.id then x :: takeS r e else if x.id = e.id then (if repB e x = true then e else x) :: r else e :: x :: r

theorem takeL_cons_lt {x e : En} {r : List En} (h : x.id < e.id) : takeL (x :: r) e = x :: takeL r e := by
  have hp : posE (x :: r) e.id = posE r e.id + 1 := by simp [posE, List.countP_cons, h]
  have hg : (x :: r)[posE r e.id + 1]! = r[posE r e.id]! := by simp
  unfold takeL
  rw [hp, hg, List.length_cons]
  rw [show decide (posE r e.id + 1 < r.length + 1) = decide (posE r e.id < r.length) by simp]
  split
  · split
    · rw [List.set_cons_succ]
    · rfl
  · simp [insL]
theorem takeL_cons_ge {x e : En} {r : List En} (h : ¬ x.id < e.id) (hr : ∀ y ∈ r, x.id < y.id) : takeL (x :: r) e = if x.id = e.id then (if repB e x = true then e else x) :: r else e :: x :: r := by
  have hp : posE (x :: r) e.id = 0 := by
    simp only [posE, List.countP_eq_zero, List.mem_cons, decide_eq_true_eq]
    rintro y (rfl | hy)
    · exact h
    · have := hr y hy; omega
  unfold takeL
  rw [hp]
  by_cases he : x.id = e.id
  · by_cases hb : repB e x = true
    · simp [he, hb]
    · simp [he, hb]
  · simp [he, insL]
theorem takeL_eq {zs : List En} (e : En) (h : Rise zs) : takeL zs e = takeS zs e := by
  induction zs with
  | nil => simp [takeL, takeS, posE, insL]
  | cons x r ih =>
    have h := List.pairwise_cons.1 h
    by_cases hlt : x.id < e.id
    · rw [takeL_cons_lt hlt, takeS, if_pos hlt, ih h.2]
    · rw [takeL_cons_ge hlt h.1, takeS, if_neg hlt]

theorem mem_takeS {zs : List En} {e y : En} (h : y ∈ takeS zs e) : y = e ∨ y ∈ zs := by
  induction zs with
  | nil => simp [takeS] at h; exact .inl h
  | cons x r ih =>
    unfold takeS at h
    split at h
    · rcases List.mem_cons.1 h with h1 | h1
      · exact .inr (by simp [h1])
      · rcases ih h1 with h2 | h2
        · exact .inl h2
        · exact .inr (by simp [h2])
    · split at h
      · rcases List.mem_cons.1 h with h1 | h1
        · split at h1
          · exact .inl h1
          · exact .inr (by simp [h1])
        · exact .inr (by simp [h1])
      · rcases List.mem_cons.1 h with h1 | h1
        · exact .inl h1
        · exact .inr h1
theorem takeS_rise {zs : List En} (e : En) (h : Rise zs) : Rise (takeS zs e) := by
  induction zs with
  | nil => simp [takeS, Rise]
  | cons x r ih =>
    have h' := List.pairwise_cons.1 h
    unfold takeS
    split
    · next hlt =>
      refine List.pairwise_cons.2 ⟨fun y hy => ?_, ih h'.2⟩
      rcases mem_takeS hy with h1 | h1
      · rw [h1]; exact hlt
      · exact h'.1 y h1
    · split
      · next hlt heq =>
        refine List.pairwise_cons.2 ⟨fun y hy => ?_, h'.2⟩
        have := h'.1 y hy
        split <;> omega
      · next hlt hne =>
        refine List.pairwise_cons.2 ⟨fun y hy => ?_, h⟩
        rcases List.mem_cons.1 hy with h1 | h1
        · rw [h1]; omega
        · have := h'.1 y h1; omega
theorem takeS_length (zs : List En) (e : En) : (takeS zs e).length ≤ zs.length + 1 := by
  induction zs with
  | nil => simp [takeS]
  | cons x r ih =>
    unfold takeS
    split
    · simp only [List.length_cons]; omega
    · split <;> simp
theorem right_take {zs : List En} {e : En} (h : erightB zs = true) (he : reB e = true) : erightB (takeL zs e) = true := by
  rw [takeL_eq e (rise_of_right h)]
  refine right_of (takeS_rise e (rise_of_right h)) fun x hx => ?_
  rcases mem_takeS hx with h1 | h1
  · rw [h1]; exact he
  · exact re_of_right h x h1

/-- the version that is held of an ID -/
def verAt : List En → Int → Option Vr
  | [], _ => none
  | x :: r, id => if x.id = id then some x.ver else verAt r id
theorem verAt_none {zs : List En} {id : Int} (h : ∀ y ∈ zs, id < y.id) : verAt zs id = none := by
  induction zs with
  | nil => rfl
  | cons x r ih =>
    have := h x (by simp)
    rw [verAt, if_neg (by omega), ih (fun y hy => h y (by simp [hy]))]
def mx : Option Vr → Vr → Vr
  | none, v => v
  | some u, v => if ltV u v = true then v else u
def stepV (o : Option Vr) (e : En) (id : Int) : Option Vr := if id = e.id then some (mx o e.ver) else o
theorem rep_ver (e x : En) : (if repB e x = true then e else x).ver = mx (some x.ver) e.ver := by
  unfold mx repB
  by_cases h : ltV x.ver e.ver = true
  · simp [h]
  · by_cases h2 : x.ver = e.ver
    · by_cases h3 : x.kind = 2 ∧ e.kind ≠ 2
      · simp [h2, h3, ltV_irrefl]
      · have : (decide (x.kind = 2) && decide (e.kind ≠ 2)) = false := by
          rw [Bool.eq_false_iff]; simp only [ne_eq, Bool.and_eq_true, decide_eq_true_eq]; exact h3
        rw [this]; simp [h2, ltV_irrefl]
    · simp [h, h2]
theorem rep_id (e x : En) (h : x.id = e.id) : (if repB e x = true then e else x).id = e.id := by split <;> simp [h]
theorem verAt_take {zs : List En} (e : En) (id : Int) (h : Rise zs) : verAt (takeS zs e) id = stepV (verAt zs id) e id := by
  induction zs with
  | nil =>
    simp only [takeS, verAt, stepV, mx]
    by_cases he : id = e.id
    · rw [if_pos he.symm, if_pos he]
    · rw [if_neg (fun h => he h.symm), if_neg he]
  | cons x r ih =>
    have h' := List.pairwise_cons.1 h
    unfold takeS
    by_cases hlt : x.id < e.id
    · rw [if_pos hlt, verAt, verAt, ih h'.2]
      by_cases hx : x.id = id
      · rw [if_pos hx, if_pos hx, stepV, if_neg (by omega)]
      · rw [if_neg hx, if_neg hx]
    · rw [if_neg hlt]
      by_cases he : x.id = e.id
      · rw [if_pos he, verAt, verAt, rep_id e x he, rep_ver]
        by_cases hx : e.id = id
        · rw [if_pos hx, if_pos (by omega), stepV, if_pos hx.symm]
        · rw [if_neg hx, if_neg (by omega), stepV, if_neg (fun h => hx h.symm)]
      · rw [if_neg he, verAt]
        by_cases hx : e.id = id
        · have hn : verAt (x :: r) id = none := verAt_none (fun y hy => by
            rcases List.mem_cons.1 hy with h1 | h1
            · rw [h1]; omega
            · have := h'.1 y h1; omega)
          rw [if_pos hx, hn, stepV, if_pos hx.symm, mx]
        · rw [if_neg hx, stepV, if_neg (fun h => hx h.symm)]

theorem mx_comm (o : Option Vr) (a b : Vr) : mx (some (mx o a)) b = mx (some (mx o b)) a := by
  cases o with
  | none =>
    simp only [mx]
    rcases ltV_total a b with h | h | h
    · simp [h, ltV_asymm h]
    · simp [h]
    · simp [h, ltV_asymm h]
  | some u =>
    simp only [mx]
    by_cases h1 : ltV u a = true
    · by_cases h2 : ltV u b = true
      · simp only [h1, h2, if_true]
        rcases ltV_total a b with h | h | h
        · simp [h, ltV_asymm h]
        · simp [h]
        · simp [h, ltV_asymm h]
      · have h3 : ltV a b = false := by
          by_cases h4 : ltV a b = true
          · exact absurd (ltV_trans h1 h4) h2
          · simpa using h4
        simp [h1, h2, h3]
    · by_cases h2 : ltV u b = true
      · have h3 : ltV b a = false := by
          by_cases h4 : ltV b a = true
          · exact absurd (ltV_trans h2 h4) h1
          · simpa using h4
        simp [h1, h2, h3]
      · simp [h1, h2]
theorem mx_idem (o : Option Vr) (a : Vr) : mx (some (mx o a)) a = mx o a := by
  cases o with
  | none => simp [mx, ltV_irrefl]
  | some u =>
    simp only [mx]
    by_cases h : ltV u a = true
    · simp [h, ltV_irrefl]
    · simp [h]
theorem step_comm (o : Option Vr) (a b : En) (id : Int) : stepV (stepV o a id) b id = stepV (stepV o b id) a id := by
  unfold stepV
  by_cases h1 : id = a.id
  · by_cases h2 : id = b.id
    · rw [if_pos h1, if_pos h2, if_pos h2, if_pos h1, mx_comm]
    · rw [if_pos h1, if_neg h2, if_neg h2, if_pos h1]
  · by_cases h2 : id = b.id
    · rw [if_neg h1, if_pos h2, if_neg h1]
    · rw [if_neg h1, if_neg h2, if_neg h1]
theorem step_idem (o : Option Vr) (a : En) (id : Int) : stepV (stepV o a id) a id = stepV o a id := by
  unfold stepV
  by_cases h1 : id = a.id
  · rw [if_pos h1, if_pos h1, mx_idem]
  · rw [if_neg h1, if_neg h1]
/-- what was held is not less than what is -/
theorem step_up {u : Vr} {o : Option Vr} (e : En) (id : Int) (h : ∃ v, o = some v ∧ ltV v u = false) : ∃ v, stepV o e id = some v ∧ ltV v u = false := by
  obtain ⟨v, rfl, hv⟩ := h
  unfold stepV
  split
  · refine ⟨_, rfl, ?_⟩
    simp only [mx]
    split
    · next h =>
      by_cases h2 : ltV e.ver u = true
      · have := ltV_trans h h2; rw [hv] at this; cases this
      · simpa using h2
    · exact hv
  · exact ⟨v, rfl, hv⟩

/-- lists that rise and hold the same versions are alike -/
theorem held_same : ∀ (xs ys : List En), Rise xs → Rise ys → (∀ id, verAt xs id = verAt ys id) → xs.map (fun x => (x.id, x.ver)) = ys.map (fun x => (x.id, x.ver))
  | [], [], _, _, _ => rfl
  | [], y :: ys, _, _, h => by have := h y.id; simp [verAt] at this
  | x :: xs, [], _, _, h => by have := h x.id; simp [verAt] at this
  | x :: xs, y :: ys, hx, hy, h => by
    have hx' := List.pairwise_cons.1 hx
    have hy' := List.pairwise_cons.1 hy
    have e1 : x.id = y.id := by
      rcases Int.lt_trichotomy x.id y.id with hl | hl | hl
      · have h1 := h x.id
        rw [verAt_none (zs := y :: ys) (fun z hz => by
          rcases List.mem_cons.1 hz with h2 | h2
          · rw [h2]; exact hl
          · have := hy'.1 z h2; omega)] at h1
        simp [verAt] at h1
      · exact hl
      · have h1 := h y.id
        rw [verAt_none (zs := x :: xs) (fun z hz => by
          rcases List.mem_cons.1 hz with h2 | h2
          · rw [h2]; exact hl
          · have := hx'.1 z h2; omega)] at h1
        simp [verAt] at h1
    have e2 : x.ver = y.ver := by
      have h1 := h x.id
      rw [verAt, if_pos rfl, verAt, if_pos e1.symm] at h1
      exact Option.some.inj h1
    have e3 := held_same xs ys hx'.2 hy'.2 (fun id => by
      by_cases hi : x.id = id
      · rw [verAt_none (fun z hz => by have := hx'.1 z hz; omega), verAt_none (fun z hz => by have := hy'.1 z hz; omega)]
      · have h1 := h id
        rw [verAt, if_neg hi, verAt, if_neg (by omega)] at h1
        exact h1)
    rw [List.map_cons, List.map_cons, e1, e2, e3]

theorem verAt_mem {zs : List En} (h : Rise zs) {x : En} (hx : x ∈ zs) : verAt zs x.id = some x.ver := by
  induction zs with
  | nil => cases hx
  | cons y r ih =>
    have h' := List.pairwise_cons.1 h
    rcases List.mem_cons.1 hx with h1 | h1
    · rw [h1, verAt, if_pos rfl]
    · have := h'.1 x h1
      rw [verAt, if_neg (by omega), ih h'.2 h1]

/-- four entries taken, one behind the other -/
def take4 (zs : List En) (a b c d : En) : List En := takeL (takeL (takeL (takeL zs a) b) c) d
theorem take4_ver {zs : List En} (h : erightB zs = true) {a b c d : En} (ha : reB a = true) (hb : reB b = true) (hc : reB c = true) (id : Int) :
    verAt (take4 zs a b c d) id = stepV (stepV (stepV (stepV (verAt zs id) a id) b id) c id) d id := by
  have r0 := rise_of_right h
  have r1 := rise_of_right (right_take h ha)
  have r2 := rise_of_right (right_take (right_take h ha) hb)
  have r3 := rise_of_right (right_take (right_take (right_take h ha) hb) hc)
  unfold take4
  rw [takeL_eq d r3, verAt_take d id r3, takeL_eq c r2, verAt_take c id r2, takeL_eq b r1, verAt_take b id r1, takeL_eq a r0, verAt_take a id r0]
end Go.Proofs.YtfjaeohfigcciaaDoor
