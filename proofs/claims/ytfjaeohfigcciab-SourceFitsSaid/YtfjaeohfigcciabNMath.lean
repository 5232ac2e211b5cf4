/- What is written is read, and what is read is written to the same bytes, in plain words. -/
import Derived.Test.YtfjaeohfigcciabNPlain
namespace Go.Proofs.Ytfjaeohfigcciab

/-- what is still to be read -/
def Rest (b : List UInt8) (s : Rd) (r : List UInt8) : Prop := s.bad = false ∧ s.at_ ≤ b.length ∧ b.drop s.at_ = r
theorem val_one (c : UInt8) : valOf [c] = c.toNat := by simp [valOf]
theorem val_four (x : Nat) (h : x < 4294967296) : valOf (four x) = x := by
  simp only [valOf, four, List.foldl_cons, List.foldl_nil]
  rw [u8_nat (by omega), u8_nat (by omega), u8_nat (by omega), u8_nat (by omega)]
  omega
theorem val_lt (l : List UInt8) : valOf l < 256 ^ l.length := by
  unfold valOf
  have h : ∀ (l : List UInt8) (v k : Nat), v < 256 ^ k → l.foldl (fun v c => v * 256 + c.toNat) v < 256 ^ (k + l.length) := by
    intro l
    induction l with
    | nil => intro v k hv; simpa using hv
    | cons c l ih =>
      intro v k hv
      simp only [List.foldl_cons, List.length_cons]
      rw [show k + (l.length + 1) = (k + 1) + l.length by omega]
      refine ih _ (k + 1) ?_
      have := c.toNat_lt
      rw [Nat.pow_succ]
      have h2 : (v + 1) * 256 ≤ 256 ^ k * 256 := Nat.mul_le_mul_right 256 hv
      omega
  simpa using h l 0 0 (by decide)
theorem num_rest {b : List UInt8} {s : Rd} {w r : List UInt8} {n : Nat} (h : Rest b s (w ++ r)) (hw : w.length = n) : (rdNum b s n).1 = valOf w ∧ Rest b (rdNum b s n).2 r := by
  obtain ⟨h1, h2, h3⟩ := h
  have hl := congrArg List.length h3
  simp only [List.length_drop, List.length_append] at hl
  unfold rdNum
  rw [if_neg (by rw [h1]; simp; omega), h3, ← hw]
  refine ⟨by simp, rfl, ?_, ?_⟩
  · show s.at_ + w.length ≤ b.length
    omega
  · show b.drop (s.at_ + w.length) = r
    rw [← List.drop_drop, h3]
    simp
theorem one_rest {b : List UInt8} {s : Rd} {c : UInt8} {r : List UInt8} (h : Rest b s (c :: r)) : (rdNum b s 1).1 = c.toNat ∧ Rest b (rdNum b s 1).2 r := by
  have := num_rest (w := [c]) (n := 1) h rfl
  rwa [val_one] at this
theorem b8_rest {b : List UInt8} {s : Rd} {x : Int} {r : List UInt8} (hx : 0 ≤ x ∧ x ≤ 255) (h : Rest b s (b8 x :: r)) : ((rdNum b s 1).1 : Int) = x ∧ Rest b (rdNum b s 1).2 r := by
  obtain ⟨h1, h2⟩ := one_rest h
  refine ⟨?_, h2⟩
  rw [h1]
  unfold b8
  rw [u8_nat (by omega)]
  omega
theorem b32_rest {b : List UInt8} {s : Rd} {x : Int} {r : List UInt8} (hx : 0 ≤ x ∧ x ≤ 4294967295) (h : Rest b s (b32 x ++ r)) : ((rdNum b s 4).1 : Int) = x ∧ Rest b (rdNum b s 4).2 r := by
  obtain ⟨h1, h2⟩ := num_rest (n := 4) h rfl
  refine ⟨?_, h2⟩
  rw [h1]
  unfold b32
  rw [val_four _ (by omega)]
  omega
theorem run_rest {b : List UInt8} {s : Rd} {x : Rn} {r : List UInt8} (hx : x.ok) (h : Rest b s (runB x ++ r)) : (rdRun b s).1 = x ∧ Rest b (rdRun b s).2 r := by
  obtain ⟨o1, o2, o3⟩ := hx
  simp only [runB, List.cons_append, List.append_assoc] at h
  obtain ⟨e1, h⟩ := b8_rest o1 h
  obtain ⟨e2, h⟩ := b32_rest o2 h
  obtain ⟨e3, h⟩ := b32_rest o3 h
  unfold rdRun
  simp only
  rw [e1, e2, e3]
  exact ⟨rfl, h⟩
theorem runsN_rest {b : List UInt8} {l acc : List Rn} {s : Rd} {r : List UInt8} (hl : ∀ x ∈ l, x.ok) (h : Rest b s (l.flatMap runB ++ r)) : (rdRunsN b l.length acc s).1 = acc ++ l ∧ Rest b (rdRunsN b l.length acc s).2 r := by
  induction l generalizing acc s with
  | nil => simpa [rdRunsN] using h
  | cons x l ih =>
    simp only [List.flatMap_cons, List.append_assoc] at h
    obtain ⟨e, h'⟩ := run_rest (hl x (by simp)) h
    rw [List.length_cons, runsN_step _ _ _ _ h.1, e]
    have := ih (acc := acc ++ [x]) (fun y hy => hl y (by simp [hy])) h'
    simpa using this
theorem runs_rest {b : List UInt8} {l : List Rn} {s : Rd} {r : List UInt8} (hn : l.length ≤ 255) (hl : ∀ x ∈ l, x.ok) (h : Rest b s (runsB l ++ r)) : (rdRuns b s).1 = l ∧ Rest b (rdRuns b s).2 r := by
  simp only [runsB, List.cons_append] at h
  obtain ⟨e, h⟩ := one_rest h
  rw [u8_nat (by omega)] at e
  unfold rdRuns
  rw [e]
  have := runsN_rest (acc := []) hl h
  simpa using this
theorem ent_rest {b : List UInt8} {s : Rd} {x : En} {r : List UInt8} (hx : x.ok) (hk : 0 ≤ x.kind ∧ x.kind ≤ 255) (h : Rest b s (entB x ++ r)) : (rdEnt b s).1 = x ∧ Rest b (rdEnt b s).2 r := by
  obtain ⟨o1, ⟨o2, o3, o4⟩, _, o6, o7⟩ := hx
  simp only [entB, List.cons_append, List.append_assoc] at h
  obtain ⟨e1, h⟩ := b8_rest o1 h
  obtain ⟨e2, h⟩ := b8_rest o2 h
  obtain ⟨e3, h⟩ := b32_rest o3 h
  obtain ⟨e4, h⟩ := b32_rest o4 h
  obtain ⟨e5, h⟩ := b8_rest hk h
  obtain ⟨e6, h⟩ := b8_rest o6 h
  obtain ⟨e7, h⟩ := b32_rest o7 h
  unfold rdEnt
  simp only
  rw [e1, e2, e3, e4, e5, e6, e7]
  exact ⟨rfl, h⟩
theorem entsN_rest {b : List UInt8} {l acc : List En} {s : Rd} {r : List UInt8} (hl : ∀ x ∈ l, x.ok ∧ 0 ≤ x.kind ∧ x.kind ≤ 255) (h : Rest b s (l.flatMap entB ++ r)) : (rdEntsN b l.length acc s).1 = acc ++ l ∧ Rest b (rdEntsN b l.length acc s).2 r := by
  induction l generalizing acc s with
  | nil => simpa [rdEntsN] using h
  | cons x l ih =>
    simp only [List.flatMap_cons, List.append_assoc] at h
    obtain ⟨e, h'⟩ := ent_rest (hl x (by simp)).1 (hl x (by simp)).2 h
    rw [List.length_cons, entsN_step _ _ _ _ h.1, e]
    have := ih (acc := acc ++ [x]) (fun y hy => hl y (by simp [hy])) h'
    simpa using this
theorem within_rest {b : List UInt8} {s : Rd} {x : Int} {lo hi : Nat} {r : List UInt8} (hx : 0 ≤ x ∧ x ≤ 255) (hl : lo ≤ x.toNat ∧ x.toNat ≤ hi) (h : Rest b s (b8 x :: r)) : ((rdWithin b s lo hi).1 : Int) = x ∧ Rest b (rdWithin b s lo hi).2 r := by
  obtain ⟨e, h'⟩ := b8_rest hx h
  unfold rdWithin
  simp only
  rw [if_neg (by omega)]
  exact ⟨e, h'⟩

/-- what a right note has of entries -/
theorem reB_kind {x : En} (h : reB x = true) : 0 ≤ x.kind ∧ x.kind ≤ 255 := by
  simp only [reB, rkB, Bool.and_eq_true, decide_eq_true_eq] at h
  omega
/-- the kind of a note that is right -/
theorem note_kind {n : Nt} (h : noteB n = true) : n.kind = 1 ∨ n.kind = 2 := by
  unfold noteB at h
  by_cases hk : n.kind = 1
  · exact .inl hk
  · rw [if_neg hk] at h
    simp only [batchB, Bool.and_eq_true, decide_eq_true_eq] at h
    exact .inr h.2.1.1
/-- what is written is read -/
theorem read_write {n : Nt} (hok : n.ok) (h : noteB n = true) (he : ∀ x ∈ n.ents, reB x = true) (h1 : n.know.length ≤ 64) (h2 : n.offer.length ≤ 64) (h3 : n.ents.length ≤ 4) (x : List UInt8) :
    (rdNote (noteBytes n ++ x)).1 = n ∧ Rest (noteBytes n ++ x) (rdNote (noteBytes n ++ x)).2 x := by
  obtain ⟨k0, k1, k2, k3, k4, k5, k6, k7, k8, k9, k10⟩ := hok
  have hkind := note_kind h
  generalize hb : noteBytes n ++ x = b
  have hr : Rest b ⟨0, false⟩ (noteBytes n ++ x) := ⟨rfl, Nat.zero_le _, by rw [hb]; rfl⟩
  unfold noteBytes at hr
  simp only [List.cons_append, List.append_assoc] at hr
  obtain ⟨e1, hr⟩ := within_rest (lo := 1) (hi := 2) (by omega) (by omega) hr
  obtain ⟨e2, hr⟩ := b8_rest k1 hr
  obtain ⟨e3, hr⟩ := b8_rest k2 hr
  obtain ⟨e4, hr⟩ := b32_rest k3 hr
  obtain ⟨e5, hr⟩ := b8_rest k4 hr
  unfold rdNote
  simp only
  unfold noteB at h
  by_cases hk : n.kind = 1
  · rw [if_pos hk] at hr h
    rw [if_pos (by omega)]
    simp only [List.cons_append] at hr
    obtain ⟨e6, hr⟩ := b8_rest k5 hr
    obtain ⟨e7, hr⟩ := runs_rest (by omega) k6 hr
    simp only
    rw [e1, e2, e3, e4, e5, e6, e7]
    refine ⟨?_, hr⟩
    simp only [pullB, Bool.and_eq_true, decide_eq_true_eq] at h
    obtain ⟨_, _, p1, p2, p3, p4, p5⟩ := h
    cases n
    simp only at p1 p2 p3 p4 p5
    subst p1 p2 p3 p4 p5
    rfl
  · rw [if_neg hk] at hr h
    rw [if_neg (by omega)]
    simp only [entsB, List.cons_append, List.append_assoc] at hr
    obtain ⟨e6, hr⟩ := b32_rest k7 hr
    obtain ⟨e7, hr⟩ := one_rest hr
    rw [u8_nat (by omega)] at e7
    rw [e7]
    obtain ⟨e8, hr⟩ := entsN_rest (acc := []) (fun y hy => ⟨k8 y hy, reB_kind (he y hy)⟩) hr
    obtain ⟨e9, hr⟩ := b8_rest k9 hr
    have hd : (if n.done then (1 : UInt8) else 0) = b8 (if n.done then 1 else 0) := by cases n.done <;> rfl
    rw [hd] at hr
    obtain ⟨e10, hr⟩ := within_rest (lo := 0) (hi := 1) (by cases n.done <;> simp) (by cases n.done <;> simp) hr
    obtain ⟨e11, hr⟩ := runs_rest (by omega) k10 hr
    simp only
    rw [e1, e2, e3, e4, e5, e6, e8, e9, e11]
    refine ⟨?_, hr⟩
    simp only [batchB, Bool.and_eq_true, decide_eq_true_eq] at h
    obtain ⟨_, ⟨_, q1, q2, _⟩, _⟩ := h
    have hdn : decide ((rdWithin b (rdNum b (rdEntsN b n.ents.length [] (rdNum b (rdNum b (rdNum b (rdNum b (rdNum b (rdNum b (rdWithin b ⟨0, false⟩ 1 2).2 1).2 1).2 4).2 1).2 4).2 1).2).2 1).2 0 1).1 = 1) = n.done := by
      cases hdd : n.done
      · rw [hdd] at e10; simp only [decide_eq_false_iff_not]; simp at e10; omega
      · rw [hdd] at e10; simp only [decide_eq_true_eq]; simp at e10; omega
    rw [hdn]
    cases n
    simp only at q1 q2
    subst q1 q2
    simp

/-- what was read of the bytes -/
def Took (b : List UInt8) (s s' : Rd) (w : List UInt8) : Prop := s'.bad = false ∧ s'.at_ = s.at_ + w.length ∧ s'.at_ ≤ b.length ∧ (b.drop s.at_).take w.length = w
theorem Took.trans {b : List UInt8} {s s' s'' : Rd} {w x : List UInt8} (h : Took b s s' w) (k : Took b s' s'' x) : Took b s s'' (w ++ x) := by
  obtain ⟨_, h2, h3, h4⟩ := h
  obtain ⟨k1, k2, k3, k4⟩ := k
  refine ⟨k1, by rw [k2, h2, List.length_append]; omega, k3, ?_⟩
  rw [List.length_append, List.take_add, h4, List.drop_drop, ← h2, k4]
theorem num_took {b : List UInt8} {s : Rd} {n : Nat} (h : (rdNum b s n).2.bad = false) : ∃ w, w.length = n ∧ (rdNum b s n).1 = valOf w ∧ Took b s (rdNum b s n).2 w := by
  unfold rdNum at *
  split at h
  · cases h
  · rename_i hc
    rw [if_neg hc]
    simp only [not_or] at hc
    have hl : ((b.drop s.at_).take n).length = n := by simp; omega
    exact ⟨_, hl, rfl, rfl, by simp only [hl], by show s.at_ + n ≤ b.length; omega, by rw [hl]⟩
theorem one_took {b : List UInt8} {s : Rd} (h : (rdNum b s 1).2.bad = false) : (rdNum b s 1).1 < 256 ∧ Took b s (rdNum b s 1).2 [b8 (rdNum b s 1).1] := by
  obtain ⟨w, hw, hv, ht⟩ := num_took h
  match w, hw with
  | [c], _ =>
    rw [val_one] at hv
    rw [hv]
    refine ⟨c.toNat_lt, ?_⟩
    have : b8 ((c.toNat : Nat) : Int) = c := by simp [b8]
    rw [this]
    exact ht
theorem word_took {b : List UInt8} {s : Rd} (h : (rdNum b s 4).2.bad = false) : (rdNum b s 4).1 < 4294967296 ∧ Took b s (rdNum b s 4).2 (b32 (rdNum b s 4).1) := by
  obtain ⟨w, hw, hv, ht⟩ := num_took h
  match w, hw with
  | [p, q, r, t], _ =>
    have e : valOf [p, q, r, t] = of4 [p, q, r, t] := by
      rw [of4_mk]
      simp only [valOf, List.foldl_cons, List.foldl_nil]
      omega
    rw [hv, e]
    refine ⟨of4_lt _ _ _ _, ?_⟩
    have : b32 ((of4 [p, q, r, t] : Nat) : Int) = [p, q, r, t] := by
      unfold b32
      rw [Int.toNat_natCast, four_of4]
    rw [this]
    exact ht
theorem within_took {b : List UInt8} {s : Rd} {lo hi : Nat} (h : (rdWithin b s lo hi).2.bad = false) : lo ≤ (rdWithin b s lo hi).1 ∧ (rdWithin b s lo hi).1 ≤ hi ∧ (rdWithin b s lo hi).1 < 256 ∧ Took b s (rdWithin b s lo hi).2 [b8 (rdWithin b s lo hi).1] := by
  unfold rdWithin at *
  simp only at *
  split at h
  · cases h
  · rename_i hc
    rw [if_neg hc]
    obtain ⟨h1, h2⟩ := one_took h
    have hc' : ¬ ((rdNum b s 1).1 < lo ∨ hi < (rdNum b s 1).1) := fun hh => hc ⟨h, hh⟩
    exact ⟨by omega, by omega, h1, h2⟩
theorem run_took {b : List UInt8} {s : Rd} (h : (rdRun b s).2.bad = false) : (rdRun b s).1.ok ∧ Took b s (rdRun b s).2 (runB (rdRun b s).1) := by
  have h3 := h
  have h2 := num_bad _ _ _ h3
  have h1 := num_bad _ _ _ h2
  obtain ⟨l1, t1⟩ := one_took h1
  obtain ⟨l2, t2⟩ := word_took h2
  obtain ⟨l3, t3⟩ := word_took h3
  refine ⟨⟨⟨?_, ?_⟩, ⟨?_, ?_⟩, ?_, ?_⟩, ?_⟩
  · show (0 : Int) ≤ ((rdNum b s 1).1 : Int); omega
  · show ((rdNum b s 1).1 : Int) ≤ 255; omega
  · show (0 : Int) ≤ ((rdNum b (rdNum b s 1).2 4).1 : Int); omega
  · show ((rdNum b (rdNum b s 1).2 4).1 : Int) ≤ 4294967295; omega
  · show (0 : Int) ≤ ((rdNum b (rdNum b (rdNum b s 1).2 4).2 4).1 : Int); omega
  · show ((rdNum b (rdNum b (rdNum b s 1).2 4).2 4).1 : Int) ≤ 4294967295; omega
  · have := t1.trans (t2.trans t3)
    exact this
theorem runsN_took {b : List UInt8} {n : Nat} {acc : List Rn} {s : Rd} (h : (rdRunsN b n acc s).2.bad = false) (hs : s.at_ ≤ b.length) : ∃ l, l.length = n ∧ (rdRunsN b n acc s).1 = acc ++ l ∧ (∀ x ∈ l, x.ok) ∧ Took b s (rdRunsN b n acc s).2 (l.flatMap runB) := by
  induction n generalizing acc s with
  | zero => exact ⟨[], rfl, by simp [rdRunsN], by simp, by refine ⟨h, ?_, hs, ?_⟩ <;> simp [rdRunsN]⟩
  | succ n ih =>
    have hb := runsN_bad _ _ _ _ h
    rw [runsN_step _ _ _ _ hb] at h ⊢
    have hr := runsN_bad _ _ _ _ h
    obtain ⟨o, t⟩ := run_took hr
    obtain ⟨l, hl, he, ho, ht⟩ := ih h t.2.2.1
    refine ⟨(rdRun b s).1 :: l, by simp [hl], by rw [he]; simp, ?_, ?_⟩
    · intro x hx
      rcases List.mem_cons.1 hx with rfl | hx
      · exact o
      · exact ho x hx
    · rw [List.flatMap_cons]
      exact t.trans ht
theorem runs_took {b : List UInt8} {s : Rd} (h : (rdRuns b s).2.bad = false) : (rdRuns b s).1.length ≤ 255 ∧ (∀ x ∈ (rdRuns b s).1, x.ok) ∧ Took b s (rdRuns b s).2 (runsB (rdRuns b s).1) := by
  have h1 := runsN_bad _ _ _ _ h
  obtain ⟨l1, t1⟩ := one_took h1
  obtain ⟨l, hl, he, ho, ht⟩ := runsN_took h t1.2.2.1
  unfold rdRuns
  rw [he, List.nil_append]
  refine ⟨by omega, ho, ?_⟩
  have e : runsB l = [b8 ((rdNum b s 1).1 : Int)] ++ l.flatMap runB := by
    unfold runsB b8
    rw [hl]
    simp
  rw [e]
  exact t1.trans ht
theorem ent_took {b : List UInt8} {s : Rd} (h : (rdEnt b s).2.bad = false) : (rdEnt b s).1.ok ∧ Took b s (rdEnt b s).2 (entB (rdEnt b s).1) := by
  have h7 := h
  have h6 := num_bad _ _ _ h7
  have h5 := num_bad _ _ _ h6
  have h4 := num_bad _ _ _ h5
  have h3 := num_bad _ _ _ h4
  have h2 := num_bad _ _ _ h3
  have h1 := num_bad _ _ _ h2
  obtain ⟨l1, t1⟩ := one_took h1
  obtain ⟨l2, t2⟩ := one_took h2
  obtain ⟨l3, t3⟩ := word_took h3
  obtain ⟨l4, t4⟩ := word_took h4
  obtain ⟨l5, t5⟩ := one_took h5
  obtain ⟨l6, t6⟩ := one_took h6
  obtain ⟨l7, t7⟩ := word_took h7
  have t := t1.trans (t2.trans ((t3.trans t4).trans (t5.trans (t6.trans t7))))
  refine ⟨?_, ?_⟩
  · unfold rdEnt En.ok Vr.ok En.ver
    simp only
    omega
  · unfold rdEnt entB
    simp only
    simpa using t
theorem entsN_took {b : List UInt8} {n : Nat} {acc : List En} {s : Rd} (h : (rdEntsN b n acc s).2.bad = false) (hs : s.at_ ≤ b.length) : ∃ l, l.length = n ∧ (rdEntsN b n acc s).1 = acc ++ l ∧ (∀ x ∈ l, x.ok) ∧ Took b s (rdEntsN b n acc s).2 (l.flatMap entB) := by
  induction n generalizing acc s with
  | zero => exact ⟨[], rfl, by simp [rdEntsN], by simp, by refine ⟨h, ?_, hs, ?_⟩ <;> simp [rdEntsN]⟩
  | succ n ih =>
    have hb := entsN_bad _ _ _ _ h
    rw [entsN_step _ _ _ _ hb] at h ⊢
    have hr := entsN_bad _ _ _ _ h
    obtain ⟨o, t⟩ := ent_took hr
    obtain ⟨l, hl, he, ho, ht⟩ := ih h t.2.2.1
    refine ⟨(rdEnt b s).1 :: l, by simp [hl], by rw [he]; simp, ?_, ?_⟩
    · intro x hx
      rcases List.mem_cons.1 hx with rfl | hx
      · exact o
      · exact ho x hx
    · rw [List.flatMap_cons]
      exact t.trans ht

/-- what is read whole is written to the same bytes -/
theorem write_read {b : List UInt8} (h : (rdNote b).2.bad = false) (hend : b.length ≤ (rdNote b).2.at_) : noteBytes (rdNote b).1 = b ∧ (rdNote b).1.ok ∧ (rdNote b).1.know.length ≤ 255 ∧ (rdNote b).1.offer.length ≤ 255 ∧ (rdNote b).1.ents.length ≤ 255 := by
  have all : ∀ {s' : Rd} {w : List UInt8}, Took b ⟨0, false⟩ s' w → b.length ≤ s'.at_ → w = b := by
    intro s' w ht he
    obtain ⟨_, h2, h3, h4⟩ := ht
    have h2' : s'.at_ = w.length := by rw [h2]; exact Nat.zero_add _
    rw [List.drop_zero, List.take_of_length_le (by omega)] at h4
    exact h4.symm
  unfold rdNote at *
  simp only at *
  by_cases hk : (rdWithin b ⟨0, false⟩ 1 2).1 = 1
  · rw [if_pos hk] at h hend ⊢
    simp only at h hend ⊢
    have h6 := runs_bad _ _ h
    have h5 := num_bad _ _ _ h6
    have h4 := num_bad _ _ _ h5
    have h3 := num_bad _ _ _ h4
    have h2 := num_bad _ _ _ h3
    have h1 := num_bad _ _ _ h2
    obtain ⟨a1, a2, a3, t1⟩ := within_took h1
    obtain ⟨l2, t2⟩ := one_took h2
    obtain ⟨l3, t3⟩ := one_took h3
    obtain ⟨l4, t4⟩ := word_took h4
    obtain ⟨l5, t5⟩ := one_took h5
    obtain ⟨l6, t6⟩ := one_took h6
    obtain ⟨l7, o7, t7⟩ := runs_took h
    have t := t1.trans (t2.trans (t3.trans (t4.trans (t5.trans (t6.trans t7)))))
    refine ⟨?_, ?_, by omega, by simp, by simp⟩
    · refine Eq.trans ?_ (all t hend)
      unfold noteBytes
      simp only
      rw [if_pos (by exact_mod_cast hk)]
      simp
    · unfold Nt.ok
      simp only
      refine ⟨by omega, by omega, by omega, by omega, by omega, by omega, o7, by omega, by simp, by omega, by simp⟩
  · rw [if_neg hk] at h hend ⊢
    simp only at h hend ⊢
    have h10 := runs_bad _ _ h
    have h9 := within_bad _ _ _ _ h10
    have h8 := num_bad _ _ _ h9
    have h7 := entsN_bad _ _ _ _ h8
    have h6 := num_bad _ _ _ h7
    have h5 := num_bad _ _ _ h6
    have h4 := num_bad _ _ _ h5
    have h3 := num_bad _ _ _ h4
    have h2 := num_bad _ _ _ h3
    have h1 := num_bad _ _ _ h2
    obtain ⟨a1, a2, a3, t1⟩ := within_took h1
    obtain ⟨l2, t2⟩ := one_took h2
    obtain ⟨l3, t3⟩ := one_took h3
    obtain ⟨l4, t4⟩ := word_took h4
    obtain ⟨l5, t5⟩ := one_took h5
    obtain ⟨l6, t6⟩ := word_took h6
    obtain ⟨l7, t7⟩ := one_took h7
    obtain ⟨l, hl, he, ho, t8⟩ := entsN_took h8 t7.2.2.1
    obtain ⟨l9, t9⟩ := one_took h9
    obtain ⟨c1, c2, c3, t10⟩ := within_took h10
    obtain ⟨l11, o11, t11⟩ := runs_took h
    have t := t1.trans (t2.trans (t3.trans (t4.trans (t5.trans (t6.trans (t7.trans (t8.trans (t9.trans (t10.trans t11)))))))))
    rw [he, List.nil_append]
    refine ⟨?_, ?_, by simp, by omega, by omega⟩
    · refine Eq.trans ?_ (all t hend)
      unfold noteBytes entsB
      simp only
      rw [if_neg (by exact_mod_cast hk), hl]
      have hd : ∀ d : Nat, d ≤ 1 → (if decide (d = 1) = true then (1 : UInt8) else 0) = b8 (d : Int) := by
        intro d hd
        have : d = 0 ∨ d = 1 := by omega
        rcases this with rfl | rfl <;> rfl
      rw [hd _ c2]
      have hn : ∀ m : Nat, UInt8.ofNat m = b8 (m : Int) := fun m => by simp [b8]
      rw [hn]
      simp
    · unfold Nt.ok
      simp only
      refine ⟨by omega, by omega, by omega, by omega, by omega, by omega, by simp, by omega, ho, by omega, o11⟩
end Go.Proofs.Ytfjaeohfigcciab

