/- replica.Right of the code in plain words; the contracts of atFirst, and of the closures over a run and over an entry. -/
import Derived.Test.YtfjaeohfigcciabPRef3
import Derived.Test.YtfjaeohfigcciabLays
namespace Go.Proofs.Ytfjaeohfigcciab
open Go.RowKit Go.Sort Go.Shelf

def topC (rep seq : Int) (x : Rn) : Bool := (x.r == rep) && decide (seq < x.hi)
def rrunsB (r : Rp) (k : List Rn) : Bool := rightB k && !k.any (fun x => topC r.rep r.seq x)
def mineB (r : Rp) (e : En) : Bool := (e.rep == r.rep) && decide (r.seq < e.seq)
def mayB (r : Rp) (e : En) : Bool := !mineB r e && ((e.kind == 2) || (inB e r.flt && hasB r.know e.rep e.seq))
def sameC (e x : En) : Bool := (x.rep == e.rep) && (x.seq == e.seq)
def rheldAt (r : Rp) (i : Nat) : Bool := mayB r r.held[i]! && !(r.held.take i).any (fun x => sameC r.held[i]! x)
def rheldB (r : Rp) : Bool := erightB r.held && (List.range r.held.length).all (rheldAt r)
def firstS (s : Ss) : Bool := (s.epoch == 0) && ((s.offer.length : Int) == 0)
def rsesB (r : Rp) : Bool :=
  if r.ses.on = true then decide (1 ≤ r.ses.num) && (decide (r.ses.num ≤ r.ses.last) && (decide (r.ses.src < 8) && ((r.ses.src != r.rep) && (decide (r.ses.cur < 64) && (rrunsB r r.ses.offer && ((r.ses.cur != 0) || firstS r.ses))))))
  else (r.ses.num == 0) && ((r.ses.src == 0) && ((r.ses.cur == 0) && ((r.ses.epoch == 0) && ((r.ses.offer.length : Int) == 0))))
def rrightB (r : Rp) : Bool := decide (r.rep < 8) && (rrunsB r r.know && (rheldB r && rsesB r))

theorem top_any (rep seq : Int) (l : List Rn) : (!l.any (fun x => topC rep seq x)) = topB rep seq l := by
  unfold topB topC
  rw [List.not_any_eq_all_not]
  congr 1
theorem re_kind {x : En} (h : reB x = true) : x.kind = 1 ∨ x.kind = 2 ∨ x.kind = 3 := by
  simp only [reB, rkB, Bool.and_eq_true, decide_eq_true_eq] at h
  rcases h.2.2 with h | h | h
  · exact .inl h.1
  · exact .inr (.inl h.1)
  · exact .inr (.inr h.1)
theorem take_any (l : List En) (e : En) : ∀ i, i ≤ l.length → (!(l.take i).any (fun x => sameC e x)) = (List.range i).all (fun j => !((l[j]!.rep == e.rep) && (l[j]!.seq == e.seq)))
  | 0, _ => rfl
  | i + 1, h => by
    rw [List.range_succ, List.all_append, ← take_any l e i (by omega), List.take_succ_eq_append_getElem (by omega), List.any_append, Bool.not_or]
    simp [sameC, List.getElem?_eq_getElem (show i < l.length by omega)]
theorem may_at {r : Rp} {i : Nat} (hr : erightB r.held = true) (hi : i < r.held.length) : rheldAt r i = heldAt r i := by
  have hg := egetBang_of (List.getElem?_eq_getElem hi)
  rw [held_at hg]
  unfold rheldAt
  rw [hg, take_any _ _ _ (Nat.le_of_lt hi)]
  have hk := re_kind (re_of_right hr _ (List.getElem_mem hi))
  generalize r.held[i] = x at hk ⊢
  unfold mayB mineB
  have h3 : x.kind = 3 → inB x r.flt = true := fun h => by unfold inB; rw [decide_eq_true h]; rfl
  generalize inB x r.flt = b1 at h3 ⊢
  generalize hasB r.know x.rep x.seq = b2
  generalize (List.range i).all _ = b3
  generalize ((x.rep == r.rep) && decide (r.seq < x.seq)) = b4
  rcases hk with h | h | h
  · rw [h]; cases b1 <;> cases b2 <;> cases b3 <;> cases b4 <;> rfl
  · rw [h]; cases b1 <;> cases b2 <;> cases b3 <;> cases b4 <;> rfl
  · rw [h3 h, h]; cases b2 <;> cases b3 <;> cases b4 <;> rfl
theorem rheld_rp (r : Rp) : rheldB r = (erightB r.held && (List.range r.held.length).all (heldAt r)) := by
  unfold rheldB
  cases h : erightB r.held
  · rfl
  · rw [Bool.true_and, Bool.true_and, Bool.eq_iff_iff, List.all_eq_true, List.all_eq_true]
    constructor
    · intro H i hi; rw [← may_at h (List.mem_range.1 hi)]; exact H i hi
    · intro H i hi; rw [may_at h (List.mem_range.1 hi)]; exact H i hi
theorem rses_rp {r : Rp} (hc : 0 ≤ r.ses.cur) : rsesB r = (sesB r.ses r.rep && topB r.rep r.seq r.ses.offer) := by
  unfold rsesB sesB
  cases h : r.ses.on
  · simp only [Bool.false_eq_true, if_false]
    rw [len_zero, Bool.eq_iff_iff]
    simp only [Bool.and_eq_true, beq_iff_eq, decide_eq_true_eq, List.length_eq_zero_iff]
    constructor
    · rintro ⟨h1, h2, h3, h4, h5⟩; exact ⟨⟨h1, h2, h3, h4, h5⟩, by rw [h5]; rfl⟩
    · rintro ⟨⟨h1, h2, h3, h4, h5⟩, _⟩; exact ⟨h1, h2, h3, h4, h5⟩
  · simp only [if_true]
    unfold rrunsB firstS
    rw [top_any, len_zero, Bool.eq_iff_iff]
    simp only [Bool.and_eq_true, Bool.or_eq_true, beq_iff_eq, bne_iff_ne, decide_eq_true_eq, List.length_eq_zero_iff]
    constructor
    · rintro ⟨h1, h2, h3, h4, h5, ⟨h6, h7⟩, h8⟩
      refine ⟨⟨h6, h1, h2, by omega, h4, by omega, ?_⟩, h7⟩
      rcases h8 with h8 | h8
      · exact .inl (by omega)
      · exact .inr h8
    · rintro ⟨⟨h6, h1, h2, h3, h4, h5, h8⟩, h7⟩
      refine ⟨h1, h2, by omega, h4, by omega, ⟨h6, h7⟩, ?_⟩
      rcases h8 with h8 | h8
      · exact .inl (by omega)
      · exact .inr h8
theorem rright_rp {r : Rp} (hok : r.ok) : rrightB r = rpB r := by
  unfold rrightB rpB headR rrunsB
  rw [rheld_rp, rses_rp hok.2.2.2.2.2.2.2.2.1.1, top_any, show decide (r.rep < 8) = decide (r.rep ≤ 7) by rw [Bool.eq_iff_iff]; simp; omega, Bool.eq_iff_iff]
  simp only [Bool.and_eq_true]
  constructor
  · rintro ⟨h1, ⟨h2, h3⟩, ⟨h4, h5⟩, h6, h7⟩; exact ⟨⟨h1, h2, h4, h6⟩, h3, h7, h5⟩
  · rintro ⟨⟨h1, h2, h4, h6⟩, h3, h7, h5⟩; exact ⟨h1, ⟨h2, h3⟩, ⟨h4, h5⟩, h6, h7⟩

set_option maxHeartbeats 1000000 in
set_option maxRecDepth 100000 in
theorem patFirst_any (vo : Value) (s : Ss) (w : World) (ho : Sl w w.heap.size vo s.offer) :
    Calls Try.prog 49 #[.agg (s.cells vo)] w fun e w' => e = .returned (.bool (firstS s)) ∧ Below w.heap.size w w' := by
  obtain ⟨Ao, co, rfl, _⟩ := ho
  unfold Ss.cells
  have HP := Lib.hid (show firstS s = ((s.epoch == 0) && ((s.offer.length : Int) == 0)) from rfl)
  generalize firstS s = P at HP ⊢
  obtain ⟨q1, hq1⟩ : ∃ q : Bool, (s.epoch == 0) = q := ⟨_, rfl⟩
  obtain ⟨q2, hq2⟩ : ∃ q : Bool, ((s.offer.length : Int) == 0) = q := ⟨_, rfl⟩
  have H1 := Lib.hid hq1
  have H2 := Lib.hid hq2
  cases q1 <;> cases q2 <;>
    (go_enter Try.func49, Try.ntmps49
     go_wp2_with fail
     go_ret
     exact ⟨by rw [HP.out, H1.out, H2.out]; rfl, al1 _ _⟩)

set_option maxHeartbeats 1000000 in
theorem sameC_pred (e : En) (B : Nat) (w : World) (h1 : B < w.heap.size) (he : EnAt w B 0 e) :
    PredBelow Try.prog 54 #[.pointer (some ⟨B, 0, none⟩)] (fun x : En => .agg x.enc.toArray) (fun x => sameC e x) w := fun W x hb => by
  obtain ⟨d0, d1, d2, d3, d4, d5, d6⟩ := (he.keep hb h1).all0
  have s1 : B < W.heap.size := Nat.lt_of_lt_of_le h1 hb.size
  show Calls Try.prog 54 #[.agg #[.int .u8 x.id, .int .u8 x.rep, .int .u32 x.seq, .int .u32 x.stamp, .int .i64 x.kind, .int .u8 x.cls, .int .u32 x.val], .pointer (some ⟨B, 0, none⟩)] W fun e' w' => e' = .returned (.bool (sameC e x)) ∧ Below w.heap.size w w'
  have HP := Lib.hid (show sameC e x = ((x.rep == e.rep) && (x.seq == e.seq)) from rfl)
  generalize sameC e x = P at HP ⊢
  have HB := Lib.hid hb; clear hb
  have n1 : B ≠ W.heap.size := by omega
  obtain ⟨q1, hq1⟩ : ∃ q : Bool, (x.rep == e.rep) = q := ⟨_, rfl⟩
  obtain ⟨q2, hq2⟩ : ∃ q : Bool, (x.seq == e.seq) = q := ⟨_, rfl⟩
  have H1 := Lib.hid hq1
  have H2 := Lib.hid hq2
  clear he
  cases q1 <;> cases q2 <;>
    (go_enter Try.func54, Try.ntmps54
     go_wp2_with fail
     go_ret
     exact ⟨by rw [HP.out, H1.out, H2.out]; rfl, HB.out.alloc HB.out.size _⟩)

set_option maxHeartbeats 1000000 in
theorem aheadC_pred (rep seq : Int) (B : Nat) (w : World) (h1 : B < w.heap.size) (c0 : w.cell? ⟨B, 0, none⟩ = some (.int .u8 rep)) (c3 : w.cell? ⟨B, 3, none⟩ = some (.int .u32 seq)) :
    PredBelow Try.prog 44 #[.pointer (some ⟨B, 0, none⟩)] (fun x : Rn => .agg x.enc.toArray) (fun x => topC rep seq x) w := fun W x hb => by
  have d0 : W.cell? ⟨B, 0, none⟩ = some (.int .u8 rep) := (hb.cell (p := ⟨B, 0, none⟩) h1).trans c0
  have d3 : W.cell? ⟨B, 3, none⟩ = some (.int .u32 seq) := (hb.cell (p := ⟨B, 3, none⟩) h1).trans c3
  have s1 : B < W.heap.size := Nat.lt_of_lt_of_le h1 hb.size
  show Calls Try.prog 44 #[.agg #[.int .u8 x.r, .int .u32 x.lo, .int .u32 x.hi], .pointer (some ⟨B, 0, none⟩)] W fun e w' => e = .returned (.bool (topC rep seq x)) ∧ Below w.heap.size w w'
  have HP := Lib.hid (show topC rep seq x = ((x.r == rep) && decide (seq < x.hi)) from rfl)
  generalize topC rep seq x = P at HP ⊢
  have HB := Lib.hid hb; clear hb
  have n1 : B ≠ W.heap.size := by omega
  clear c0 c3
  obtain ⟨q1, hq1⟩ : ∃ q : Bool, (x.r == rep) = q := ⟨_, rfl⟩
  obtain ⟨q2, hq2⟩ : ∃ q : Bool, decide (seq < x.hi) = q := ⟨_, rfl⟩
  have H1 := Lib.hid hq1
  have H2 := Lib.hid hq2
  cases q1 <;> cases q2 <;>
    (go_enter Try.func44, Try.ntmps44
     go_wp2_with fail
     go_ret
     exact ⟨by rw [HP.out, H1.out, H2.out]; rfl, HB.out.alloc HB.out.size _⟩)

set_option maxHeartbeats 400000 in
theorem eIndexFunc_none (A : Option Addr) (c : Nat) (f : Value) (w : World) :
    Calls Try.prog 53 #[.slice A 0 c, f] w fun e w' => e = .returned (.int .i64 (-1)) ∧ w' = w := by
  go_enter Try.func53, Try.ntmps53
  go_wp2
  refine wp_loop_rounds 1 ?_
  rw [rounds_succ]
  go_wp2
  go_ret
  exact ⟨rfl, rfl⟩
set_option maxHeartbeats 400000 in
theorem eContainsFunc_none (A : Option Addr) (c : Nat) (f : Value) (w : World) :
    Calls Try.prog 47 #[.slice A 0 c, f] w fun e w' => e = .returned (.bool false) ∧ w' = w := by
  go_enter Try.func47, Try.ntmps47
  go_wp2_with (go_at_call 53; refine (eIndexFunc_none _ _ _ _).mono ?_; rintro e w' ⟨rfl, rfl⟩)
  go_ret
  exact ⟨rfl, rfl⟩

/-- slices.ContainsFunc at runs, with rightRuns's closure -/
theorem ahead_any (rep seq : Int) (B : Nat) (v : Value) (zs : List Rn) (w : World) (h : Sl w w.heap.size v zs) (hl : zs.length ≤ 9223372036854775807) (h1 : B < w.heap.size) (c0 : w.cell? ⟨B, 0, none⟩ = some (.int .u8 rep)) (c3 : w.cell? ⟨B, 3, none⟩ = some (.int .u32 seq)) :
    Calls Try.prog 45 #[v, .func (.func 44) #[] #[.pointer (some ⟨B, 0, none⟩)]] w fun e w' => e = .returned (.bool (zs.any (fun x => topC rep seq x))) ∧ Below w.heap.size w w' := by
  obtain ⟨A, c, rfl, _, hok, hA⟩ := h
  rcases zs with _ | ⟨x0, zs⟩
  · exact (ContainsFunc_none A c _ w).mono fun e w' ⟨he, hw⟩ => ⟨he, by subst hw; exact Below.refl _ _⟩
  · obtain ⟨b, off, rfl, hb, hc⟩ := hA (by simp)
    have eg : ∀ args w, (callFunc 44 args).run Try.prog w = .ok (.enter 44 args) w := enters_of Try.func44 (by kernel_rfl) rfl
    have hcon := AnyQ.slices_ContainsFunc Try.lContains 3 Try.isAgg49 Try.sizeOf49 Rn.enc (fun _ => rfl) (fun x => topC rep seq x) 44 _ eg b off (x0 :: zs).length c (x0 :: zs) w
      (aheadC_pred rep seq B w h1 c0 c3) (Nat.le_refl _) hl hb (fun j hj i u hi => by
        have hat := hc j _ (List.getElem?_eq_getElem hj)
        have hg : (x0 :: zs)[j]! = (x0 :: zs)[j] := by simp [List.getElem!_eq_getElem?_getD, List.getElem?_eq_getElem hj]
        rw [hg] at hi
        generalize (x0 :: zs)[j] = y at hi hat
        obtain ⟨q0, q1, q2⟩ := hat
        match i, hi with
        | 0, hi => simp [Rn.enc] at hi; rw [← hi]; exact q0
        | 1, hi => simp [Rn.enc] at hi; rw [← hi]; exact q1
        | 2, hi => simp [Rn.enc] at hi; rw [← hi]; exact q2
        | i + 3, hi => simp [Rn.enc] at hi)
    rw [List.take_length] at hcon
    exact hcon

/-- slices.ContainsFunc at entries, with sameWrite's closure -/
theorem same_any (e : En) (B : Nat) (v : Value) (zs : List En) (w : World) (h : ESl w w.heap.size v zs) (hl : zs.length ≤ 9223372036854775807) (h1 : B < w.heap.size) (he : EnAt w B 0 e) :
    Calls Try.prog 47 #[v, .func (.func 54) #[] #[.pointer (some ⟨B, 0, none⟩)]] w fun e' w' => e' = .returned (.bool (zs.any (fun x => sameC e x))) ∧ Below w.heap.size w w' := by
  obtain ⟨A, c, rfl, _, hok, hA⟩ := h
  rcases zs with _ | ⟨x0, zs⟩
  · exact (eContainsFunc_none A c _ w).mono fun e w' ⟨he, hw⟩ => ⟨he, by subst hw; exact Below.refl _ _⟩
  · obtain ⟨b, off, rfl, hb, hc⟩ := hA (by simp)
    have eg : ∀ args w, (callFunc 54 args).run Try.prog w = .ok (.enter 54 args) w := enters_of Try.func54 (by kernel_rfl) rfl
    have hcon := AnyQ.slices_ContainsFunc Try.lEContains 7 Try.isAgg43 Try.sizeOf43 En.enc (fun _ => rfl) (fun x => sameC e x) 54 _ eg b off (x0 :: zs).length c (x0 :: zs) w
      (sameC_pred e B w h1 he) (Nat.le_refl _) hl hb (fun j hj i u hi => by
        have hat := hc j _ (List.getElem?_eq_getElem hj)
        have hg := egetBang_of (List.getElem?_eq_getElem hj)
        rw [hg] at hi
        exact hat i u hi)
    rw [List.take_length] at hcon
    exact hcon
end Go.Proofs.Ytfjaeohfigcciab

