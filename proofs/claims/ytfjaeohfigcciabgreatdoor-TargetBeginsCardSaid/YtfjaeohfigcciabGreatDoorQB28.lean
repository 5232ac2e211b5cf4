/- Texts in one: PAcc, TCMath, TC7. -/
import Derived.Test.YtfjaeohfigcciabGreatDoorQB27
import Derived.Test.YtfjaeohfigcciabGreatDoorQB15
import Derived.Test.YtfjaeohfigcciabGreatDoorQB18
set_option linter.unusedVariables false
set_option linter.unusedSimpArgs false
set_option linter.unusedSectionVars false
set_option linter.unnecessarySimpa false
namespace Go.Proofs.YtfjaeohfigcciabGreatDoor

/-- what Accept tells: a replica, a Pull, whether there is more, a code -/
structure Acc where
  r : Rp
  p : Nt
  more : Bool
  code : Int
/-- it is the one that is waited for -/
def waitB (r : Rp) (n : Nt) : Bool := !(n.kind != 2) && (!(n.dst != r.rep) && (r.ses.on && (!(n.src != r.ses.src) && (!(n.num != r.ses.num) && !(n.cur != r.ses.cur)))))
/-- one is of the replica's own, above its number -/
def aheadE (r : Rp) (e : En) : Bool := (e.rep == r.rep) && decide (r.seq < e.seq)
/-- of one Rep and one Seq -/
def alikeE (e x : En) : Bool := (x.rep == e.rep) && (x.seq == e.seq)
def otherAt (l : List En) (i k : Nat) : Bool := (k != i) && alikeE l[i]! l[k]!
def otherHeld (e x : En) : Bool := (x.id != e.id) && alikeE e x
def twiceAt (h l : List En) (i : Nat) : Bool := (List.range l.length).any (otherAt l i) || h.any (otherHeld l[i]!)
/-- something of it may not be -/
def clashB (r : Rp) (b : Nt) : Bool := b.ents.any (aheadE r) || ((List.range b.ents.length).any (twiceAt r.held b.ents) || !topB r.rep r.seq b.offer)
/-- the entries taken, one by one: what is known, and what is held -/
def takesR (f : Int) : List En → List Rn → List En → Except Int (List Rn × List En)
  | [], k, h => .ok (k, h)
  | e :: es, k, h =>
    if e.kind = 2 ∧ inB e f = true then takesR f es k (takeS h (fitE f e))
    else match addR k e.rep e.seq with
      | .ok k' => takesR f es k' (takeS h (fitE f e))
      | .error c => .error c
/-- a replica behind a Batch's entries -/
def afterP (r : Rp) (b : Nt) (k : List Rn) (h : List En) : Rp :=
  ⟨r.rep, r.flt, r.epoch, r.seq, k, h, ⟨r.ses.on, r.ses.num, r.ses.src, r.ses.cur, if b.cur = 0 then b.epoch else r.ses.epoch, if b.cur = 0 then b.offer else r.ses.offer, r.ses.last⟩⟩
def moveP (r : Rp) (c : Int) : Rp := ⟨r.rep, r.flt, r.epoch, r.seq, r.know, r.held, ⟨r.ses.on, r.ses.num, r.ses.src, c, r.ses.epoch, r.ses.offer, r.ses.last⟩⟩
def noAcc (c : Int) : Acc := ⟨zeroP, zeroN, false, c⟩
def knowP (r : Rp) (k : List Rn) : Rp := ⟨r.rep, r.flt, r.epoch, r.seq, k, r.held, r.ses⟩
/-- behind the entries -/
def endR (b : Nt) (s : Rp) : Acc :=
  if b.done = true then (match unionR s.know s.ses.offer with | .ok k => ⟨offP (knowP s k), zeroN, false, 0⟩ | .error c => noAcc c)
  else ⟨moveP s b.next, pullP (moveP s b.next), true, 0⟩
def takeP (r : Rp) (b : Nt) : Acc :=
  match takesR r.flt b.ents r.know r.held with
  | .error c => noAcc c
  | .ok x => endR b (afterP r b x.1 x.2)
def acceptR (r : Rp) (b : Nt) : Acc :=
  if rpB r = false then noAcc 9 else if noteB b = false then noAcc 3 else if waitB r b = false then noAcc 4 else if clashB r b = true then noAcc 9
  else if 0 < b.cur ∧ b.epoch ≠ r.ses.epoch then ⟨offP r, zeroN, false, 10⟩ else takeP r b

/-! what is known and held behind entries -/
theorem takes_snoc (f : Int) (e : En) : ∀ (l : List En) (k : List Rn) (h : List En), takesR f (l ++ [e]) k h = (match takesR f l k h with | .ok x => takesR f [e] x.1 x.2 | .error c => .error c)
  | [], k, h => rfl
  | y :: l, k, h => by
    simp only [List.cons_append, takesR]
    split
    · exact takes_snoc f e l _ _
    · cases addR k y.rep y.seq with
      | error c => rfl
      | ok k' => exact takes_snoc f e l k' _
theorem takes_bad (f : Int) (l2 : List En) : ∀ (l : List En) (k : List Rn) (h : List En) (c : Int), takesR f l k h = .error c → takesR f (l ++ l2) k h = .error c
  | [], k, h, c, he => by simp [takesR] at he
  | y :: l, k, h, c, he => by
    simp only [List.cons_append, takesR] at he ⊢
    split
    · rename_i hw; rw [if_pos hw] at he; exact takes_bad f l2 l _ _ c he
    · rename_i hw
      rw [if_neg hw] at he
      cases ha : addR k y.rep y.seq with
      | error d => rw [ha] at he; exact he
      | ok k' => rw [ha] at he; exact takes_bad f l2 l k' _ c he
theorem add_right {k k' : List Rn} {p n : Int} (h : addR k p n = .ok k') : rightB k' = true := (union_told h).2.2.1
theorem add_has {k k' : List Rn} {p n : Int} (h : addR k p n = .ok k') (q m : Int) : covs k' q m = (covs k q m || (decide (p = q) && decide (n = m))) := by
  rw [(union_told h).2.2.2 q m]
  congr 1
  rw [Bool.eq_iff_iff]
  simp only [covs_iff, List.mem_singleton, Bool.and_eq_true, decide_eq_true_eq]
  constructor
  · rintro ⟨x, rfl, h1, h2, h3⟩
    simp only at h1 h2 h3
    exact ⟨h1, by omega⟩
  · rintro ⟨h1, h2⟩
    exact ⟨_, rfl, h1, by simp; omega, by simp; omega⟩
theorem takeS_up {zs : List En} (hr : Rise zs) (e : En) {id : Int} {u : Vr} (h : ∃ v, verAt zs id = some v ∧ ltV v u = false) : ∃ v, verAt (takeS zs e) id = some v ∧ ltV v u = false := by
  rw [verAt_take e id hr]
  exact step_up e id h
theorem takeS_has {zs : List En} (hr : Rise zs) (e : En) : ∃ v, verAt (takeS zs e) e.id = some v ∧ ltV v e.ver = false := by
  rw [verAt_take e e.id hr, stepV, if_pos rfl]
  refine ⟨_, rfl, ?_⟩
  unfold mx
  cases verAt zs e.id with
  | none => exact ltV_irrefl _
  | some u =>
    simp only
    split
    · exact ltV_irrefl _
    · rename_i h; simpa using h
/-- what entries that were taken leave behind -/
structure TookB (f : Int) (l : List En) (k : List Rn) (h : List En) (k' : List Rn) (h' : List En) : Prop where
  right : rightB k = true → rightB k' = true
  rise : Rise h'
  good : (∀ x ∈ h, reB x = true) → (∀ x ∈ l, reB x = true) → ∀ x ∈ h', reB x = true
  okh : (∀ x ∈ h, x.ok) → (∀ x ∈ l, x.ok) → ∀ x ∈ h', x.ok
  was : ∀ q m, covs k q m = true → covs k' q m = true
  now : ∀ q m, covs k' q m = true → covs k q m = true ∨ ∃ x ∈ l, x.rep = q ∧ x.seq = m
  up : ∀ id u, (∃ v, verAt h id = some v ∧ ltV v u = false) → ∃ v, verAt h' id = some v ∧ ltV v u = false
  has : ∀ x ∈ l, ∃ v, verAt h' x.id = some v ∧ ltV v x.ver = false
  len : h'.length ≤ h.length + l.length
theorem tookB (f : Int) : ∀ (l : List En) (k : List Rn) (h : List En) (k' : List Rn) (h' : List En), Rise h → takesR f l k h = .ok (k', h') → TookB f l k h k' h'
  | [], k, h, k', h', hr, he => by
    simp only [takesR, Except.ok.injEq, Prod.mk.injEq] at he
    obtain ⟨rfl, rfl⟩ := he
    exact ⟨id, hr, fun g _ => g, fun g _ => g, fun _ _ g => g, fun _ _ g => .inl g, fun _ _ g => g, (fun x hx => by cases hx), Nat.le_refl _⟩
  | e :: l, k, h, k', h', hr, he => by
    have hver : (fitE f e).ver = e.ver := by
      obtain ⟨_, e2, e3, e4⟩ := fit_same f e
      unfold En.ver
      rw [e2, e3, e4]
    have hid := (fit_same f e).1
    have step : ∀ k2, (rightB k = true → rightB k2 = true) → (∀ q m, covs k q m = true → covs k2 q m = true) → (∀ q m, covs k2 q m = true → covs k q m = true ∨ (e.rep = q ∧ e.seq = m)) → takesR f l k2 (takeS h (fitE f e)) = .ok (k', h') → TookB f (e :: l) k h k' h' := fun k2 hk hm hn he => by
      have T := tookB f l k2 _ k' h' (takeS_rise _ hr) he
      refine ⟨fun g => T.right (hk g), T.rise, fun g1 g2 => T.good (fun x hx => ?_) (fun x hx => g2 x (by simp [hx])), fun g1 g2 => T.okh (fun x hx => ?_) (fun x hx => g2 x (by simp [hx])), fun q m g => T.was q m (hm q m g), fun q m g => ?_, fun id u g => T.up id u (takeS_up hr _ g), fun x hx => ?_, by have h1 := T.len; have h2 := takeS_length h (fitE f e); simp only [List.length_cons]; omega⟩
      · rcases mem_takeS hx with h1 | h1
        · rw [h1]; exact fit_re (g2 e (by simp))
        · exact g1 x h1
      · rcases mem_takeS hx with h1 | h1
        · rw [h1]; exact fit_ok (g2 e (by simp))
        · exact g1 x h1
      · rcases T.now q m g with g1 | ⟨x, hx, h1, h2⟩
        · rcases hn q m g1 with g2 | ⟨h1, h2⟩
          · exact .inl g2
          · exact .inr ⟨e, by simp, h1, h2⟩
        · exact .inr ⟨x, by simp [hx], h1, h2⟩
      · rcases List.mem_cons.1 hx with rfl | hx
        · refine T.up _ _ ?_
          have := takeS_has hr (fitE f x)
          rw [hid, hver] at this
          exact this
        · exact T.has x hx
    simp only [takesR] at he
    split at he
    · exact step k id (fun _ _ g => g) (fun _ _ g => .inl g) he
    · cases ha : addR k e.rep e.seq with
      | error c => rw [ha] at he; cases he
      | ok k2 =>
        rw [ha] at he
        have hh := add_has ha
        refine step k2 (fun _ => add_right ha) (fun q m g => by rw [hh, g]; rfl) (fun q m g => ?_) he
        rw [hh] at g
        simp only [Bool.or_eq_true, Bool.and_eq_true, decide_eq_true_eq] at g
        exact g
end Go.Proofs.YtfjaeohfigcciabGreatDoor

namespace Go.Proofs.YtfjaeohfigcciabGreatDoor

/-- why a note isn't taken in -/
def refuseA (r : Rp) (b : Nt) : Option Int :=
  if rpB r = false then some 9 else if noteB b = false then some 3 else if waitB r b = false then some 4 else if clashB r b = true then some 9 else if 0 < b.cur ∧ b.epoch ≠ r.ses.epoch then some 10 else none
theorem accept_none {r : Rp} {b : Nt} (h : refuseA r b = none) : acceptR r b = takeP r b := by
  unfold refuseA at h
  unfold acceptR
  split at h
  · cases h
  split at h
  · cases h
  split at h
  · cases h
  split at h
  · cases h
  split at h
  · cases h
  rename_i h1 h2 h3 h4 h5
  rw [if_neg h1, if_neg h2, if_neg h3, if_neg h4, if_neg h5]
theorem accept_some {r : Rp} {b : Nt} {c : Int} (h : refuseA r b = some c) : acceptR r b = (if c = 10 then ⟨offP r, zeroN, false, 10⟩ else noAcc c) ∧ (c = 9 ∨ c = 3 ∨ c = 4 ∨ c = 10) := by
  unfold refuseA at h
  unfold acceptR
  split at h
  · rename_i h1; injection h with h; subst h; rw [if_pos h1]; exact ⟨rfl, by simp⟩
  split at h
  · rename_i h1 h2; injection h with h; subst h; rw [if_neg h1, if_pos h2]; exact ⟨rfl, by simp⟩
  split at h
  · rename_i h1 h2 h3; injection h with h; subst h; rw [if_neg h1, if_neg h2, if_pos h3]; exact ⟨rfl, by simp⟩
  split at h
  · rename_i h1 h2 h3 h4; injection h with h; subst h; rw [if_neg h1, if_neg h2, if_neg h3, if_pos h4]; exact ⟨rfl, by simp⟩
  split at h
  · rename_i h1 h2 h3 h4 h5; injection h with h; subst h; rw [if_neg h1, if_neg h2, if_neg h3, if_neg h4, if_pos h5]; exact ⟨rfl, by simp⟩
  · cases h
structure GoesIn (r : Rp) (b : Nt) : Prop where
  rp : rpB r = true
  nb : noteB b = true
  wait : waitB r b = true
  clash : clashB r b = false
  ep : ¬ (0 < b.cur ∧ b.epoch ≠ r.ses.epoch)
theorem refuse_goes {r : Rp} {b : Nt} (h : refuseA r b = none) : GoesIn r b := by
  unfold refuseA at h
  split at h
  · cases h
  split at h
  · cases h
  split at h
  · cases h
  split at h
  · cases h
  split at h
  · cases h
  rename_i h1 h2 h3 h4 h5
  exact ⟨by simpa using h1, by simpa using h2, by simpa using h3, by simpa using h4, h5⟩
theorem wait_on {r : Rp} {b : Nt} (h : waitB r b = true) : r.ses.on = true ∧ b.kind = 2 := by
  unfold waitB at h
  simp only [Bool.and_eq_true, Bool.not_eq_true', bne_eq_false_iff_eq] at h
  exact ⟨h.2.2.1, h.1⟩
theorem batch_of {b : Nt} (h : noteB b = true) (hk : b.kind = 2) : erightB b.ents = true ∧ b.ents.length ≤ 4 ∧ rightB b.offer = true := by
  unfold noteB at h
  rw [hk, if_neg (by decide)] at h
  simp only [batchB, Bool.and_eq_true, decide_eq_true_eq] at h
  exact ⟨h.2.2.1, h.2.1.2.2.2, h.2.2.2.1⟩

theorem twice_any {l h : List En} (hr : Rise l) : (List.range l.length).any (twiceAt h l) = l.any (fun e => l.any (otherHeld e) || h.any (otherHeld e)) := by
  have hid : ∀ i k (hi : i < l.length) (hk : k < l.length), (l[k].id != l[i].id) = (k != i) := fun i k hi hk => by
    rw [Bool.eq_iff_iff]
    simp only [bne_iff_ne, ne_eq]
    have hp := List.pairwise_iff_getElem.1 hr
    constructor
    · intro h e; subst e; exact h rfl
    · intro h e
      rcases Nat.lt_or_gt_of_ne h with h1 | h1
      · have := hp k i hk hi h1; omega
      · have := hp i k hi hk h1; omega
  have hin : ∀ i (hi : i < l.length), (List.range l.length).any (otherAt l i) = l.any (otherHeld l[i]) := fun i hi => by
    rw [Bool.eq_iff_iff, List.any_eq_true, List.any_eq_true]
    constructor
    · rintro ⟨k, hk, ho⟩
      have hk := List.mem_range.1 hk
      refine ⟨l[k], List.getElem_mem hk, ?_⟩
      unfold otherAt at ho
      rw [egetBang_of (List.getElem?_eq_getElem hi), egetBang_of (List.getElem?_eq_getElem hk)] at ho
      unfold otherHeld
      rw [hid i k hi hk]
      exact ho
    · rintro ⟨x, hx, ho⟩
      obtain ⟨k, hk, rfl⟩ := List.mem_iff_getElem.1 hx
      refine ⟨k, List.mem_range.2 hk, ?_⟩
      unfold otherAt
      rw [egetBang_of (List.getElem?_eq_getElem hi), egetBang_of (List.getElem?_eq_getElem hk)]
      unfold otherHeld at ho
      rw [hid i k hi hk] at ho
      exact ho
  rw [Bool.eq_iff_iff, List.any_eq_true, List.any_eq_true]
  constructor
  · rintro ⟨i, hi, ht⟩
    have hi := List.mem_range.1 hi
    refine ⟨l[i], List.getElem_mem hi, ?_⟩
    unfold twiceAt at ht
    rw [hin i hi, egetBang_of (List.getElem?_eq_getElem hi)] at ht
    exact ht
  · rintro ⟨x, hx, ht⟩
    obtain ⟨i, hi, rfl⟩ := List.mem_iff_getElem.1 hx
    refine ⟨i, List.mem_range.2 hi, ?_⟩
    unfold twiceAt
    rw [hin i hi, egetBang_of (List.getElem?_eq_getElem hi)]
    exact ht
def aheadR (r : Rp) (b : Nt) : Bool := b.ents.any (aheadE r) || b.offer.any (topC r.rep r.seq)
def clashR (r : Rp) (b : Nt) : Bool := b.ents.any (fun e => b.ents.any (otherHeld e) || r.held.any (otherHeld e))
theorem clash_is {r : Rp} {b : Nt} (h : erightB b.ents = true) : (aheadR r b || clashR r b) = clashB r b := by
  unfold aheadR clashR clashB
  rw [twice_any (rise_of_right h), ← top_any, Bool.not_not]
  cases b.ents.any (aheadE r) <;> cases b.offer.any (topC r.rep r.seq) <;> simp

theorem fade_wanted (e : En) (f : Int) : ((fitE f e).kind = 2 ∧ inB (fitE f e) f = true) ↔ (e.kind = 2 ∧ inB e f = true) := by
  unfold fitE
  split
  · exact Iff.rfl
  · rename_i hi
    unfold fadeE
    split
    · rename_i hk
      constructor
      · rintro ⟨_, h2⟩
        exfalso
        apply hi
        unfold inB at h2 ⊢
        simp only [Bool.or_eq_true, decide_eq_true_eq] at h2 ⊢
        rcases h2 with h2 | h2
        · exact absurd h2 (by decide)
        · exact .inr h2
      · rintro ⟨h1, _⟩
        rw [hk] at h1
        exact absurd h1 (by decide)
    · exact Iff.rfl
/-- what one entry does -/
theorem tc_one (f : Int) (e : En) (k : List Rn) (h : List En) : takesR f [e] k h =
    if e.kind = 2 ∧ inB e f = true then .ok (k, takeS h (fitE f e)) else (match addR k e.rep e.seq with | .ok k' => .ok (k', takeS h (fitE f e)) | .error c => .error c) := by
  unfold takesR takesR
  split
  · rfl
  · cases addR k e.rep e.seq <;> rfl
theorem tc_take {l : List En} {i : Nat} {e : En} (h : l[i]? = some e) : l.take (i + 1) = l.take i ++ [e] := by
  obtain ⟨hi, rfl⟩ := List.getElem?_eq_some_iff.1 h
  rw [List.take_succ_eq_append_getElem hi]
theorem tc_next {f : Int} {l : List En} {i : Nat} {e : En} {k0 : List Rn} {h0 : List En} {x : List Rn × List En} (he : l[i]? = some e) (h : takesR f (l.take i) k0 h0 = .ok x) :
    takesR f (l.take (i + 1)) k0 h0 = takesR f [e] x.1 x.2 := by
  rw [tc_take he, takes_snoc, h]
theorem tc_dies {f : Int} {l : List En} {i : Nat} {k0 : List Rn} {h0 : List En} {c : Int} (h : takesR f (l.take i) k0 h0 = .error c) : takesR f l k0 h0 = .error c := by
  have := takes_bad f (l.drop i) (l.take i) k0 h0 c h
  rwa [List.take_append_drop] at this
end Go.Proofs.YtfjaeohfigcciabGreatDoor

namespace Go.Proofs.YtfjaeohfigcciabGreatDoor
open Go.RowKit

def withK (r : Rp) (k : List Rn) (h : List En) : Rp := ⟨r.rep, r.flt, r.epoch, r.seq, k, h, r.ses⟩
/-- behind an entry that is laid in as it is -/
def entX (r : Rp) (x : En) : Except Int Rp :=
  if x.kind = 2 ∧ inB x r.flt = true then .ok (withK r r.know (takeS r.held x)) else (match addR r.know x.rep x.seq with | .ok k => .ok (withK r k (takeS r.held x)) | .error c => .error c)
/-- behind an entry -/
def entR (r : Rp) (e : En) : Except Int Rp := match takesR r.flt [e] r.know r.held with | .ok x => .ok (withK r x.1 x.2) | .error c => .error c
theorem ent_fit (r : Rp) (e : En) : entR r e = entX r (fitE r.flt e) := by
  unfold entR entX
  rw [tc_one]
  obtain ⟨_, e2, e3, _⟩ := fit_same r.flt e
  rw [e2, e3]
  by_cases h : e.kind = 2 ∧ inB e r.flt = true
  · rw [if_pos h, if_pos ((fade_wanted e r.flt).2 h)]
  · rw [if_neg h, if_neg (fun g => h ((fade_wanted e r.flt).1 g))]
    cases addR r.know e.rep e.seq <;> rfl
theorem with_ok {r : Rp} (h : r.ok) {k : List Rn} {l : List En} (hk : ∀ x ∈ k, x.ok) (hl : ∀ x ∈ l, x.ok) : (withK r k l).ok := by
  obtain ⟨a1, a2, a3, a4, _, _, a7⟩ := h
  exact ⟨a1, a2, a3, a4, hk, hl, a7⟩
/-- a replica comes back, whose lists are new, or lie where those that came in do; or the call dies of a code -/
def RepMore (P : Nat → Prop) (w : World) (res : Except Int Rp) (e : Ending) (w' : World) : Prop :=
  match res with
  | .ok x => ∃ v, e = .returned v ∧ RpV w' w'.heap.size v x ∧ RpAv (fun k => P k ∨ w.heap.size ≤ k) v x ∧ Below w.heap.size w w'
  | .error c => e = diesOf (.iface 74 (.int .i64 c)) ∧ Below w.heap.size w w'
noncomputable def entRest : Code := tailN 2 (Tryz.f69.body.getD .skip)
theorem be_cut {a0 a1 c : Code} (h : Tryz.f69.body = some (.seq a0 (.seq a1 c))) : Tryz.f69.body = some (.seq a0 (.seq a1 entRest)) := by
  have e : entRest = c := tail2 h
  rw [e]
  exact h
theorem be_size : (Tryz.prog.info? 62).map (·.size) = some 7 := by kernel_rfl

set_option maxHeartbeats 16000000 in
set_option maxRecDepth 100000 in
theorem be_rest (P : Nat → Prop) {w wf : World} {r : Rp} {lr : Ls} {x : En} (hbr : Blk wf w.heap.size #[.int .u8 r.rep, .int .u8 r.flt, .int .u32 r.epoch, .int .u32 r.seq, .slice lr.a r.know.length lr.i, .slice lr.b r.held.length lr.j, .bool r.ses.on, .int .u32 r.ses.num, .int .u8 r.ses.src, .int .u8 r.ses.cur, .int .u32 r.ses.epoch, .slice lr.c r.ses.offer.length lr.k, .int .u32 r.ses.last] 28) (hbe : Blk wf (w.heap.size + 1) #[.int .u8 x.id, .int .u8 x.rep, .int .u32 x.seq, .int .u32 x.stamp, .int .i64 x.kind, .int .u8 x.cls, .int .u32 x.val] 62) (hbo : Blk wf (w.heap.size + 1 + 1) #[.int .u8 0, .int .u8 0, .int .u32 0, .int .u32 0, .slice none 0 0, .slice none 0 0, .bool false, .int .u32 0, .int .u8 0, .int .u8 0, .int .u32 0, .slice none 0 0, .int .u32 0] 28)
    (hv : RpV wf wf.heap.size (.agg (repR r lr)) r) (ha : RpAv P (.agg (repR r lr)) r) (hp : RpAv (fun k => k < w.heap.size) (.agg (repR r lr)) r) (hb : Below w.heap.size w wf) (hx : x.ok) (hxr : reB x = true) (hh : erightB r.held = true) (hl : r.held.length ≤ 8000) {u0 u1 u5 u6 u7 u8 u9 u10 u11 u12 u13 u14 u15 u16 u17 u18 u19 u20 u21 u22 u23 u24 u25 u26 u27 u28 u29 u30 u31 u32 u33 u34 u35 u36 u37 u38 u39 u40 u41 u42 u43 : Value} :
    entRest.wp Tryz.prog (bodyPost Tryz.prog Tryz.f69 (RepMore P w (entX r x))) { tmps := #[u0, u1, .pointer (some ⟨w.heap.size, 0, none⟩), .pointer (some ⟨w.heap.size + 1, 0, none⟩), .pointer (some ⟨w.heap.size + 1 + 1, 0, none⟩), u5, u6, u7, u8, u9, u10, u11, u12, u13, u14, u15, u16, u17, u18, u19, u20, u21, u22, u23, u24, u25, u26, u27, u28, u29, u30, u31, u32, u33, u34, u35, u36, u37, u38, u39, u40, u41, u42, u43], defers := [] } wf := by
  have hok := hv.isok
  have hst : takeR r.held x = some (takeS r.held x) := by unfold takeR; rw [if_pos ⟨hh, hxr⟩, takeL_eq x (rise_of_right hh)]
  have hTok : ∀ y ∈ takeS r.held x, y.ok := by
    intro y hy
    rcases mem_takeS hy with h1 | h1
    · rw [h1]; exact hx
    · exact hok.2.2.2.2.2.1 y h1
  have HT := Lib.hid (fun w1 (hb1 : Below wf.heap.size wf w1) => by
    have := Take_anyO (.slice lr.b r.held.length lr.j) r.held x w1 (hv.later hb1).she (by omega) hx
    rw [hst] at this
    exact this)
  have HA := Lib.hid (fun w1 (hs : Sl w1 w1.heap.size (.slice lr.a r.know.length lr.i) r.know) => Add_anyO (.slice lr.a r.know.length lr.i) r.know x.rep x.seq w1 hx.2.1.1 hx.2.1.2.1 hs)
  have HI := Lib.hid (fun w1 => iIn_any x r.flt w1 hx hok.2.1)
  have HX := Lib.hid (show entX r x = if x.kind = 2 ∧ inB x r.flt = true then .ok (withK r r.know (takeS r.held x)) else (match addR r.know x.rep x.seq with | .ok k => .ok (withK r k (takeS r.held x)) | .error c => .error c) from rfl)
  generalize entX r x = R at HX ⊢
  generalize takeS r.held x = T at HT HX hTok
  generalize addR r.know x.rep x.seq = D at HA HX
  generalize inB x r.flt = q2 at HI HX
  have HOK := Lib.hid hok
  have HTO := Lib.hid hTok
  have BR := Lib.hid hbr
  have BE := Lib.hid hbe
  have BO := Lib.hid hbo
  have HV := Lib.hid hv
  have HAP := Lib.hid ha.lists
  have HPP := Lib.hid hp.lists
  have HPW := Lib.hid hp
  have HB := Lib.hid hb
  have hlt := BO.out.lt
  have HLT := Lib.hid hlt
  clear hbr hbe hbo hv ha hp hb hx hxr hh hl hok hst hTok hlt
  by_cases hw : x.kind = 2 ∧ q2 = true
  · obtain ⟨hk2, rfl⟩ := hw
    have hR := HX.out
    rw [if_pos ⟨hk2, rfl⟩] at hR
    subst hR
    have hkk : (x.kind != 2) = false := by rw [hk2]; rfl
    have hkk2 : (x.kind == 2) = true := by rw [hk2]; rfl
    clear HX HA hk2
    unfold entRest
    rw [tail2 (f := Tryz.f69) rfl]
    have c5 := BR.out.cell 5 (.slice lr.b r.held.length lr.j) rfl
    have e0 := BE.out.cell 0 (.int .u8 x.id) rfl
    have e1 := BE.out.cell 1 (.int .u8 x.rep) rfl
    have e2 := BE.out.cell 2 (.int .u32 x.seq) rfl
    have e3 := BE.out.cell 3 (.int .u32 x.stamp) rfl
    have e4 := BE.out.cell 4 (.int .i64 x.kind) rfl
    have e5 := BE.out.cell 5 (.int .u8 x.cls) rfl
    have e6 := BE.out.cell 6 (.int .u32 x.val) rfl
    go_wp2_with fail
    refine (HT.out wf (Below.refl _ _)).mono ?_
    rintro e w1 ⟨v2, rfl, ⟨o2, s2⟩, hb⟩
    obtain ⟨A2, d2, rfl, _⟩ := s2
    have O2 := Lib.hid (o2.mono (Nat.le_refl wf.heap.size)); clear o2 c5 e0 e1 e2 e3 e4 e5 e6
    have BR := Lib.hid (BR.out.keep hb)
    have BE := Lib.hid (BE.out.keep hb)
    have BO := Lib.hid (BO.out.keep hb)
    have HV := Lib.hid (HV.out.later hb)
    have HS := Lib.hid hb.size
    have HB := Lib.hid (HB.out.trans (hb.mono HB.out.size)); clear hb
    have c5 := BR.out.cell 5 (.slice lr.b r.held.length lr.j) rfl
    have f5 := BR.out.free 5
    go_upto_region 4 with (go_at_call 107; refine (tsureE_ok _ _).mono ?_; rintro e w2 ⟨rfl, hw⟩; rw [hw]; clear hw)
    have hoff := (Off.refl w.heap.size w1).set 5 (.slice A2 T.length d2)
    have BR := Lib.hid (show Blk (w1.setCell ⟨w.heap.size, 5, none⟩ (.slice A2 T.length d2)) w.heap.size #[.int .u8 r.rep, .int .u8 r.flt, .int .u32 r.epoch, .int .u32 r.seq, .slice lr.a r.know.length lr.i, .slice A2 T.length d2, .bool r.ses.on, .int .u32 r.ses.num, .int .u8 r.ses.src, .int .u8 r.ses.cur, .int .u32 r.ses.epoch, .slice lr.c r.ses.offer.length lr.k, .int .u32 r.ses.last] 28 from BR.out.put 5 (.slice A2 T.length d2))
    have BE := Lib.hid (BE.out.off hoff (by omega))
    have BO := Lib.hid (BO.out.off hoff (by omega))
    have HV := Lib.hid (HV.out.off hoff (HPW.out.mono fun k hk => by omega))
    have O2 := Lib.hid (O2.out.setOther (h := w.heap.size) (j := 5) (u := .slice A2 T.length d2) (by have := HLT.out; omega))
    have HB := Lib.hid (below_off HB.out hoff (Nat.le_refl _))
    have hz := hoff.size
    rw [← hz] at HV HS
    clear hoff hz c5 f5
    generalize w1.setCell ⟨w.heap.size, 5, none⟩ (.slice A2 T.length d2) = w2 at BR BE BO HV O2 HB HS ⊢
    have c1 := BR.out.cell 1 (.int .u8 r.flt) rfl
    have e0 := BE.out.cell 0 (.int .u8 x.id) rfl
    have e1 := BE.out.cell 1 (.int .u8 x.rep) rfl
    have e2 := BE.out.cell 2 (.int .u32 x.seq) rfl
    have e3 := BE.out.cell 3 (.int .u32 x.stamp) rfl
    have e4 := BE.out.cell 4 (.int .i64 x.kind) rfl
    have e5 := BE.out.cell 5 (.int .u8 x.cls) rfl
    have e6 := BE.out.cell 6 (.int .u32 x.val) rfl
    go_wp2_with fail
    refine (HI.out w2).mono ?_
    rintro e w3 ⟨rfl, hb⟩
    have BR := Lib.hid (BR.out.keep hb)
    have BE := Lib.hid (BE.out.keep hb)
    have BO := Lib.hid (BO.out.keep hb)
    have HV := Lib.hid (HV.out.later hb)
    have O2 := Lib.hid (O2.out.below hb)
    have HS := Lib.hid (Nat.le_trans HS.out hb.size)
    have HB := Lib.hid (HB.out.trans (hb.mono HB.out.size)); clear hb c1 e0 e1 e2 e3 e4 e5 e6
    go_upto_region 6 with fail
    go_wp2_with (first
      | (refine wpList_load_row rfl _ _ rfl w.heap.size rfl 28 #[.int .u8 r.rep, .int .u8 r.flt, .int .u32 r.epoch, .int .u32 r.seq, .slice lr.a r.know.length lr.i, .slice A2 T.length d2, .bool r.ses.on, .int .u32 r.ses.num, .int .u8 r.ses.src, .int .u8 r.ses.cur, .int .u32 r.ses.epoch, .slice lr.c r.ses.offer.length lr.k, .int .u32 r.ses.last] (0, 0) _ BR.out.at_ Tryz.underlying28 rfl rep_size1 ?_)
      | (refine wpList_store_row rfl _ _ _ rfl (w.heap.size + 1 + 1) #[.int .u8 r.rep, .int .u8 r.flt, .int .u32 r.epoch, .int .u32 r.seq, .slice lr.a r.know.length lr.i, .slice A2 T.length d2, .bool r.ses.on, .int .u32 r.ses.num, .int .u8 r.ses.src, .int .u8 r.ses.cur, .int .u32 r.ses.epoch, .slice lr.c r.ses.offer.length lr.k, .int .u32 r.ses.last] rfl rfl 28 #[.int .u8 0, .int .u8 0, .int .u32 0, .int .u32 0, .slice none 0 0, .slice none 0 0, .bool false, .int .u32 0, .int .u8 0, .int .u8 0, .int .u32 0, .slice none 0 0, .int .u32 0] BO.out.at_ rep_size1 rfl (by simp [Value.oneCell']) ?_))
    refine bodyPost_ret (v := .agg #[.int .u8 r.rep, .int .u8 r.flt, .int .u32 r.epoch, .int .u32 r.seq, .slice lr.a r.know.length lr.i, .slice A2 T.length d2, .bool r.ses.on, .int .u32 r.ses.num, .int .u8 r.ses.src, .int .u8 r.ses.cur, .int .u32 r.ses.epoch, .slice lr.c r.ses.offer.length lr.k, .int .u32 r.ses.last]) (results_cell_row Tryz.results69 _ _ (w.heap.size + 1 + 1) 28 #[.int .u8 r.rep, .int .u8 r.flt, .int .u32 r.epoch, .int .u32 r.seq, .slice lr.a r.know.length lr.i, .slice A2 T.length d2, .bool r.ses.on, .int .u32 r.ses.num, .int .u8 r.ses.src, .int .u8 r.ses.cur, .int .u32 r.ses.epoch, .slice lr.c r.ses.offer.length lr.k, .int .u32 r.ses.last] (0, 0) _ rfl (BO.out.row #[.int .u8 r.rep, .int .u8 r.flt, .int .u32 r.epoch, .int .u32 r.seq, .slice lr.a r.know.length lr.i, .slice A2 T.length d2, .bool r.ses.on, .int .u32 r.ses.num, .int .u8 r.ses.src, .int .u8 r.ses.cur, .int .u32 r.ses.epoch, .slice lr.c r.ses.offer.length lr.k, .int .u32 r.ses.last]).at_ Tryz.underlying28 rfl rep_size1) rfl ?_
    have hlt := HLT.out
    have P2 := O2.out.setRowOther (h := w.heap.size + 1 + 1) (cs := #[.int .u8 r.rep, .int .u8 r.flt, .int .u32 r.epoch, .int .u32 r.seq, .slice lr.a r.know.length lr.i, .slice A2 T.length d2, .bool r.ses.on, .int .u32 r.ses.num, .int .u8 r.ses.src, .int .u8 r.ses.cur, .int .u32 r.ses.epoch, .slice lr.c r.ses.offer.length lr.k, .int .u32 r.ses.last]) (by omega)
    have P3 := HV.out.sof.rowOff (g := w.heap.size + 1 + 1) (HPP.out.2.2.mono fun k hk => by omega) #[.int .u8 r.rep, .int .u8 r.flt, .int .u32 r.epoch, .int .u32 r.seq, .slice lr.a r.know.length lr.i, .slice A2 T.length d2, .bool r.ses.on, .int .u32 r.ses.num, .int .u8 r.ses.src, .int .u8 r.ses.cur, .int .u32 r.ses.epoch, .slice lr.c r.ses.offer.length lr.k, .int .u32 r.ses.last]
    have P1 := HV.out.skn.rowOff (g := w.heap.size + 1 + 1) (HPP.out.1.mono fun k hk => by omega) #[.int .u8 r.rep, .int .u8 r.flt, .int .u32 r.epoch, .int .u32 r.seq, .slice lr.a r.know.length lr.i, .slice A2 T.length d2, .bool r.ses.on, .int .u32 r.ses.num, .int .u8 r.ses.src, .int .u8 r.ses.cur, .int .u32 r.ses.epoch, .slice lr.c r.ses.offer.length lr.k, .int .u32 r.ses.last]
    have hz : (w3.setRow (w.heap.size + 1 + 1) #[.int .u8 r.rep, .int .u8 r.flt, .int .u32 r.epoch, .int .u32 r.seq, .slice lr.a r.know.length lr.i, .slice A2 T.length d2, .bool r.ses.on, .int .u32 r.ses.num, .int .u8 r.ses.src, .int .u8 r.ses.cur, .int .u32 r.ses.epoch, .slice lr.c r.ses.offer.length lr.k, .int .u32 r.ses.last]).heap.size = w3.heap.size := by simp [World.setRow]
    rw [← hz] at P3 P1
    have P2s := P2.sl HTO.out
    have P1s := P1
    have P1a := HAP.out.1.mono fun k (hk : P k) => (.inl hk : P k ∨ w.heap.size ≤ k)
    exact ⟨_, rfl, ⟨_, _, _, rfl, P1s, P2s, P3, with_ok HOK.out P1s.isok HTO.out⟩, ⟨_, _, _, rfl, P1a, P2.av.mono fun k hk => .inr (by omega), HAP.out.2.2.mono fun k hk => .inl hk⟩, below_setRow1 (B := w.heap.size) (r := w.heap.size + 1 + 1) HB.out (by omega) _⟩
  · have hR := HX.out
    rw [if_neg hw] at hR
    have hw2 := Lib.hid hw
    clear hw HX
    cases D with
    | error c =>
      subst hR
      unfold entRest
      rw [tail2 (f := Tryz.f69) rfl]
      have c5 := BR.out.cell 5 (.slice lr.b r.held.length lr.j) rfl
      have e0 := BE.out.cell 0 (.int .u8 x.id) rfl
      have e1 := BE.out.cell 1 (.int .u8 x.rep) rfl
      have e2 := BE.out.cell 2 (.int .u32 x.seq) rfl
      have e3 := BE.out.cell 3 (.int .u32 x.stamp) rfl
      have e4 := BE.out.cell 4 (.int .i64 x.kind) rfl
      have e5 := BE.out.cell 5 (.int .u8 x.cls) rfl
      have e6 := BE.out.cell 6 (.int .u32 x.val) rfl
      go_wp2_with fail
      refine (HT.out wf (Below.refl _ _)).mono ?_
      rintro e w1 ⟨v2, rfl, ⟨o2, s2⟩, hb⟩
      obtain ⟨A2, d2, rfl, _⟩ := s2
      have O2 := Lib.hid (o2.mono (Nat.le_refl wf.heap.size)); clear o2 c5 e0 e1 e2 e3 e4 e5 e6
      have BR := Lib.hid (BR.out.keep hb)
      have BE := Lib.hid (BE.out.keep hb)
      have BO := Lib.hid (BO.out.keep hb)
      have HV := Lib.hid (HV.out.later hb)
      have HS := Lib.hid hb.size
      have HB := Lib.hid (HB.out.trans (hb.mono HB.out.size)); clear hb
      have c5 := BR.out.cell 5 (.slice lr.b r.held.length lr.j) rfl
      have f5 := BR.out.free 5
      go_upto_region 4 with (go_at_call 107; refine (tsureE_ok _ _).mono ?_; rintro e w2 ⟨rfl, hw⟩; rw [hw]; clear hw)
      have hoff := (Off.refl w.heap.size w1).set 5 (.slice A2 T.length d2)
      have BR := Lib.hid (show Blk (w1.setCell ⟨w.heap.size, 5, none⟩ (.slice A2 T.length d2)) w.heap.size #[.int .u8 r.rep, .int .u8 r.flt, .int .u32 r.epoch, .int .u32 r.seq, .slice lr.a r.know.length lr.i, .slice A2 T.length d2, .bool r.ses.on, .int .u32 r.ses.num, .int .u8 r.ses.src, .int .u8 r.ses.cur, .int .u32 r.ses.epoch, .slice lr.c r.ses.offer.length lr.k, .int .u32 r.ses.last] 28 from BR.out.put 5 (.slice A2 T.length d2))
      have BE := Lib.hid (BE.out.off hoff (by omega))
      have BO := Lib.hid (BO.out.off hoff (by omega))
      have HV := Lib.hid (HV.out.off hoff (HPW.out.mono fun k hk => by omega))
      have O2 := Lib.hid (O2.out.setOther (h := w.heap.size) (j := 5) (u := .slice A2 T.length d2) (by have := HLT.out; omega))
      have HB := Lib.hid (below_off HB.out hoff (Nat.le_refl _))
      have hz := hoff.size
      rw [← hz] at HV HS
      clear hoff hz c5 f5
      generalize w1.setCell ⟨w.heap.size, 5, none⟩ (.slice A2 T.length d2) = w2 at BR BE BO HV O2 HB HS ⊢
      have c1 := BR.out.cell 1 (.int .u8 r.flt) rfl
      have e0 := BE.out.cell 0 (.int .u8 x.id) rfl
      have e1 := BE.out.cell 1 (.int .u8 x.rep) rfl
      have e2 := BE.out.cell 2 (.int .u32 x.seq) rfl
      have e3 := BE.out.cell 3 (.int .u32 x.stamp) rfl
      have e4 := BE.out.cell 4 (.int .i64 x.kind) rfl
      have e5 := BE.out.cell 5 (.int .u8 x.cls) rfl
      have e6 := BE.out.cell 6 (.int .u32 x.val) rfl
      obtain ⟨q1, hq1⟩ : ∃ q : Bool, (x.kind != 2) = q := ⟨_, rfl⟩
      have h1' : (x.kind == 2) = !q1 := by rw [← hq1]; simp [bne]
      have HQ1 := Lib.hid hq1
      cases q1
      · have hq2 : q2 = false := by
          cases q2
          · rfl
          · exact absurd ⟨by have := HQ1.out; simpa using this, rfl⟩ hw2.out
        subst hq2
        go_wp2_with fail
        refine (HI.out w2).mono ?_
        rintro e w3 ⟨rfl, hb⟩
        have BR := Lib.hid (BR.out.keep hb)
        have BE := Lib.hid (BE.out.keep hb)
        have BO := Lib.hid (BO.out.keep hb)
        have HV := Lib.hid (HV.out.later hb)
        have O2 := Lib.hid (O2.out.below hb)
        have HS := Lib.hid (Nat.le_trans HS.out hb.size)
        have HB := Lib.hid (HB.out.trans (hb.mono HB.out.size)); clear hb c1 e0 e1 e2 e3 e4 e5 e6
        have c4 := BR.out.cell 4 (.slice lr.a r.know.length lr.i) rfl
        have f4 := BR.out.free 4
        have x1 := BE.out.cell 1 (.int .u8 x.rep) rfl
        have x2 := BE.out.cell 2 (.int .u32 x.seq) rfl
        go_wp2_with fail
        refine (HA.out w3 HV.out.skn).mono ?_
        rintro e w5 ⟨rfl, hb⟩
        have HB := Lib.hid (HB.out.trans (hb.mono HB.out.size)); clear hb
        go_wp2_with fail
        refine (tsureR_bad _ _ _ _).mono ?_
        rintro e w6 ⟨rfl, hw⟩
        exact ⟨rfl, rfl, hw ▸ HB.out⟩
      · clear c1
        have c4 := BR.out.cell 4 (.slice lr.a r.know.length lr.i) rfl
        have f4 := BR.out.free 4
        have x1 := BE.out.cell 1 (.int .u8 x.rep) rfl
        have x2 := BE.out.cell 2 (.int .u32 x.seq) rfl
        go_wp2_with fail
        refine (HA.out w2 HV.out.skn).mono ?_
        rintro e w5 ⟨rfl, hb⟩
        have HB := Lib.hid (HB.out.trans (hb.mono HB.out.size)); clear hb
        go_wp2_with fail
        refine (tsureR_bad _ _ _ _).mono ?_
        rintro e w6 ⟨rfl, hw⟩
        exact ⟨rfl, rfl, hw ▸ HB.out⟩
    | ok k =>
      subst hR
      unfold entRest
      rw [tail2 (f := Tryz.f69) rfl]
      have c5 := BR.out.cell 5 (.slice lr.b r.held.length lr.j) rfl
      have e0 := BE.out.cell 0 (.int .u8 x.id) rfl
      have e1 := BE.out.cell 1 (.int .u8 x.rep) rfl
      have e2 := BE.out.cell 2 (.int .u32 x.seq) rfl
      have e3 := BE.out.cell 3 (.int .u32 x.stamp) rfl
      have e4 := BE.out.cell 4 (.int .i64 x.kind) rfl
      have e5 := BE.out.cell 5 (.int .u8 x.cls) rfl
      have e6 := BE.out.cell 6 (.int .u32 x.val) rfl
      go_wp2_with fail
      refine (HT.out wf (Below.refl _ _)).mono ?_
      rintro e w1 ⟨v2, rfl, ⟨o2, s2⟩, hb⟩
      obtain ⟨A2, d2, rfl, _⟩ := s2
      have O2 := Lib.hid (o2.mono (Nat.le_refl wf.heap.size)); clear o2 c5 e0 e1 e2 e3 e4 e5 e6
      have BR := Lib.hid (BR.out.keep hb)
      have BE := Lib.hid (BE.out.keep hb)
      have BO := Lib.hid (BO.out.keep hb)
      have HV := Lib.hid (HV.out.later hb)
      have HS := Lib.hid hb.size
      have HB := Lib.hid (HB.out.trans (hb.mono HB.out.size)); clear hb
      have c5 := BR.out.cell 5 (.slice lr.b r.held.length lr.j) rfl
      have f5 := BR.out.free 5
      go_upto_region 4 with (go_at_call 107; refine (tsureE_ok _ _).mono ?_; rintro e w2 ⟨rfl, hw⟩; rw [hw]; clear hw)
      have hoff := (Off.refl w.heap.size w1).set 5 (.slice A2 T.length d2)
      have BR := Lib.hid (show Blk (w1.setCell ⟨w.heap.size, 5, none⟩ (.slice A2 T.length d2)) w.heap.size #[.int .u8 r.rep, .int .u8 r.flt, .int .u32 r.epoch, .int .u32 r.seq, .slice lr.a r.know.length lr.i, .slice A2 T.length d2, .bool r.ses.on, .int .u32 r.ses.num, .int .u8 r.ses.src, .int .u8 r.ses.cur, .int .u32 r.ses.epoch, .slice lr.c r.ses.offer.length lr.k, .int .u32 r.ses.last] 28 from BR.out.put 5 (.slice A2 T.length d2))
      have BE := Lib.hid (BE.out.off hoff (by omega))
      have BO := Lib.hid (BO.out.off hoff (by omega))
      have HV := Lib.hid (HV.out.off hoff (HPW.out.mono fun k hk => by omega))
      have O2 := Lib.hid (O2.out.setOther (h := w.heap.size) (j := 5) (u := .slice A2 T.length d2) (by have := HLT.out; omega))
      have HB := Lib.hid (below_off HB.out hoff (Nat.le_refl _))
      have hz := hoff.size
      rw [← hz] at HV HS
      clear hoff hz c5 f5
      generalize w1.setCell ⟨w.heap.size, 5, none⟩ (.slice A2 T.length d2) = w2 at BR BE BO HV O2 HB HS ⊢
      have c1 := BR.out.cell 1 (.int .u8 r.flt) rfl
      have e0 := BE.out.cell 0 (.int .u8 x.id) rfl
      have e1 := BE.out.cell 1 (.int .u8 x.rep) rfl
      have e2 := BE.out.cell 2 (.int .u32 x.seq) rfl
      have e3 := BE.out.cell 3 (.int .u32 x.stamp) rfl
      have e4 := BE.out.cell 4 (.int .i64 x.kind) rfl
      have e5 := BE.out.cell 5 (.int .u8 x.cls) rfl
      have e6 := BE.out.cell 6 (.int .u32 x.val) rfl
      obtain ⟨q1, hq1⟩ : ∃ q : Bool, (x.kind != 2) = q := ⟨_, rfl⟩
      have h1' : (x.kind == 2) = !q1 := by rw [← hq1]; simp [bne]
      have HQ1 := Lib.hid hq1
      cases q1
      · have hq2 : q2 = false := by
          cases q2
          · rfl
          · exact absurd ⟨by have := HQ1.out; simpa using this, rfl⟩ hw2.out
        subst hq2
        go_wp2_with fail
        refine (HI.out w2).mono ?_
        rintro e w3 ⟨rfl, hb⟩
        have BR := Lib.hid (BR.out.keep hb)
        have BE := Lib.hid (BE.out.keep hb)
        have BO := Lib.hid (BO.out.keep hb)
        have HV := Lib.hid (HV.out.later hb)
        have O2 := Lib.hid (O2.out.below hb)
        have HS := Lib.hid (Nat.le_trans HS.out hb.size)
        have HB := Lib.hid (HB.out.trans (hb.mono HB.out.size)); clear hb c1 e0 e1 e2 e3 e4 e5 e6
        have c4 := BR.out.cell 4 (.slice lr.a r.know.length lr.i) rfl
        have f4 := BR.out.free 4
        have x1 := BE.out.cell 1 (.int .u8 x.rep) rfl
        have x2 := BE.out.cell 2 (.int .u32 x.seq) rfl
        go_wp2_with fail
        refine (HA.out w3 HV.out.skn).mono ?_
        rintro e w5 ⟨v1, rfl, ⟨o1, s1⟩, hb⟩
        have HKO := Lib.hid s1.isok
        obtain ⟨A1, d1, rfl, _⟩ := s1
        have hle : wf.heap.size ≤ w3.heap.size := HS.out
        have O1 := Lib.hid (o1.mono hle); clear o1
        have BR := Lib.hid (BR.out.keep hb)
        have BE := Lib.hid (BE.out.keep hb)
        have BO := Lib.hid (BO.out.keep hb)
        have HV := Lib.hid (HV.out.later hb)
        have O2 := Lib.hid (O2.out.below hb)
        have HB := Lib.hid (HB.out.trans (hb.mono HB.out.size)); clear hb c4 f4
        have c4 := BR.out.cell 4 (.slice lr.a r.know.length lr.i) rfl
        have f4 := BR.out.free 4
        go_upto_region 6 with (go_at_call 71; refine (tsureR_ok _ _).mono ?_; rintro e w6 ⟨rfl, hw⟩; rw [hw]; clear hw)
        have hoff := (Off.refl w.heap.size w5).set 4 (.slice A1 k.length d1)
        have BR := Lib.hid (show Blk (w5.setCell ⟨w.heap.size, 4, none⟩ (.slice A1 k.length d1)) w.heap.size #[.int .u8 r.rep, .int .u8 r.flt, .int .u32 r.epoch, .int .u32 r.seq, .slice A1 k.length d1, .slice A2 T.length d2, .bool r.ses.on, .int .u32 r.ses.num, .int .u8 r.ses.src, .int .u8 r.ses.cur, .int .u32 r.ses.epoch, .slice lr.c r.ses.offer.length lr.k, .int .u32 r.ses.last] 28 from BR.out.put 4 (.slice A1 k.length d1))
        have BO := Lib.hid (BO.out.off hoff (by omega))
        have HV := Lib.hid (HV.out.off hoff (HPW.out.mono fun k hk => by omega))
        have O2 := Lib.hid (O2.out.setOther (h := w.heap.size) (j := 4) (u := .slice A1 k.length d1) (by have := HLT.out; omega))
        have O1 := Lib.hid (O1.out.setOther (h := w.heap.size) (j := 4) (u := .slice A1 k.length d1) (by have := HLT.out; omega))
        have HB := Lib.hid (below_off HB.out hoff (Nat.le_refl _))
        have hz := hoff.size
        rw [← hz] at HV
        clear hoff hz c4 f4 x1 x2
        generalize w5.setCell ⟨w.heap.size, 4, none⟩ (.slice A1 k.length d1) = w7 at BR BO HV O2 O1 HB ⊢
        go_wp2_with (first
          | (refine wpList_load_row rfl _ _ rfl w.heap.size rfl 28 #[.int .u8 r.rep, .int .u8 r.flt, .int .u32 r.epoch, .int .u32 r.seq, .slice A1 k.length d1, .slice A2 T.length d2, .bool r.ses.on, .int .u32 r.ses.num, .int .u8 r.ses.src, .int .u8 r.ses.cur, .int .u32 r.ses.epoch, .slice lr.c r.ses.offer.length lr.k, .int .u32 r.ses.last] (0, 0) _ BR.out.at_ Tryz.underlying28 rfl rep_size1 ?_)
          | (refine wpList_store_row rfl _ _ _ rfl (w.heap.size + 1 + 1) #[.int .u8 r.rep, .int .u8 r.flt, .int .u32 r.epoch, .int .u32 r.seq, .slice A1 k.length d1, .slice A2 T.length d2, .bool r.ses.on, .int .u32 r.ses.num, .int .u8 r.ses.src, .int .u8 r.ses.cur, .int .u32 r.ses.epoch, .slice lr.c r.ses.offer.length lr.k, .int .u32 r.ses.last] rfl rfl 28 #[.int .u8 0, .int .u8 0, .int .u32 0, .int .u32 0, .slice none 0 0, .slice none 0 0, .bool false, .int .u32 0, .int .u8 0, .int .u8 0, .int .u32 0, .slice none 0 0, .int .u32 0] BO.out.at_ rep_size1 rfl (by simp [Value.oneCell']) ?_))
        refine bodyPost_ret (v := .agg #[.int .u8 r.rep, .int .u8 r.flt, .int .u32 r.epoch, .int .u32 r.seq, .slice A1 k.length d1, .slice A2 T.length d2, .bool r.ses.on, .int .u32 r.ses.num, .int .u8 r.ses.src, .int .u8 r.ses.cur, .int .u32 r.ses.epoch, .slice lr.c r.ses.offer.length lr.k, .int .u32 r.ses.last]) (results_cell_row Tryz.results69 _ _ (w.heap.size + 1 + 1) 28 #[.int .u8 r.rep, .int .u8 r.flt, .int .u32 r.epoch, .int .u32 r.seq, .slice A1 k.length d1, .slice A2 T.length d2, .bool r.ses.on, .int .u32 r.ses.num, .int .u8 r.ses.src, .int .u8 r.ses.cur, .int .u32 r.ses.epoch, .slice lr.c r.ses.offer.length lr.k, .int .u32 r.ses.last] (0, 0) _ rfl (BO.out.row #[.int .u8 r.rep, .int .u8 r.flt, .int .u32 r.epoch, .int .u32 r.seq, .slice A1 k.length d1, .slice A2 T.length d2, .bool r.ses.on, .int .u32 r.ses.num, .int .u8 r.ses.src, .int .u8 r.ses.cur, .int .u32 r.ses.epoch, .slice lr.c r.ses.offer.length lr.k, .int .u32 r.ses.last]).at_ Tryz.underlying28 rfl rep_size1) rfl ?_
        have hlt := HLT.out
        have P2 := O2.out.setRowOther (h := w.heap.size + 1 + 1) (cs := #[.int .u8 r.rep, .int .u8 r.flt, .int .u32 r.epoch, .int .u32 r.seq, .slice A1 k.length d1, .slice A2 T.length d2, .bool r.ses.on, .int .u32 r.ses.num, .int .u8 r.ses.src, .int .u8 r.ses.cur, .int .u32 r.ses.epoch, .slice lr.c r.ses.offer.length lr.k, .int .u32 r.ses.last]) (by omega)
        have P3 := HV.out.sof.rowOff (g := w.heap.size + 1 + 1) (HPP.out.2.2.mono fun k hk => by omega) #[.int .u8 r.rep, .int .u8 r.flt, .int .u32 r.epoch, .int .u32 r.seq, .slice A1 k.length d1, .slice A2 T.length d2, .bool r.ses.on, .int .u32 r.ses.num, .int .u8 r.ses.src, .int .u8 r.ses.cur, .int .u32 r.ses.epoch, .slice lr.c r.ses.offer.length lr.k, .int .u32 r.ses.last]
        have P1 := O1.out.setRowOther (h := w.heap.size + 1 + 1) (cs := #[.int .u8 r.rep, .int .u8 r.flt, .int .u32 r.epoch, .int .u32 r.seq, .slice A1 k.length d1, .slice A2 T.length d2, .bool r.ses.on, .int .u32 r.ses.num, .int .u8 r.ses.src, .int .u8 r.ses.cur, .int .u32 r.ses.epoch, .slice lr.c r.ses.offer.length lr.k, .int .u32 r.ses.last]) (by omega)
        have hz : (w7.setRow (w.heap.size + 1 + 1) #[.int .u8 r.rep, .int .u8 r.flt, .int .u32 r.epoch, .int .u32 r.seq, .slice A1 k.length d1, .slice A2 T.length d2, .bool r.ses.on, .int .u32 r.ses.num, .int .u8 r.ses.src, .int .u8 r.ses.cur, .int .u32 r.ses.epoch, .slice lr.c r.ses.offer.length lr.k, .int .u32 r.ses.last]).heap.size = w7.heap.size := by simp [World.setRow]
        rw [← hz] at P3
        have P2s := P2.sl HTO.out
        have P1s := P1.sl HKO.out
        have P1a : Av (fun k => P k ∨ w.heap.size ≤ k) (.slice A1 k.length d1) k := P1.av.mono fun k hk => .inr (by omega)
        exact ⟨_, rfl, ⟨_, _, _, rfl, P1s, P2s, P3, with_ok HOK.out P1s.isok HTO.out⟩, ⟨_, _, _, rfl, P1a, P2.av.mono fun k hk => .inr (by omega), HAP.out.2.2.mono fun k hk => .inl hk⟩, below_setRow1 (B := w.heap.size) (r := w.heap.size + 1 + 1) HB.out (by omega) _⟩
      · clear c1
        have c4 := BR.out.cell 4 (.slice lr.a r.know.length lr.i) rfl
        have f4 := BR.out.free 4
        have x1 := BE.out.cell 1 (.int .u8 x.rep) rfl
        have x2 := BE.out.cell 2 (.int .u32 x.seq) rfl
        go_wp2_with fail
        refine (HA.out w2 HV.out.skn).mono ?_
        rintro e w5 ⟨v1, rfl, ⟨o1, s1⟩, hb⟩
        have HKO := Lib.hid s1.isok
        obtain ⟨A1, d1, rfl, _⟩ := s1
        have hle : wf.heap.size ≤ w2.heap.size := HS.out
        have O1 := Lib.hid (o1.mono hle); clear o1
        have BR := Lib.hid (BR.out.keep hb)
        have BE := Lib.hid (BE.out.keep hb)
        have BO := Lib.hid (BO.out.keep hb)
        have HV := Lib.hid (HV.out.later hb)
        have O2 := Lib.hid (O2.out.below hb)
        have HB := Lib.hid (HB.out.trans (hb.mono HB.out.size)); clear hb c4 f4
        have c4 := BR.out.cell 4 (.slice lr.a r.know.length lr.i) rfl
        have f4 := BR.out.free 4
        go_upto_region 6 with (go_at_call 71; refine (tsureR_ok _ _).mono ?_; rintro e w6 ⟨rfl, hw⟩; rw [hw]; clear hw)
        have hoff := (Off.refl w.heap.size w5).set 4 (.slice A1 k.length d1)
        have BR := Lib.hid (show Blk (w5.setCell ⟨w.heap.size, 4, none⟩ (.slice A1 k.length d1)) w.heap.size #[.int .u8 r.rep, .int .u8 r.flt, .int .u32 r.epoch, .int .u32 r.seq, .slice A1 k.length d1, .slice A2 T.length d2, .bool r.ses.on, .int .u32 r.ses.num, .int .u8 r.ses.src, .int .u8 r.ses.cur, .int .u32 r.ses.epoch, .slice lr.c r.ses.offer.length lr.k, .int .u32 r.ses.last] 28 from BR.out.put 4 (.slice A1 k.length d1))
        have BO := Lib.hid (BO.out.off hoff (by omega))
        have HV := Lib.hid (HV.out.off hoff (HPW.out.mono fun k hk => by omega))
        have O2 := Lib.hid (O2.out.setOther (h := w.heap.size) (j := 4) (u := .slice A1 k.length d1) (by have := HLT.out; omega))
        have O1 := Lib.hid (O1.out.setOther (h := w.heap.size) (j := 4) (u := .slice A1 k.length d1) (by have := HLT.out; omega))
        have HB := Lib.hid (below_off HB.out hoff (Nat.le_refl _))
        have hz := hoff.size
        rw [← hz] at HV
        clear hoff hz c4 f4 x1 x2
        generalize w5.setCell ⟨w.heap.size, 4, none⟩ (.slice A1 k.length d1) = w7 at BR BO HV O2 O1 HB ⊢
        go_wp2_with (first
          | (refine wpList_load_row rfl _ _ rfl w.heap.size rfl 28 #[.int .u8 r.rep, .int .u8 r.flt, .int .u32 r.epoch, .int .u32 r.seq, .slice A1 k.length d1, .slice A2 T.length d2, .bool r.ses.on, .int .u32 r.ses.num, .int .u8 r.ses.src, .int .u8 r.ses.cur, .int .u32 r.ses.epoch, .slice lr.c r.ses.offer.length lr.k, .int .u32 r.ses.last] (0, 0) _ BR.out.at_ Tryz.underlying28 rfl rep_size1 ?_)
          | (refine wpList_store_row rfl _ _ _ rfl (w.heap.size + 1 + 1) #[.int .u8 r.rep, .int .u8 r.flt, .int .u32 r.epoch, .int .u32 r.seq, .slice A1 k.length d1, .slice A2 T.length d2, .bool r.ses.on, .int .u32 r.ses.num, .int .u8 r.ses.src, .int .u8 r.ses.cur, .int .u32 r.ses.epoch, .slice lr.c r.ses.offer.length lr.k, .int .u32 r.ses.last] rfl rfl 28 #[.int .u8 0, .int .u8 0, .int .u32 0, .int .u32 0, .slice none 0 0, .slice none 0 0, .bool false, .int .u32 0, .int .u8 0, .int .u8 0, .int .u32 0, .slice none 0 0, .int .u32 0] BO.out.at_ rep_size1 rfl (by simp [Value.oneCell']) ?_))
        refine bodyPost_ret (v := .agg #[.int .u8 r.rep, .int .u8 r.flt, .int .u32 r.epoch, .int .u32 r.seq, .slice A1 k.length d1, .slice A2 T.length d2, .bool r.ses.on, .int .u32 r.ses.num, .int .u8 r.ses.src, .int .u8 r.ses.cur, .int .u32 r.ses.epoch, .slice lr.c r.ses.offer.length lr.k, .int .u32 r.ses.last]) (results_cell_row Tryz.results69 _ _ (w.heap.size + 1 + 1) 28 #[.int .u8 r.rep, .int .u8 r.flt, .int .u32 r.epoch, .int .u32 r.seq, .slice A1 k.length d1, .slice A2 T.length d2, .bool r.ses.on, .int .u32 r.ses.num, .int .u8 r.ses.src, .int .u8 r.ses.cur, .int .u32 r.ses.epoch, .slice lr.c r.ses.offer.length lr.k, .int .u32 r.ses.last] (0, 0) _ rfl (BO.out.row #[.int .u8 r.rep, .int .u8 r.flt, .int .u32 r.epoch, .int .u32 r.seq, .slice A1 k.length d1, .slice A2 T.length d2, .bool r.ses.on, .int .u32 r.ses.num, .int .u8 r.ses.src, .int .u8 r.ses.cur, .int .u32 r.ses.epoch, .slice lr.c r.ses.offer.length lr.k, .int .u32 r.ses.last]).at_ Tryz.underlying28 rfl rep_size1) rfl ?_
        have hlt := HLT.out
        have P2 := O2.out.setRowOther (h := w.heap.size + 1 + 1) (cs := #[.int .u8 r.rep, .int .u8 r.flt, .int .u32 r.epoch, .int .u32 r.seq, .slice A1 k.length d1, .slice A2 T.length d2, .bool r.ses.on, .int .u32 r.ses.num, .int .u8 r.ses.src, .int .u8 r.ses.cur, .int .u32 r.ses.epoch, .slice lr.c r.ses.offer.length lr.k, .int .u32 r.ses.last]) (by omega)
        have P3 := HV.out.sof.rowOff (g := w.heap.size + 1 + 1) (HPP.out.2.2.mono fun k hk => by omega) #[.int .u8 r.rep, .int .u8 r.flt, .int .u32 r.epoch, .int .u32 r.seq, .slice A1 k.length d1, .slice A2 T.length d2, .bool r.ses.on, .int .u32 r.ses.num, .int .u8 r.ses.src, .int .u8 r.ses.cur, .int .u32 r.ses.epoch, .slice lr.c r.ses.offer.length lr.k, .int .u32 r.ses.last]
        have P1 := O1.out.setRowOther (h := w.heap.size + 1 + 1) (cs := #[.int .u8 r.rep, .int .u8 r.flt, .int .u32 r.epoch, .int .u32 r.seq, .slice A1 k.length d1, .slice A2 T.length d2, .bool r.ses.on, .int .u32 r.ses.num, .int .u8 r.ses.src, .int .u8 r.ses.cur, .int .u32 r.ses.epoch, .slice lr.c r.ses.offer.length lr.k, .int .u32 r.ses.last]) (by omega)
        have hz : (w7.setRow (w.heap.size + 1 + 1) #[.int .u8 r.rep, .int .u8 r.flt, .int .u32 r.epoch, .int .u32 r.seq, .slice A1 k.length d1, .slice A2 T.length d2, .bool r.ses.on, .int .u32 r.ses.num, .int .u8 r.ses.src, .int .u8 r.ses.cur, .int .u32 r.ses.epoch, .slice lr.c r.ses.offer.length lr.k, .int .u32 r.ses.last]).heap.size = w7.heap.size := by simp [World.setRow]
        rw [← hz] at P3
        have P2s := P2.sl HTO.out
        have P1s := P1.sl HKO.out
        have P1a : Av (fun k => P k ∨ w.heap.size ≤ k) (.slice A1 k.length d1) k := P1.av.mono fun k hk => .inr (by omega)
        exact ⟨_, rfl, ⟨_, _, _, rfl, P1s, P2s, P3, with_ok HOK.out P1s.isok HTO.out⟩, ⟨_, _, _, rfl, P1a, P2.av.mono fun k hk => .inr (by omega), HAP.out.2.2.mono fun k hk => .inl hk⟩, below_setRow1 (B := w.heap.size) (r := w.heap.size + 1 + 1) HB.out (by omega) _⟩

set_option maxHeartbeats 8000000 in
set_option maxRecDepth 100000 in
theorem tbehindEntry_any (P : Nat → Prop) (r : Rp) (lr : Ls) (e : En) (w : World) (hv : RpV w w.heap.size (.agg (repR r lr)) r) (ha : RpAv P (.agg (repR r lr)) r) (hx : e.ok) (hxr : reB e = true) (hh : erightB r.held = true) (hl : r.held.length ≤ 8000) :
    Calls Tryz.prog 69 #[.agg (repR r lr), e.agg] w (RepMore P w (entR r e)) := by
  rw [ent_fit]
  have HP := Lib.hid hv.av
  have HI := Lib.hid (fun w1 => iIn_any e r.flt w1 hx hv.isok.2.1)
  have HFD := Lib.hid (fun w1 => iFade_any e w1)
  have HF := Lib.hid (show fitE r.flt e = if inB e r.flt = true then e else fadeE e from rfl)
  have HV := Lib.hid hv
  have HA := Lib.hid ha
  have HX := Lib.hid (And.intro hx hxr)
  have HFX := Lib.hid (And.intro (fade_ok hx) (fade_re hxr))
  have HH := Lib.hid (And.intro hh hl)
  clear hv ha hx hxr hh hl
  generalize fitE r.flt e = x at HF ⊢
  generalize inB e r.flt = q at HI HF
  unfold En.agg at HI HFD ⊢
  unfold repR repRow Rp.cells
  refine calls_of_wp Tryz.func69 (be_cut rfl) ?_
  simp only [Tryz.ntmps69, List.size_toArray, List.length_cons, List.length_nil, Nat.reduceAdd, Nat.reduceSub, Array.replicate_succ, Array.replicate_zero, List.push_toArray, List.append_toArray, List.nil_append, List.cons_append]
  go_wp2_with fail
  have HB := Lib.hid (al3 w (.cells #[.int .u8 r.rep, .int .u8 r.flt, .int .u32 r.epoch, .int .u32 r.seq, .slice lr.a r.know.length lr.i, .slice lr.b r.held.length lr.j, .bool r.ses.on, .int .u32 r.ses.num, .int .u8 r.ses.src, .int .u8 r.ses.cur, .int .u32 r.ses.epoch, .slice lr.c r.ses.offer.length lr.k, .int .u32 r.ses.last] 28) (.cells #[.int .u8 e.id, .int .u8 e.rep, .int .u32 e.seq, .int .u32 e.stamp, .int .i64 e.kind, .int .u8 e.cls, .int .u32 e.val] 62) (.cells #[.int .u8 0, .int .u8 0, .int .u32 0, .int .u32 0, .slice none 0 0, .slice none 0 0, .bool false, .int .u32 0, .int .u8 0, .int .u8 0, .int .u32 0, .slice none 0 0, .int .u32 0] 28))
  have B3 := Lib.hid (blk_three w #[.int .u8 r.rep, .int .u8 r.flt, .int .u32 r.epoch, .int .u32 r.seq, .slice lr.a r.know.length lr.i, .slice lr.b r.held.length lr.j, .bool r.ses.on, .int .u32 r.ses.num, .int .u8 r.ses.src, .int .u8 r.ses.cur, .int .u32 r.ses.epoch, .slice lr.c r.ses.offer.length lr.k, .int .u32 r.ses.last] 28 #[.int .u8 e.id, .int .u8 e.rep, .int .u32 e.seq, .int .u32 e.stamp, .int .i64 e.kind, .int .u8 e.cls, .int .u32 e.val] 62 #[.int .u8 0, .int .u8 0, .int .u32 0, .int .u32 0, .slice none 0 0, .slice none 0 0, .bool false, .int .u32 0, .int .u8 0, .int .u8 0, .int .u32 0, .slice none 0 0, .int .u32 0] 28)
  generalize ((w.alloc (.cells #[.int .u8 r.rep, .int .u8 r.flt, .int .u32 r.epoch, .int .u32 r.seq, .slice lr.a r.know.length lr.i, .slice lr.b r.held.length lr.j, .bool r.ses.on, .int .u32 r.ses.num, .int .u8 r.ses.src, .int .u8 r.ses.cur, .int .u32 r.ses.epoch, .slice lr.c r.ses.offer.length lr.k, .int .u32 r.ses.last] 28)).alloc (.cells #[.int .u8 e.id, .int .u8 e.rep, .int .u32 e.seq, .int .u32 e.stamp, .int .i64 e.kind, .int .u8 e.cls, .int .u32 e.val] 62)).alloc (.cells #[.int .u8 0, .int .u8 0, .int .u32 0, .int .u32 0, .slice none 0 0, .slice none 0 0, .bool false, .int .u32 0, .int .u8 0, .int .u8 0, .int .u32 0, .slice none 0 0, .int .u32 0] 28) = W0 at HB B3 ⊢
  refine (HI.out W0).mono ?_
  rintro e' w1 ⟨rfl, hb⟩
  have BR := Lib.hid (B3.out.1.keep hb)
  have BE := Lib.hid (B3.out.2.1.keep hb)
  have BO := Lib.hid (B3.out.2.2.keep hb)
  have HB := Lib.hid (HB.out.trans (hb.mono HB.out.size)); clear hb B3
  cases q
  · have hF := HF.out
    rw [if_neg (by simp)] at hF
    subst hF
    have e0 := BE.out.cell 0 (.int .u8 e.id) rfl
    have e1 := BE.out.cell 1 (.int .u8 e.rep) rfl
    have e2 := BE.out.cell 2 (.int .u32 e.seq) rfl
    have e3 := BE.out.cell 3 (.int .u32 e.stamp) rfl
    have e4 := BE.out.cell 4 (.int .i64 e.kind) rfl
    have e5 := BE.out.cell 5 (.int .u8 e.cls) rfl
    have e6 := BE.out.cell 6 (.int .u32 e.val) rfl
    go_wp2_with fail
    refine (HFD.out w1).mono ?_
    rintro e' w2 ⟨rfl, hb⟩
    have BR := Lib.hid (BR.out.keep hb)
    have BE := Lib.hid (BE.out.keep hb)
    have BO := Lib.hid (BO.out.keep hb)
    have HB := Lib.hid (HB.out.trans (hb.mono HB.out.size)); clear hb e0 e1 e2 e3 e4 e5 e6
    go_wp2_with (refine wpList_store_row rfl _ _ _ rfl (w.heap.size + 1) #[.int .u8 (fadeE e).id, .int .u8 (fadeE e).rep, .int .u32 (fadeE e).seq, .int .u32 (fadeE e).stamp, .int .i64 (fadeE e).kind, .int .u8 (fadeE e).cls, .int .u32 (fadeE e).val] rfl rfl 62 #[.int .u8 e.id, .int .u8 e.rep, .int .u32 e.seq, .int .u32 e.stamp, .int .i64 e.kind, .int .u8 e.cls, .int .u32 e.val] BE.out.at_ be_size rfl (by simp [Value.oneCell']) ?_)
    have hv := (HV.out.later HB.out).rowOff (g := w.heap.size + 1) (HP.out.mono fun k hk => by omega) #[.int .u8 (fadeE e).id, .int .u8 (fadeE e).rep, .int .u32 (fadeE e).seq, .int .u32 (fadeE e).stamp, .int .i64 (fadeE e).kind, .int .u8 (fadeE e).cls, .int .u32 (fadeE e).val]
    have hz : (w2.setRow (w.heap.size + 1) #[.int .u8 (fadeE e).id, .int .u8 (fadeE e).rep, .int .u32 (fadeE e).seq, .int .u32 (fadeE e).stamp, .int .i64 (fadeE e).kind, .int .u8 (fadeE e).cls, .int .u32 (fadeE e).val]).heap.size = w2.heap.size := by simp [World.setRow]
    rw [← hz] at hv
    exact be_rest P (BR.out.other (k := w.heap.size + 1) (by omega) #[.int .u8 (fadeE e).id, .int .u8 (fadeE e).rep, .int .u32 (fadeE e).seq, .int .u32 (fadeE e).stamp, .int .i64 (fadeE e).kind, .int .u8 (fadeE e).cls, .int .u32 (fadeE e).val]) (BE.out.row #[.int .u8 (fadeE e).id, .int .u8 (fadeE e).rep, .int .u32 (fadeE e).seq, .int .u32 (fadeE e).stamp, .int .i64 (fadeE e).kind, .int .u8 (fadeE e).cls, .int .u32 (fadeE e).val]) (BO.out.other (k := w.heap.size + 1) (by omega) #[.int .u8 (fadeE e).id, .int .u8 (fadeE e).rep, .int .u32 (fadeE e).seq, .int .u32 (fadeE e).stamp, .int .i64 (fadeE e).kind, .int .u8 (fadeE e).cls, .int .u32 (fadeE e).val]) hv HA.out HP.out (below_setRow1 (B := w.heap.size) (r := w.heap.size + 1) HB.out (by omega) #[.int .u8 (fadeE e).id, .int .u8 (fadeE e).rep, .int .u32 (fadeE e).seq, .int .u32 (fadeE e).stamp, .int .i64 (fadeE e).kind, .int .u8 (fadeE e).cls, .int .u32 (fadeE e).val]) HFX.out.1 HFX.out.2 HH.out.1 HH.out.2
  · have hF := HF.out
    rw [if_pos rfl] at hF
    subst hF
    go_wp2_with fail
    exact be_rest P BR.out BE.out BO.out (HV.out.later HB.out) HA.out HP.out HB.out HX.out.1 HX.out.2 HH.out.1 HH.out.2
end Go.Proofs.YtfjaeohfigcciabGreatDoor

