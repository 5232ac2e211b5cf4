/- Texts in one: TFMath, TFRel. -/
import Derived.Test.YtfjaeohfigcciabGreatDoorQF28
import Derived.Test.YtfjaeohfigcciabGreatDoorQF11
import Derived.Test.YtfjaeohfigcciabGreatDoorQF39
import Derived.Test.YtfjaeohfigcciabGreatDoorQF36
import Derived.Test.YtfjaeohfigcciabGreatDoorQF19
set_option linter.unusedVariables false
set_option linter.unusedSimpArgs false
set_option linter.unusedSectionVars false
set_option linter.unnecessarySimpa false
namespace Go.Proofs.YtfjaeohfigcciabGreatDoor

theorem add_err {k : List Rn} {p n c : Int} (h : addR k p n = .error c) : c = 5 ∨ c = 9 := by
  unfold addR unionR lim at h
  split at h
  · split at h
    · cases h
    · injection h with h; exact .inl h.symm
  · injection h with h; exact .inr h.symm
theorem union_err {k l : List Rn} {c : Int} (h : unionR k l = .error c) : c = 5 ∨ c = 9 := by
  unfold unionR lim at h
  split at h
  · split at h
    · cases h
    · injection h with h; exact .inl h.symm
  · injection h with h; exact .inr h.symm
theorem takes_err {f : Int} : ∀ (l : List En) (k : List Rn) (h : List En) (c : Int), takesR f l k h = .error c → c = 5 ∨ c = 9
  | [], k, h, c, he => by simp [takesR] at he
  | e :: l, k, h, c, he => by
    simp only [takesR] at he
    split at he
    · exact takes_err l _ _ c he
    · cases ha : addR k e.rep e.seq with
      | error d => rw [ha] at he; injection he with he; rw [← he]; exact add_err ha
      | ok k' => rw [ha] at he; exact takes_err l _ _ c he
theorem drop_err {k : List Rn} {p n c : Int} (hk : rightB k = true) (hp : p ≤ 7) (hn : 1 ≤ n) (h : dropR k p n = .error c) : c = 5 := by
  unfold dropR lim at h
  rw [if_pos ⟨hk, (rr_iff _).2 ⟨by show p < 8; omega, hn, Int.le_refl _⟩⟩] at h
  split at h
  · cases h
  · injection h with h; exact h.symm
theorem offer_err {f : Int} : ∀ (es : List En) (k : List Rn) (c : Int), rightB k = true → (∀ x ∈ es, reB x = true) → offerR f es k = .error c → c = 5
  | [], k, c, hk, hr, h => by cases h
  | e :: es, k, c, hk, hr, h => by
    unfold offerR at h
    have he : e.rep < 8 ∧ 1 ≤ e.seq := by
      have h0 := hr e (by simp)
      unfold reB rvB at h0
      simp only [Bool.and_eq_true, decide_eq_true_eq] at h0
      exact ⟨h0.1.1, h0.1.2.1⟩
    split at h
    · cases hd : dropR k e.rep e.seq with
      | ok k' => rw [hd] at h; exact offer_err es k' c (drop_right hd) (fun x hx => hr x (by simp [hx])) h
      | error d =>
        rw [hd] at h
        injection h with h
        rw [← h]
        exact drop_err hk (by omega) (by omega) hd
    · exact offer_err es k c hk (fun x hx => hr x (by simp [hx])) h
/-- of those that a right replica holds no two are of one Rep and one Seq -/
theorem held_apart {s : Rp} (h : rpB s = true) {x y : En} (hx : x ∈ s.held) (hy : y ∈ s.held) (hlt : x.id < y.id) : ¬ (x.rep = y.rep ∧ x.seq = y.seq) := by
  rintro ⟨h1, h2⟩
  have hri := rise_of_right (rp_parts h).2.2.1
  obtain ⟨i, hi, rfl⟩ := List.mem_iff_getElem.1 hx
  obtain ⟨j, hj, rfl⟩ := List.mem_iff_getElem.1 hy
  have hij : i < j := by
    rcases Nat.lt_trichotomy i j with h | h | h
    · exact h
    · subst h; omega
    · have := List.pairwise_iff_getElem.1 hri j i hj hi h; omega
  have hall := (rp_all h).2.2.2
  simp only [List.all_eq_true, List.mem_range] at hall
  have hat := hall j hj
  unfold heldAt at hat
  simp only [Bool.and_eq_true, List.all_eq_true, List.mem_range] at hat
  have := hat.2.1 i hij
  rw [getElem!_pos s.held i hi, getElem!_pos s.held j hj] at this
  simp [h1, h2] at this
theorem ver_find : ∀ {zs : List En} {id : Int} {v : Vr}, verAt zs id = some v → (findE zs id).2 = true ∧ (findE zs id).1.ver = v
  | [], _, _, h => by simp [verAt] at h
  | x :: r, id, v, h => by
    unfold verAt at h
    unfold findE
    split
    · rename_i hx; rw [if_pos hx] at h; exact ⟨rfl, Option.some.inj h⟩
    · rename_i hx; rw [if_neg hx] at h; exact ver_find h

/-- right entries are not many -/
theorem rise_len : ∀ (zs : List En) (lo : Int), Rise zs → (∀ x ∈ zs, lo ≤ x.id ∧ x.id ≤ 63) → lo ≤ 64 → (zs.length : Int) ≤ 64 - lo
  | [], lo, _, _, h => by simp; omega
  | x :: zs, lo, hr, hx, h => by
    have h1 := hx x (by simp)
    have hr' := List.pairwise_cons.1 hr
    have := rise_len zs (x.id + 1) hr'.2 (fun y hy => ⟨by have := hr'.1 y hy; omega, (hx y (by simp [hy])).2⟩) (by omega)
    simp only [List.length_cons]
    omega
theorem held_len {zs : List En} (h : erightB zs = true) (hok : ∀ x ∈ zs, x.ok) : zs.length ≤ 64 := by
  have := rise_len zs 0 (rise_of_right h) (fun x hx => by
    have h1 := re_of_right h x hx
    have h2 := hok x hx
    simp only [reB, Bool.and_eq_true, decide_eq_true_eq] at h1
    exact ⟨h2.1.1, by omega⟩) (by decide)
  omega

/-- what is due at first -/
def dueAll (r s : Rp) : List En := dueL s.held r.know 0
/-- where the fetch stands: the replica, and what was told -/
structure Going (r s : Rp) (now : Rp) (told : List En) : Prop where
  rep : now.rep = r.rep
  flt : now.flt = r.flt
  on : now.ses.on = true
  src : now.ses.src = s.rep
  num : 1 ≤ now.ses.num
  cur : now.ses.cur ≤ 63
  cur0 : 0 ≤ now.ses.cur
  know : rightB now.know = true
  rise : Rise now.held
  epoch : 0 < now.ses.cur → now.ses.epoch = s.epoch
  len : told.length ≤ (dueAll r s).length
  same : told = ((dueAll r s).take told.length).map (fitE r.flt)
  rest : (dueAll r s).drop told.length = dueL s.held now.know now.ses.cur
  has : ∀ x ∈ told, ∃ v, verAt now.held x.id = some v ∧ ltV v x.ver = false
  hlen : now.held.length ≤ r.held.length + told.length
  olen : now.ses.offer.length ≤ 64

theorem going_start {r s : Rp} (hr : rpB r = true) (hs : rpB s = true) (hok : r.ok) : Going r s (beginP r s.rep) [] := by
  have hp := rp_parts hr
  have h0 := hok.2.2.2.2.2.2.2.2.2.2.2.1
  refine ⟨rfl, rfl, rfl, rfl, ?_, by show (0 : Int) ≤ 63; decide, Int.le_refl _, hp.2.1, rise_of_right hp.2.2.1, fun h => absurd h (by show ¬ (0 : Int) < 0; decide), Nat.zero_le _, rfl, rfl, (fun x hx => by cases hx), Nat.le_refl _, Nat.zero_le _⟩
  show 1 ≤ r.ses.last + 1
  omega
/-- its Pull is a right note, for that source -/
theorem going_pull {r s now : Rp} {told : List En} (hr : rpB r = true) (hs : rpB s = true) (hne : r.rep ≠ s.rep) (g : Going r s now told) : noteB (pullP now) = true ∧ (pullP now).kind = 1 ∧ (pullP now).dst = s.rep := by
  refine ⟨?_, rfl, g.src⟩
  have hh : headB (pullP now) = true := decide_eq_true ⟨by show now.rep ≤ 7; rw [g.rep]; exact (rp_parts hr).1, by show now.ses.src ≤ 7; rw [g.src]; exact (rp_parts hs).1, by show now.rep ≠ now.ses.src; rw [g.rep, g.src]; exact hne, g.num, g.cur⟩
  unfold noteB
  rw [hh, if_pos (show (pullP now).kind = 1 from rfl)]
  show (true && (rightB now.know && _)) = true
  rw [g.know]
  rfl
theorem going_due {r s now : Rp} {told : List En} (hr : rpB r = true) (hs : rpB s = true) (hne : r.rep ≠ s.rep) (g : Going r s now told) : dueR s (pullP now) = .ok (dueL s.held now.know now.ses.cur) := by
  obtain ⟨h1, h2, h3⟩ := going_pull hr hs hne g
  exact due_is hs h1 h2 h3
/-- what is answered -/
theorem going_answer {r s now : Rp} {told : List En} (hr : rpB r = true) (hs : rpB s = true) (hne : r.rep ≠ s.rep) (g : Going r s now told) :
    answerR s (pullP now) = .error 5 ∨ ∃ o, rightB o = true ∧ ((pullP now).cur = 0 ∨ o = []) ∧ answerR s (pullP now) = .ok (answerN s (pullP now) (dueL s.held now.know now.ses.cur) o) := by
  unfold answerR
  rw [going_due hr hs hne g]
  simp only
  have hp := rp_parts hs
  by_cases hc : (pullP now).cur = 0
  · rw [if_pos hc]
    cases ho : offerR (pullP now).flt s.held s.know with
    | ok o => exact .inr ⟨o, offer_right _ _ _ hp.2.1 ho, .inl hc, rfl⟩
    | error c => left; rw [offer_err s.held s.know c hp.2.1 (re_of_right hp.2.2.1) ho]
  · rw [if_neg hc]
    exact .inr ⟨[], rfl, .inr rfl, rfl⟩
/-- those that are due are behind each other -/
theorem next_cur {held : List En} {know : List Rn} {cur : Int} (hr : Rise held) (h : 4 < (dueL held know cur).length) : ∀ x ∈ (dueL held know cur).take 4, x.id < nextOf ((dueL held know cur).take 4) cur := by
  obtain ⟨e, he, hn⟩ := next_four (cur := cur) h
  rw [hn]
  have hri := due_rise know cur hr
  intro x hx
  obtain ⟨i, hi, rfl⟩ := List.mem_iff_getElem.1 hx
  rw [List.getElem_take]
  have hi4 : i < 4 := by rw [List.length_take] at hi; omega
  obtain ⟨h3, rfl⟩ := List.getElem?_eq_some_iff.1 he
  rcases Nat.lt_or_ge i 3 with h | h
  · have := List.pairwise_iff_getElem.1 hri i 3 (by omega) h3 h; omega
  · obtain rfl : i = 3 := by omega
    omega
/-- what a round does: Accept of what was answered -/
theorem going_accept {r s now : Rp} {told : List En} {o : List Rn} (hr : rpB r = true) (hs : rpB s = true) (hne : r.rep ≠ s.rep) (g : Going r s now told) (ho : rightB o = true) (hc : (pullP now).cur = 0 ∨ o = []) {b : Nt}
    (hb : b = answerN s (pullP now) (dueL s.held now.know now.ses.cur) o) :
    noteB b = true ∧ told.length + b.ents.length ≤ (dueAll r s).length ∧
    ((∃ c, acceptR now b = noAcc c ∧ (c = 5 ∨ c = 9)) ∨
     (∃ x, acceptR now b = ⟨x, zeroN, false, 0⟩ ∧ (x.flt = now.flt ∧ x.epoch = now.epoch ∧ x.seq = now.seq) ∧ x.ses.on = false ∧ (told ++ b.ents).length = (dueAll r s).length ∧ (told ++ b.ents) = (dueAll r s).map (fitE r.flt) ∧ (∀ y ∈ told ++ b.ents, ∃ v, verAt x.held y.id = some v ∧ ltV v y.ver = false) ∧ x.held.length ≤ r.held.length + (dueAll r s).length) ∨
     (∃ x, acceptR now b = ⟨x, pullP x, true, 0⟩ ∧ (x.flt = now.flt ∧ x.epoch = now.epoch ∧ x.seq = now.seq) ∧ Going r s x (told ++ b.ents) ∧ told.length < (told ++ b.ents).length)) := by
  obtain ⟨p1, p2, p3⟩ := going_pull hr hs hne g
  have hn : noteB b = true := by rw [hb]; exact answer_right hs p1 p2 p3 ho hc
  have hents : b.ents = ((dueL s.held now.know now.ses.cur).take 4).map (fitE r.flt) := by rw [hb]; show _ = _; rw [← g.flt]; rfl
  have hrest := g.rest
  have hlen : told.length + (dueL s.held now.know now.ses.cur).length = (dueAll r s).length := by
    rw [← hrest, List.length_drop]
    have := g.len
    omega
  have hel : b.ents.length ≤ (dueL s.held now.know now.ses.cur).length := by rw [hents]; simp; omega
  refine ⟨hn, by omega, ?_⟩
  unfold acceptR
  by_cases hnr : rpB now = false
  · rw [if_pos hnr]; exact .inl ⟨9, rfl, .inr rfl⟩
  rw [if_neg hnr, if_neg (by simp [hn])]
  have hw : waitB now b = true := by
    rw [hb]
    unfold waitB answerN
    simp [g.on, pullP, g.src]
  rw [if_neg (by simp [hw])]
  by_cases hcl : clashB now b = true
  · rw [if_pos hcl]; exact .inl ⟨9, rfl, .inr rfl⟩
  rw [if_neg hcl]
  have hbc : b.cur = now.ses.cur := by rw [hb]; rfl
  have hbe : b.epoch = s.epoch := by rw [hb]; rfl
  rw [if_neg (by
    rintro ⟨h1, h2⟩
    rw [hbc] at h1
    exact h2 (by rw [hbe, g.epoch h1]))]
  unfold takeP
  cases ht : takesR now.flt b.ents now.know now.held with
  | error c => exact .inl ⟨c, rfl, takes_err _ _ _ _ ht⟩
  | ok x =>
    obtain ⟨k2, h2⟩ := x
    have T := tookB _ _ _ _ _ _ g.rise ht
    have hhas : ∀ y ∈ told ++ b.ents, ∃ v, verAt h2 y.id = some v ∧ ltV v y.ver = false := fun y hy => by
      rcases List.mem_append.1 hy with h | h
      · exact T.up _ _ (g.has y h)
      · exact T.has y h
    have hdone : b.done = decide ((dueL s.held now.know now.ses.cur).length ≤ 4) := by rw [hb]; rfl
    unfold endR
    dsimp only
    by_cases hd : (dueL s.held now.know now.ses.cur).length ≤ 4
    · rw [if_pos (by rw [hdone]; exact decide_eq_true hd)]
      have hall : told ++ b.ents = (dueAll r s).map (fitE r.flt) := by
        rw [hents, List.take_of_length_le hd, ← hrest]
        conv => lhs; lhs; rw [g.same]
        rw [← List.map_append, List.take_append_drop]
      have hl2 : (told ++ b.ents).length = (dueAll r s).length := by rw [hall, List.length_map]
      cases hu : unionR (afterP now b k2 h2).know (afterP now b k2 h2).ses.offer with
      | error c => exact .inl ⟨c, rfl, union_err hu⟩
      | ok k3 => exact .inr (.inl ⟨_, rfl, ⟨rfl, rfl, rfl⟩, rfl, hl2, hall, hhas, by
        have t1 := T.len
        have t2 := g.hlen
        show h2.length ≤ _
        omega⟩)
    · rw [if_neg (by rw [hdone]; simpa using hd)]
      right; right
      refine ⟨_, rfl, ⟨rfl, rfl, rfl⟩, ?_, ?_⟩
      · have hd4 : 4 < (dueL s.held now.know now.ses.cur).length := by omega
        have hnext : b.next = nextOf ((dueL s.held now.know now.ses.cur).take 4) now.ses.cur := by rw [hb]; rfl
        have hsr := rise_of_right (rp_parts hs).2.2.1
        have hlo := next_cur (know := now.know) (cur := now.ses.cur) hsr hd4
        have hb4 : b.ents.length = 4 := by rw [hents]; simp; omega
        have hge : now.ses.cur < b.next := by
          rw [hnext]
          obtain ⟨e, he, _⟩ := next_four (cur := now.ses.cur) hd4
          have hm := (due_mem (List.mem_of_getElem? he)).2.1
          have hx : e ∈ (dueL s.held now.know now.ses.cur).take 4 := by
            refine List.mem_of_getElem? (i := 3) ?_
            rw [List.getElem?_take]; simpa using he
          have := hlo e hx
          omega
        have hsame : dueL s.held k2 b.next = dueL s.held now.know b.next := by
          refine List.filter_congr fun x hx => ?_
          by_cases hxi : b.next ≤ x.id
          · have key : hasB k2 x.rep x.seq = hasB now.know x.rep x.seq := by
              rw [has_eq' (T.right g.know), has_eq' g.know, Bool.eq_iff_iff]
              constructor
              · intro hq
                rcases T.now _ _ hq with h | ⟨y, hy, h1, h2⟩
                · exact h
                · exfalso
                  rw [hents] at hy
                  obtain ⟨y0, hy0, rfl⟩ := List.mem_map.1 hy
                  obtain ⟨f1, f2, f3, _⟩ := fit_same r.flt y0
                  have hm := (due_mem (List.mem_of_mem_take hy0)).1
                  have hl := hlo y0 hy0
                  rw [← hnext] at hl
                  exact held_apart hs hm hx (by omega) ⟨by rw [← f2]; exact h1, by rw [← f3]; exact h2⟩
              · exact T.was _ _
            rw [key]
          · rw [decide_eq_false hxi]; rfl
        have hroom := next_room (know := now.know) (cur := now.ses.cur) (rp_parts hs).2.2.1 hd4
        have hdr := due_rest (know := now.know) (cur := now.ses.cur) hsr hd4
        have hlb : (told ++ b.ents).length = told.length + 4 := by rw [List.length_append, hb4]
        refine ⟨g.rep, g.flt, g.on, g.src, g.num, by show b.next ≤ 63; rw [hnext]; exact hroom, by show 0 ≤ b.next; have := g.cur0; omega, T.right g.know, T.rise, fun _ => ?_, by rw [hlb]; omega, ?_, ?_, hhas, ?_, ?_⟩
        · show (if b.cur = 0 then b.epoch else now.ses.epoch) = s.epoch
          split
          · exact hbe
          · rename_i h0
            rw [hbc] at h0
            have := g.cur0
            exact g.epoch (by omega)
        · rw [hlb, List.take_add, List.map_append, ← g.same, hrest, hents]
        · rw [hlb, ← List.drop_drop, hrest]
          show _ = dueL s.held k2 b.next
          rw [hsame, hnext, hdr]
        · have h1 := T.len
          have h3 := g.hlen
          rw [hlb]
          show h2.length ≤ _
          omega
        · show (if b.cur = 0 then b.offer else now.ses.offer).length ≤ 64
          split
          · rw [hb]; exact ((right_iff _).1 ho).1
          · exact g.olen
      · have hb4 : b.ents.length = 4 := by rw [hents]; simp; omega
        rw [List.length_append, hb4]; omega
end Go.Proofs.YtfjaeohfigcciabGreatDoor

namespace Go.Proofs.YtfjaeohfigcciabGreatDoor
open Go.RowKit

/-- what the loop has come to -/
def LoopAt (r s : Rp) (x : Rp) (y : Nt) (told : List En) (more : Bool) : Prop :=
  (more = true → Going r s x told ∧ y = pullP x) ∧
  (more = false → x.ses.on = false ∧ told.length = (dueAll r s).length ∧ told = (dueAll r s).map (fitE r.flt) ∧ (∀ z ∈ told, ∃ v, verAt x.held z.id = some v ∧ ltV v z.ver = false) ∧ x.held.length ≤ r.held.length + (dueAll r s).length)
theorem RpIn.grown {W W' : World} {base g : Nat} {tv : Value} {zs : List En} {x : Rp} {l : Ls} (h : RpIn W g x l) (ho : EOwn W base tv zs) (hg : W.grownBy W' tv.ownBlock) (ha : RpAv (fun k => tv.ownBlock ≠ some k) (.agg (repR x l)) x) : RpIn W' g x l :=
  ⟨blk_grown h.blk (by decide) ho hg, (h.val.grown hg ha (Nat.le_refl _)).more hg.size⟩
theorem NtIn.grown {W W' : World} {base g : Nat} {tv : Value} {zs : List En} {x : Nt} {l : Ls} (h : NtIn W g x l) (ho : EOwn W base tv zs) (hg : W.grownBy W' tv.ownBlock) (ha : NtAv (fun k => tv.ownBlock ≠ some k) (.agg (noteR x l)) x) : NtIn W' g x l :=
  ⟨blk_grown h.blk (by decide) ho hg, (h.val.grown hg ha (Nat.le_refl _)).more hg.size⟩
/-- lists that lie below, and not in the elder block, don't lie in the one behind -/
theorem RpAv.next {W : World} {B : Nat} {tv tv' v : Value} {x : Rp} (h : RpAv (fun k => tv.ownBlock ≠ some k) v x) (hv : RpV W B v x) (hk : ∀ k, tv'.ownBlock = some k → tv.ownBlock = some k ∨ B ≤ k) : RpAv (fun k => tv'.ownBlock ≠ some k) v x :=
  (h.and hv.av).mono fun k hh e => by
    rcases hk k e with h1 | h1
    · exact hh.1 h1
    · have := hh.2; omega
theorem NtAv.next {W : World} {B : Nat} {tv tv' v : Value} {x : Nt} (h : NtAv (fun k => tv.ownBlock ≠ some k) v x) (hv : NtV W B v x) (hk : ∀ k, tv'.ownBlock = some k → tv.ownBlock = some k ∨ B ≤ k) : NtAv (fun k => tv'.ownBlock ≠ some k) v x :=
  (h.and hv.av).mono fun k hh e => by
    rcases hk k e with h1 | h1
    · exact hh.1 h1
    · have := hh.2; omega
theorem ESl.next {W : World} {B : Nat} {tv tv' v : Value} {zs : List En} (h : Av (fun k => tv.ownBlock ≠ some k) v zs) (hv : ESl W B v zs) (hk : ∀ k, tv'.ownBlock = some k → tv.ownBlock = some k ∨ B ≤ k) : Av (fun k => tv'.ownBlock ≠ some k) v zs :=
  (h.and hv.av).mono fun k hh e => by
    rcases hk k e with h1 | h1
    · exact hh.1 h1
    · have := hh.2; omega
/-- new memory, and what wasn't in the block, isn't in the block -/
theorem RpAv.free {W : World} {base : Nat} {tv v : Value} {zs : List En} {x : Rp} (ho : EOwn W base tv zs) (h : RpAv (fun k => tv.ownBlock ≠ some k ∨ W.heap.size ≤ k) v x) : RpAv (fun k => tv.ownBlock ≠ some k) v x :=
  h.mono fun k hh e => by
    rcases hh with h1 | h1
    · exact h1 e
    · have := (ho.lt k e).2; omega
theorem NtAv.free {W : World} {base : Nat} {tv v : Value} {zs : List En} {x : Nt} (ho : EOwn W base tv zs) (h : NtAv (fun k => tv.ownBlock ≠ some k ∨ W.heap.size ≤ k) v x) : NtAv (fun k => tv.ownBlock ≠ some k) v x :=
  h.mono fun k hh e => by
    rcases hh with h1 | h1
    · exact h1 e
    · have := (ho.lt k e).2; omega

def lenV : Value → Nat
  | .slice _ n _ => n
  | _ => 0
def onV : Value → Nat
  | .bool true => 1
  | _ => 0
theorem RpV.okR {W : World} {B : Nat} {v : Value} {r : Rp} (h : RpV W B v r) : r.ok := by
  obtain ⟨_, _, _, _, _, _, _, ho⟩ := h
  exact ho

/-- what lies in memory -/
structure FMem (w : World) (g : Nat) (r s : Rp) (ls : Ls) (dv : Value) (wr : World) (x : Rp) (y : Nt) (told : List En) (tv : Value) (lx ly : Ls) : Prop where
  b5 : RpIn wr g x lx
  b6 : NtIn wr (g + 1) y ly
  bs : RpIn wr (w.heap.size + 1) s ls
  tv_ : EOwn wr w.heap.size tv told
  dv_ : ESl wr wr.heap.size dv (dueAll r s)
  a5 : RpAv (fun k => tv.ownBlock ≠ some k) (.agg (repR x lx)) x
  a6 : NtAv (fun k => tv.ownBlock ≠ some k) (.agg (noteR y ly)) y
  as_ : RpAv (fun k => tv.ownBlock ≠ some k) (.agg (repR s ls)) s
  ad : Av (fun k => tv.ownBlock ≠ some k) dv (dueAll r s)
  bel : Below w.heap.size w wr
  fl : x.flt = r.flt ∧ x.epoch = r.epoch ∧ x.seq = r.seq
/-- where the loop stands -/
structure FRel (w : World) (g : Nat) (r s : Rp) (ls : Ls) (dv : Value) (wr : World) (x : Rp) (y : Nt) (told : List En) (more : Bool) (tv : Value) (lx ly : Ls) : Prop where
  st : LoopAt r s x y told more
  le : told.length ≤ (dueAll r s).length
  mem : FMem w g r s ls dv wr x y told tv lx ly
section
variable {w : World} {g : Nat} {r s : Rp} {ls : Ls} {dv : Value} {wr wr' : World} {x q : Rp} {y m b : Nt} {told : List En} {tv tv' : Value} {lx ly lq lm lb : Ls}
theorem FMem.keep (h : FMem w g r s ls dv wr x y told tv lx ly) (hb : Below wr.heap.size wr wr') : FMem w g r s ls dv wr' x y told tv lx ly :=
  ⟨h.b5.keep hb, h.b6.keep hb, h.bs.keep hb, h.tv_.below hb, h.dv_.later hb, h.a5, h.a6, h.as_, h.ad, h.bel.trans (hb.mono h.bel.size), h.fl⟩
/-- a slice has grown -/
theorem FMem.app {gb : Nat} (h : FMem w g r s ls dv wr x y told tv lx ly) (hb : NtIn wr gb b lb) (ab : NtAv (fun k => tv.ownBlock ≠ some k) (.agg (noteR b lb)) b) (ho : EOwn wr' w.heap.size tv' (told ++ b.ents)) (hg : wr.grownBy wr' tv.ownBlock)
    (hk : ∀ k, tv'.ownBlock = some k → tv.ownBlock = some k ∨ wr.heap.size ≤ k) : FMem w g r s ls dv wr' x y (told ++ b.ents) tv' lx ly ∧ NtIn wr' gb b lb ∧ NtAv (fun k => tv'.ownBlock ≠ some k) (.agg (noteR b lb)) b :=
  ⟨⟨h.b5.grown h.tv_ hg h.a5, h.b6.grown h.tv_ hg h.a6, h.bs.grown h.tv_ hg h.as_, ho, (h.dv_.grown hg h.ad (Nat.le_refl _)).more hg.size, h.a5.next h.b5.val hk, h.a6.next h.b6.val hk, h.as_.next h.bs.val hk, ESl.next h.ad h.dv_ hk,
    egrown_below h.bel h.tv_ hg (Nat.le_refl _) h.bel.size, h.fl⟩, hb.grown h.tv_ hg ab, ab.next hb.val hk⟩
/-- the round's stores: another replica, another Pull -/
theorem FMem.step (h : FMem w g r s ls dv wr x y told tv lx ly)
    (hq : RpV wr wr.heap.size (.agg (repR q lq)) q) (hm : NtV wr wr.heap.size (.agg (noteR m lm)) m) (aq : RpAv (fun k => tv.ownBlock ≠ some k) (.agg (repR q lq)) q) (am : NtAv (fun k => tv.ownBlock ≠ some k) (.agg (noteR m lm)) m)
    (fl : q.flt = r.flt ∧ q.epoch = r.epoch ∧ q.seq = r.seq) (hgw : w.heap.size + 1 < g) :
    FMem w g r s ls dv ((wr.setRow g (repR q lq)).setRow (g + 1) (noteR m lm)) q m told tv lq lm := by
  have e1 : q.flt = x.flt := fl.1.trans h.fl.1.symm
  have e2 : q.epoch = x.epoch := fl.2.1.trans h.fl.2.1.symm
  have e3 : q.seq = x.seq := fl.2.2.trans h.fl.2.2.symm
  have b6 : Blk (wr.setRow g (repR q lq)) (g + 1) (noteR y ly) 30 := h.b6.blk.other (by omega) _
  have s2 : ((wr.setRow g (repR q lq)).setRow (g + 1) (noteR m lm)).heap.size = wr.heap.size := by simp
  have hg : w.heap.size ≤ g := by omega
  refine ⟨⟨(h.b5.blk.row _).other (by omega) _, ?_⟩, ⟨b6.row _, ?_⟩, ⟨(h.bs.blk.other (by omega) _).other (by omega) _, ?_⟩, ?_, ?_, aq, am, h.as_, h.ad, below_setRow (below_setRow h.bel hg _) (by omega) _, fl⟩
  · rw [s2]; exact (hq.rep h.b5.blk e1 e2 e3).note b6 _
  · rw [s2]; exact (hm.rep h.b5.blk e1 e2 e3).note b6 _
  · rw [s2]; exact (h.bs.val.rep h.b5.blk e1 e2 e3).note b6 _
  · exact (h.tv_.row h.b5.blk (by decide) _).row b6 (by decide) _
  · rw [s2]; exact (h.dv_.rep h.b5.blk _).note b6 _
end
/-- the entries of a note in a block of its own -/
theorem NtIn.ents {W : World} {g : Nat} {b : Nt} {l : Ls} (h : NtIn W g b l) : ESl W W.heap.size (.slice l.b b.ents.length l.j) b.ents := by
  obtain ⟨a1, a2, a3, hv3, _, h7, _⟩ := h.val
  obtain ⟨_, rfl, _⟩ := note_cells_inj hv3
  exact h7
theorem RpIn.held {W : World} {g : Nat} {x : Rp} {l : Ls} (h : RpIn W g x l) : ESl W W.heap.size (.slice l.b x.held.length l.j) x.held := by
  obtain ⟨a1, a2, a3, hv3, _, h7, _⟩ := h.val
  obtain ⟨_, rfl, _⟩ := rep_cells_inj hv3
  exact h7
/-- an entry of a list, where it lies -/
theorem ESl.at_ {W : World} {B n c k : Nat} {A : Option Addr} {zs : List En} {x : En} (h : ESl W B (.slice A n c) zs) (hx : zs[k]? = some x) : ∃ b off, A = some ⟨b, off, none⟩ ∧ b < B ∧ EnAt W b (off + k * 7) x := by
  obtain ⟨A', c', hv, _, _, hA⟩ := h
  injection hv with h1 h2 h3
  subst h1
  obtain ⟨b, off, hA1, hb, hc⟩ := hA (by rintro rfl; simp at hx)
  exact ⟨b, off, hA1, hb, hc k x hx⟩
theorem EOwn.at_ {W : World} {base n c k : Nat} {A : Option Addr} {zs : List En} {x : En} (h : EOwn W base (.slice A n c) zs) (hx : zs[k]? = some x) : ∃ g, A = some ⟨g, 0, none⟩ ∧ g < W.heap.size ∧ EnAt W g (k * 7) x := by
  obtain ⟨A', c', hv, _, hA⟩ := h.form
  injection hv with h1 h2 h3
  subst h1
  obtain ⟨g, hA1, _, hlt⟩ := hA (by rintro rfl; simp at hx)
  subst hA1
  exact ⟨g, rfl, hlt, h.cell h2 hx⟩
/-- at the end: what was told, and what is held -/
theorem end_at {r s x : Rp} {told : List En} {k : Nat} {d : En} (h1 : told = (dueAll r s).map (fitE r.flt)) (h2 : ∀ z ∈ told, ∃ v, verAt x.held z.id = some v ∧ ltV v z.ver = false) (hd : (dueAll r s)[k]? = some d) :
    ∃ z, told[k]? = some z ∧ z.rep = d.rep ∧ z.seq = d.seq ∧ z.stamp = d.stamp ∧ (findE x.held d.id).2 = true ∧ ltV (findE x.held d.id).1.ver d.ver = false := by
  have hz : told[k]? = some (fitE r.flt d) := by rw [h1, List.getElem?_map, hd]; rfl
  obtain ⟨e1, e2, e3, e4⟩ := fit_same r.flt d
  obtain ⟨v, hv1, hv2⟩ := h2 _ (List.mem_of_getElem? hz)
  rw [e1] at hv1
  obtain ⟨f1, f2⟩ := ver_find hv1
  refine ⟨_, hz, e2, e3, e4, f1, ?_⟩
  rw [f2]
  have : (fitE r.flt d).ver = d.ver := by unfold En.ver; rw [e2, e3, e4]
  rw [← this]
  exact hv2
end Go.Proofs.YtfjaeohfigcciabGreatDoor

