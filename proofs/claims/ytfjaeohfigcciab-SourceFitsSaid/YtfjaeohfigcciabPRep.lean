/- Replicas in plain words: when one is right, what is due for a Pull, what is answered, what is offered; what follows of an answer. Nothing of a program is in here but the words for runs, entries and notes. -/
import Derived.Test.YtfjaeohfigcciabNPlain
import Derived.Test.YtfjaeohfigcciabZd
import Derived.Test.YtfjaeohfigcciabZe
import Derived.Test.YtfjaeohfigcciabIIn
namespace Go.Proofs.Ytfjaeohfigcciab

structure Ss where
  on : Bool
  (num src cur epoch : Int)
  offer : List Rn
  last : Int
  deriving Inhabited
structure Rp where
  (rep flt epoch seq : Int)
  know : List Rn
  held : List En
  ses : Ss
  deriving Inhabited

def Ss.ok (s : Ss) : Prop := (0 ≤ s.num ∧ s.num ≤ 4294967295) ∧ (0 ≤ s.src ∧ s.src ≤ 255) ∧ (0 ≤ s.cur ∧ s.cur ≤ 255) ∧ (0 ≤ s.epoch ∧ s.epoch ≤ 4294967295) ∧ (∀ x ∈ s.offer, x.ok) ∧ (0 ≤ s.last ∧ s.last ≤ 4294967295)
def Rp.ok (r : Rp) : Prop := (0 ≤ r.rep ∧ r.rep ≤ 255) ∧ (0 ≤ r.flt ∧ r.flt ≤ 255) ∧ (0 ≤ r.epoch ∧ r.epoch ≤ 4294967295) ∧ (0 ≤ r.seq ∧ r.seq ≤ 4294967295) ∧ (∀ x ∈ r.know, x.ok) ∧ (∀ x ∈ r.held, x.ok) ∧ r.ses.ok

/-- a session is right -/
def sesB (s : Ss) (rep : Int) : Bool :=
  if s.on = true then rightB s.offer && decide (1 ≤ s.num ∧ s.num ≤ s.last ∧ s.src ≤ 7 ∧ s.src ≠ rep ∧ s.cur ≤ 63 ∧ (0 < s.cur ∨ (s.epoch = 0 ∧ s.offer = [])))
  else decide (s.num = 0 ∧ s.src = 0 ∧ s.cur = 0 ∧ s.epoch = 0 ∧ s.offer = [])
/-- no run of that replica's goes above its number -/
def topB (rep seq : Int) (l : List Rn) : Bool := l.all fun x => !(decide (x.r = rep) && decide (seq < x.hi))
/-- what is asked of one that is held, and of those ahead of it -/
def heldAt (r : Rp) (i : Nat) : Bool :=
  !(decide (r.held[i]!.rep = r.rep) && decide (r.seq < r.held[i]!.seq)) && ((List.range i).all (fun k => !(decide (r.held[k]!.rep = r.held[i]!.rep) && decide (r.held[k]!.seq = r.held[i]!.seq))) &&
    (!(decide (r.held[i]!.kind = 1) && !inB r.held[i]! r.flt) && !(decide (r.held[i]!.kind ≠ 2) && !hasB r.know r.held[i]!.rep r.held[i]!.seq)))
def headR (r : Rp) : Bool := decide (r.rep ≤ 7) && (rightB r.know && (erightB r.held && sesB r.ses r.rep))
/-- a replica is right -/
def rpB (r : Rp) : Bool := headR r && (topB r.rep r.seq r.know && (topB r.rep r.seq r.ses.offer && (List.range r.held.length).all (heldAt r)))

theorem rp_parts {r : Rp} (h : rpB r = true) : r.rep ≤ 7 ∧ rightB r.know = true ∧ erightB r.held = true ∧ sesB r.ses r.rep = true := by
  simp only [rpB, headR, Bool.and_eq_true, decide_eq_true_eq] at h
  exact ⟨h.1.1, h.1.2.1, h.1.2.2.1, h.1.2.2.2⟩

/-! what is due, and what is answered -/
def dueL (held : List En) (know : List Rn) (cur : Int) : List En := held.filter fun e => decide (cur ≤ e.id) && !hasB know e.rep e.seq
def dueR (r : Rp) (p : Nt) : Except Int (List En) :=
  if rpB r = false then .error 9 else if noteB p = false then .error 3 else if p.kind ≠ 1 ∨ p.dst ≠ r.rep then .error 4 else .ok (dueL r.held p.know p.cur)
/-- as it is, if it is in the filter, else its ghost -/
def fitE (f : Int) (e : En) : En := if inB e f = true then e else fadeE e
def offerR (f : Int) : List En → List Rn → Except Int (List Rn)
  | [], k => .ok k
  | e :: es, k => if e.kind = 2 ∧ inB e f = true then (match dropR k e.rep e.seq with | .ok k' => offerR f es k' | .error c => .error c) else offerR f es k
def nextOf (l : List En) (cur : Int) : Int := match l.getLast? with | none => cur | some e => e.id + 1
def answerN (r : Rp) (p : Nt) (all : List En) (offer : List Rn) : Nt :=
  ⟨2, r.rep, p.src, p.num, p.cur, 0, [], r.epoch, (all.take 4).map (fitE p.flt), nextOf (all.take 4) p.cur, decide (all.length ≤ 4), offer⟩
def answerR (r : Rp) (p : Nt) : Except Int Nt :=
  match dueR r p with
  | .error c => .error c
  | .ok all => if p.cur = 0 then (match offerR p.flt r.held r.know with | .ok o => .ok (answerN r p all o) | .error c => .error c) else .ok (answerN r p all [])

theorem due_ok {r : Rp} {p : Nt} {l : List En} (h : dueR r p = .ok l) : rpB r = true ∧ noteB p = true ∧ p.kind = 1 ∧ p.dst = r.rep ∧ l = dueL r.held p.know p.cur := by
  unfold dueR at h
  split at h
  · cases h
  · rename_i h1
    split at h
    · cases h
    · rename_i h2
      split at h
      · cases h
      · rename_i h3
        simp only [not_or, ne_eq, Classical.not_not] at h3
        injection h with h
        exact ⟨by simpa using h1, by simpa using h2, h3.1, h3.2, h.symm⟩
theorem due_is {r : Rp} {p : Nt} (h1 : rpB r = true) (h2 : noteB p = true) (h3 : p.kind = 1) (h4 : p.dst = r.rep) : dueR r p = .ok (dueL r.held p.know p.cur) := by
  unfold dueR
  rw [if_neg (by simp [h1]), if_neg (by simp [h2]), if_neg (by simp [h3, h4])]

theorem fade_re {x : En} (h : reB x = true) : reB (fadeE x) = true := by
  unfold fadeE
  split
  · rename_i hk
    simp only [reB, rvB, rkB, En.ver, Bool.and_eq_true, decide_eq_true_eq] at h ⊢
    obtain ⟨h1, h2, h3⟩ := h
    refine ⟨h1, h2, ?_⟩
    right
    left
    refine ⟨by simp, ?_, by simp⟩
    omega
  · exact h
theorem fit_re {f : Int} {x : En} (h : reB x = true) : reB (fitE f x) = true := by
  unfold fitE
  split
  · exact h
  · exact fade_re h
theorem fade_same (x : En) : (fadeE x).id = x.id ∧ (fadeE x).rep = x.rep ∧ (fadeE x).seq = x.seq ∧ (fadeE x).stamp = x.stamp := by
  unfold fadeE
  split <;> exact ⟨rfl, rfl, rfl, rfl⟩
theorem fit_same (f : Int) (x : En) : (fitE f x).id = x.id ∧ (fitE f x).rep = x.rep ∧ (fitE f x).seq = x.seq ∧ (fitE f x).stamp = x.stamp := by
  unfold fitE
  split
  · exact ⟨rfl, rfl, rfl, rfl⟩
  · exact fade_same x
theorem fit_real {f : Int} {x : En} (h : (fitE f x).kind = 1) : inB (fitE f x) f = true := by
  unfold fitE at *
  split at h
  · rename_i hi; rw [if_pos hi]; exact hi
  · rename_i hi
    unfold fadeE at h
    split at h
    · simp at h
    · contradiction
theorem fade_ok {x : En} (h : x.ok) : (fadeE x).ok := by
  unfold fadeE
  split
  · obtain ⟨h1, h2, h3, h4, h5⟩ := h
    exact ⟨h1, h2, ⟨by simp, by simp⟩, h4, ⟨by simp, by simp⟩⟩
  · exact h
theorem fit_ok {f : Int} {x : En} (h : x.ok) : (fitE f x).ok := by
  unfold fitE
  split
  · exact h
  · exact fade_ok h

theorem due_mem {held : List En} {know : List Rn} {cur : Int} {x : En} (h : x ∈ dueL held know cur) : x ∈ held ∧ cur ≤ x.id ∧ hasB know x.rep x.seq = false := by
  simp only [dueL, List.mem_filter, Bool.and_eq_true, decide_eq_true_eq, Bool.not_eq_true'] at h
  exact ⟨h.1, h.2.1, h.2.2⟩
theorem due_rise {held : List En} (know : List Rn) (cur : Int) (h : Rise held) : Rise (dueL held know cur) := h.filter _

theorem lim_was {l x : List Rn} (h : lim l = .ok x) : l.length ≤ 64 ∧ x = l := by
  unfold lim at h
  split at h
  · rename_i hl; injection h with h; exact ⟨hl, h.symm⟩
  · cases h
theorem drop_right {k k' : List Rn} {p n : Int} (h : dropR k p n = .ok k') : rightB k' = true := by
  unfold dropR at h
  split at h
  · rename_i hc
    obtain ⟨hl, rfl⟩ := lim_was h
    exact (right_iff _).2 ⟨hl, (dropL_good ((right_iff _).1 hc.1).2).1⟩
  · cases h
theorem offer_right {f : Int} : ∀ (es : List En) (k o : List Rn), rightB k = true → offerR f es k = .ok o → rightB o = true
  | [], k, o, hk, h => by unfold offerR at h; injection h with h; rw [← h]; exact hk
  | e :: es, k, o, hk, h => by
    unfold offerR at h
    split at h
    · cases hd : dropR k e.rep e.seq with
      | ok k' => rw [hd] at h; exact offer_right es k' o (drop_right hd) h
      | error c => rw [hd] at h; cases h
    · exact offer_right es k o hk h

theorem filter_drop : ∀ (l : List En) (k : Nat) (e : En), Rise l → l[k]? = some e → l.filter (fun x => decide (e.id + 1 ≤ x.id)) = l.drop (k + 1)
  | [], k, e, _, h => by simp at h
  | x :: l, 0, e, hr, h => by
    simp at h
    subst h
    have hp := (List.pairwise_cons.1 hr).1
    rw [List.filter_cons, if_neg (by simp; omega)]
    simp only [List.drop_succ_cons, List.drop_zero]
    exact List.filter_eq_self.2 fun y hy => by have := hp y hy; simp; omega
  | x :: l, k + 1, e, hr, h => by
    have hp := (List.pairwise_cons.1 hr).1
    simp at h
    have := hp e (List.mem_of_getElem? h)
    rw [List.filter_cons, if_neg (by simp; omega), List.drop_succ_cons]
    exact filter_drop l k e (List.pairwise_cons.1 hr).2 h

theorem next_four {l : List En} {cur : Int} (h : 4 < l.length) : ∃ e, l[3]? = some e ∧ nextOf (l.take 4) cur = e.id + 1 := by
  match l, h with
  | a :: b :: c :: d :: r, _ => exact ⟨d, rfl, rfl⟩
  | [], h => simp at h
  | [_], h => simp at h
  | [_, _], h => simp at h
  | [_, _, _], h => simp at h

/-- what is answered, behind what was due -/
theorem due_rest {held : List En} {know : List Rn} {cur : Int} (hr : Rise held) (h : 4 < (dueL held know cur).length) :
    dueL held know (nextOf ((dueL held know cur).take 4) cur) = (dueL held know cur).drop 4 := by
  obtain ⟨e, he, hn⟩ := next_four (cur := cur) h
  rw [hn, ← filter_drop _ 3 e (due_rise know cur hr) he]
  have hc := (due_mem (List.mem_of_getElem? he)).2.1
  unfold dueL
  rw [List.filter_filter]
  refine List.filter_congr fun x _ => ?_
  rw [Bool.eq_iff_iff]
  simp only [Bool.and_eq_true, decide_eq_true_eq]
  constructor
  · rintro ⟨h1, h2⟩; exact ⟨h1, by omega, h2⟩
  · rintro ⟨h1, _, h2⟩; exact ⟨h1, h2⟩

theorem next_room {held : List En} {know : List Rn} {cur : Int} (hr : erightB held = true) (h : 4 < (dueL held know cur).length) : nextOf ((dueL held know cur).take 4) cur ≤ 63 := by
  obtain ⟨e, he, hn⟩ := next_four (cur := cur) h
  have hri := due_rise know cur (rise_of_right hr)
  have h4 : (dueL held know cur)[4]? = some (dueL held know cur)[4] := List.getElem?_eq_getElem (by omega)
  have hx := re_of_right hr _ (due_mem (List.mem_of_getElem? h4)).1
  have hlt := List.pairwise_iff_getElem.1 hri 3 4 (by omega) (by omega) (by omega)
  obtain ⟨_, rfl⟩ := List.getElem?_eq_some_iff.1 he
  simp only [reB, Bool.and_eq_true, decide_eq_true_eq] at hx
  rw [hn]
  omega

theorem map_rise {f : Int} {l : List En} (h : Rise l) : Rise (l.map (fitE f)) :=
  List.pairwise_map.2 (h.imp fun {a b} hab => by rw [(fit_same f a).1, (fit_same f b).1]; exact hab)

theorem note_batch1 {n : Nt} (h : headB n = true) (hk : n.kind ≠ 1) : noteB n = batchB n := by unfold noteB; rw [h, if_neg hk]; rfl
/-- what is answered is a right note -/
theorem answer_right {r : Rp} {p : Nt} {o : List Rn} (h1 : rpB r = true) (h2 : noteB p = true) (h3 : p.kind = 1) (h4 : p.dst = r.rep) (ho : rightB o = true) (hc : p.cur = 0 ∨ o = []) :
    noteB (answerN r p (dueL r.held p.know p.cur) o) = true := by
  have hR := rp_parts h1
  have hp : headB p = true := by
    unfold noteB at h2
    simp only [Bool.and_eq_true] at h2
    exact h2.1
  simp only [headB, decide_eq_true_eq] at hp
  have hh : headB (answerN r p (dueL r.held p.know p.cur) o) = true := by
    obtain ⟨a1, a2, a3, a4, a5⟩ := hp
    have a6 := hR.1
    exact decide_eq_true ⟨a6, a1, fun h => a3 (by rw [h4]; exact h.symm), a4, a5⟩
  rw [note_batch1 hh (by simp [answerN])]
  have hri := due_rise p.know p.cur (rise_of_right hR.2.2.1)
  have hre : ∀ x ∈ dueL r.held p.know p.cur, reB x = true := fun x hx => re_of_right hR.2.2.1 x (due_mem hx).1
  have hcu : ∀ x ∈ dueL r.held p.know p.cur, p.cur ≤ x.id := fun x hx => (due_mem hx).2.1
  have hroom := fun h => next_room (know := p.know) (cur := p.cur) hR.2.2.1 h
  unfold batchB answerN
  generalize dueL r.held p.know p.cur = all at hri hre hcu hroom ⊢
  simp only [Bool.and_eq_true, decide_eq_true_eq, true_and]
  refine ⟨by simp; omega, ?_, ho, ?_, ?_, hc⟩
  · refine right_of (map_rise (hri.sublist (List.take_sublist _ _))) fun x hx => ?_
    obtain ⟨y, hy, rfl⟩ := List.mem_map.1 hx
    exact fit_re (hre y (List.mem_of_mem_take hy))
  · unfold nextB
    simp only
    have hsub := fun x (hx : x ∈ all.take 4) => hcu x (List.mem_of_mem_take hx)
    generalize all.take 4 = l at hsub ⊢
    cases l with
    | nil => simp [nextOf]
    | cons e l =>
      simp only [List.map_cons, decide_eq_true_eq]
      refine ⟨by rw [(fit_same _ _).1]; exact hsub e (by simp), ?_⟩
      unfold nextOf
      rw [List.getLast?_eq_some_getLast (List.cons_ne_nil _ _)]
      simp only
      have : ((fitE p.flt e :: l.map (fitE p.flt)).getLast (by simp)) = fitE p.flt ((e :: l).getLast (by simp)) := by
        rw [← List.getLast_map (f := fitE p.flt) (h := by simp)]
        rfl
      rw [this, (fit_same _ _).1]
  · by_cases hl : all.length ≤ 4
    · exact .inl hl
    · exact .inr ⟨by simp; omega, hroom (by omega)⟩
end Go.Proofs.Ytfjaeohfigcciab

