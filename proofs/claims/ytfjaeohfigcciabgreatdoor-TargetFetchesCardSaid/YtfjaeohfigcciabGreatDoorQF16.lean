/- Texts in one: SFits, PRef3, PCode, PCode2. -/
import Derived.Test.YtfjaeohfigcciabGreatDoorQF11
import Derived.Test.YtfjaeohfigcciabGreatDoorQF14
import Derived.Test.YtfjaeohfigcciabGreatDoorQF00
import Derived.Test.YtfjaeohfigcciabGreatDoorQF15
import Derived.Test.YtfjaeohfigcciabGreatDoorQF06
import Derived.Test.YtfjaeohfigcciabGreatDoorQF03
set_option linter.unusedVariables false
set_option linter.unusedSimpArgs false
set_option linter.unusedSectionVars false
set_option linter.unnecessarySimpa false
namespace Go.Proofs.YtfjaeohfigcciabGreatDoor
open Go.RowKit

def shortR (r : Rp) : Prop := r.know.length ≤ 300 ∧ r.held.length ≤ 300 ∧ r.ses.offer.length ≤ 300
def shortN (n : Nt) : Prop := n.know.length ≤ 300 ∧ n.ents.length ≤ 300 ∧ n.offer.length ≤ 300
def DueSaid (f : FuncId) : Prop := ∀ v u r p w, RpV w w.heap.size v r → NtV w w.heap.size u p → shortR r → shortN p → Calls Tryz.prog f #[v, u] w (DuePost w (dueR r p))
end Go.Proofs.YtfjaeohfigcciabGreatDoor

namespace Go.Proofs.YtfjaeohfigcciabGreatDoor
open Go.RowKit

theorem top_false {rep seq : Int} {l : List Rn} {k : Nat} {x : Rn} (h : l[k]? = some x) (h1 : (x.r == rep) = true) (h2 : decide (seq < x.hi) = true) : topB rep seq l = false := by
  unfold topB
  rw [Bool.eq_false_iff]
  intro hc
  have := List.all_eq_true.1 hc x (List.mem_of_getElem? h)
  simp only [beq_iff_eq] at h1
  simp only [decide_eq_true_eq] at h2
  simp [h1, h2] at this
theorem top_true {rep seq : Int} {l : List Rn} (h : ∀ (j : Nat) (x : Rn), j < l.length → l[j]? = some x → ((x.r == rep) && decide (seq < x.hi)) = false) : topB rep seq l = true := by
  unfold topB
  refine List.all_eq_true.2 fun x hx => ?_
  obtain ⟨j, hj, rfl⟩ := List.mem_iff_getElem.1 hx
  have := h j _ hj (List.getElem?_eq_getElem hj)
  rw [Bool.eq_iff_iff] at this
  simp at this
  simp
  by_cases hc : l[j].r = rep
  · exact .inr (this hc)
  · exact .inl hc
theorem held_false {r : Rp} {k : Nat} (hk : k < r.held.length) (h : heldAt r k = false) : (List.range r.held.length).all (heldAt r) = false := by
  rw [Bool.eq_false_iff]
  intro hc
  have := List.all_eq_true.1 hc k (List.mem_range.2 hk)
  rw [h] at this
  cases this
theorem held_true {r : Rp} (h : ∀ j, j < r.held.length → heldAt r j = true) : (List.range r.held.length).all (heldAt r) = true :=
  List.all_eq_true.2 fun j hj => h j (List.mem_range.1 hj)
theorem rp_false1 {r : Rp} (h : headR r = false) : rpB r = false := by unfold rpB; rw [h]; rfl
theorem rp_false2 {r : Rp} (h : topB r.rep r.seq r.know = false) : rpB r = false := by unfold rpB; rw [h]; simp
theorem rp_false3 {r : Rp} (h : topB r.rep r.seq r.ses.offer = false) : rpB r = false := by unfold rpB; rw [h]; simp
theorem rp_false4 {r : Rp} (h : (List.range r.held.length).all (heldAt r) = false) : rpB r = false := by unfold rpB; rw [h]; simp
theorem rp_true {r : Rp} (h1 : headR r = true) (h2 : topB r.rep r.seq r.know = true) (h3 : topB r.rep r.seq r.ses.offer = true) (h4 : (List.range r.held.length).all (heldAt r) = true) : rpB r = true := by
  unfold rpB; rw [h1, h2, h3, h4]; rfl
/-- the cells of a replica's own block, its lists, in whatever world came behind -/
structure RBox (w wz : World) (r : Rp) (vk vh vo : Value) : Prop where
  cell : ∀ w1, Below wz.heap.size wz w1 → ∀ (j : Nat) (u : Value), (r.cells vk vh vo)[j]? = some u → w1.cell? ⟨w.heap.size, j, none⟩ = some u
  bel : Below w.heap.size w wz
  lt : w.heap.size < wz.heap.size
  kn : Sl w w.heap.size vk r.know
  he : ESl w w.heap.size vh r.held
  of : Sl w w.heap.size vo r.ses.offer
  ok : r.ok
theorem RBox.start {w : World} {r : Rp} {vk vh vo : Value} (kn : Sl w w.heap.size vk r.know) (he : ESl w w.heap.size vh r.held) (of : Sl w w.heap.size vo r.ses.offer) (ok : r.ok) : RBox w (w.alloc (.cells (r.cells vk vh vo) 28)) r vk vh vo :=
  ⟨fun _ hb j u hu => box_cells hb j u hu, al1 w _, by simp, kn, he, of, ok⟩
theorem RBox.trans {w wz : World} {r : Rp} {vk vh vo : Value} (k : RBox w wz r vk vh vo) {w1 : World} (hb : Below wz.heap.size wz w1) : Below w.heap.size w w1 := k.bel.trans (hb.mono k.bel.size)
theorem RBox.val {w wz : World} {r : Rp} {vk vh vo : Value} (k : RBox w wz r vk vh vo) {w1 : World} (hb : Below wz.heap.size wz w1) : RpV w1 w1.heap.size (.agg (r.cells vk vh vo)) r :=
  ⟨vk, vh, vo, rfl, (k.kn.below (k.trans hb)).more (k.trans hb).size, k.he.later (k.trans hb), (k.of.below (k.trans hb)).more (k.trans hb).size, k.ok⟩

theorem RBox.c0 {w wz : World} {r : Rp} {vk vh vo : Value} (k : RBox w wz r vk vh vo) {w1 : World} (hb : Below wz.heap.size wz w1) : w1.cell? ⟨w.heap.size, 0, none⟩ = some (.int .u8 r.rep) := k.cell w1 hb 0 _ rfl
theorem RBox.c1 {w wz : World} {r : Rp} {vk vh vo : Value} (k : RBox w wz r vk vh vo) {w1 : World} (hb : Below wz.heap.size wz w1) : w1.cell? ⟨w.heap.size, 1, none⟩ = some (.int .u8 r.flt) := k.cell w1 hb 1 _ rfl
theorem RBox.c2 {w wz : World} {r : Rp} {vk vh vo : Value} (k : RBox w wz r vk vh vo) {w1 : World} (hb : Below wz.heap.size wz w1) : w1.cell? ⟨w.heap.size, 2, none⟩ = some (.int .u32 r.epoch) := k.cell w1 hb 2 _ rfl
theorem RBox.c3 {w wz : World} {r : Rp} {vk vh vo : Value} (k : RBox w wz r vk vh vo) {w1 : World} (hb : Below wz.heap.size wz w1) : w1.cell? ⟨w.heap.size, 3, none⟩ = some (.int .u32 r.seq) := k.cell w1 hb 3 _ rfl
theorem RBox.c4 {w wz : World} {r : Rp} {vk vh vo : Value} (k : RBox w wz r vk vh vo) {w1 : World} (hb : Below wz.heap.size wz w1) : w1.cell? ⟨w.heap.size, 4, none⟩ = some (vk) := k.cell w1 hb 4 _ rfl
theorem RBox.c5 {w wz : World} {r : Rp} {vk vh vo : Value} (k : RBox w wz r vk vh vo) {w1 : World} (hb : Below wz.heap.size wz w1) : w1.cell? ⟨w.heap.size, 5, none⟩ = some (vh) := k.cell w1 hb 5 _ rfl
theorem RBox.c6 {w wz : World} {r : Rp} {vk vh vo : Value} (k : RBox w wz r vk vh vo) {w1 : World} (hb : Below wz.heap.size wz w1) : w1.cell? ⟨w.heap.size, 6, none⟩ = some (.bool r.ses.on) := k.cell w1 hb 6 _ rfl
theorem RBox.c7 {w wz : World} {r : Rp} {vk vh vo : Value} (k : RBox w wz r vk vh vo) {w1 : World} (hb : Below wz.heap.size wz w1) : w1.cell? ⟨w.heap.size, 7, none⟩ = some (.int .u32 r.ses.num) := k.cell w1 hb 7 _ rfl
theorem RBox.c8 {w wz : World} {r : Rp} {vk vh vo : Value} (k : RBox w wz r vk vh vo) {w1 : World} (hb : Below wz.heap.size wz w1) : w1.cell? ⟨w.heap.size, 8, none⟩ = some (.int .u8 r.ses.src) := k.cell w1 hb 8 _ rfl
theorem RBox.c9 {w wz : World} {r : Rp} {vk vh vo : Value} (k : RBox w wz r vk vh vo) {w1 : World} (hb : Below wz.heap.size wz w1) : w1.cell? ⟨w.heap.size, 9, none⟩ = some (.int .u8 r.ses.cur) := k.cell w1 hb 9 _ rfl
theorem RBox.c10 {w wz : World} {r : Rp} {vk vh vo : Value} (k : RBox w wz r vk vh vo) {w1 : World} (hb : Below wz.heap.size wz w1) : w1.cell? ⟨w.heap.size, 10, none⟩ = some (.int .u32 r.ses.epoch) := k.cell w1 hb 10 _ rfl
theorem RBox.c11 {w wz : World} {r : Rp} {vk vh vo : Value} (k : RBox w wz r vk vh vo) {w1 : World} (hb : Below wz.heap.size wz w1) : w1.cell? ⟨w.heap.size, 11, none⟩ = some (vo) := k.cell w1 hb 11 _ rfl
theorem RBox.c12 {w wz : World} {r : Rp} {vk vh vo : Value} (k : RBox w wz r vk vh vo) {w1 : World} (hb : Below wz.heap.size wz w1) : w1.cell? ⟨w.heap.size, 12, none⟩ = some (.int .u32 r.ses.last) := k.cell w1 hb 12 _ rfl

theorem held_at {r : Rp} {k : Nat} {x : En} (hx : r.held[k]! = x) : heldAt r k = (!((x.rep == r.rep) && decide (r.seq < x.seq)) && ((List.range k).all (fun j => !((r.held[j]!.rep == x.rep) && (r.held[j]!.seq == x.seq))) &&
    (!((x.kind == 1) && !inB x r.flt) && !((x.kind != 2) && !hasB r.know x.rep x.seq)))) := by
  have e1 : ∀ a b : Int, (a == b) = decide (a = b) := fun a b => by rw [Bool.eq_iff_iff]; simp
  have e2 : ∀ a b : Int, (a != b) = decide (a ≠ b) := fun a b => by rw [Bool.eq_iff_iff]; simp
  unfold heldAt
  rw [hx]
  simp only [e1, e2]
theorem before_true {r : Rp} {k : Nat} {x : En} (h : ∀ (j : Nat) (y : En), j < k → r.held[j]? = some y → ((y.rep == x.rep) && (y.seq == x.seq)) = false) (hk : k ≤ r.held.length) : (List.range k).all (fun j => !((r.held[j]!.rep == x.rep) && (r.held[j]!.seq == x.seq))) = true := by
  refine List.all_eq_true.2 fun j hj => ?_
  have hj := List.mem_range.1 hj
  have hg : r.held[j]? = some r.held[j] := List.getElem?_eq_getElem (by omega)
  rw [egetBang_of hg, h j _ hj hg]
  rfl
theorem before_false {r : Rp} {k j : Nat} {x y : En} (hj : j < k) (hy : r.held[j]! = y) (h : ((y.rep == x.rep) && (y.seq == x.seq)) = true) : (List.range k).all (fun j => !((r.held[j]!.rep == x.rep) && (r.held[j]!.seq == x.seq))) = false := by
  rw [Bool.eq_false_iff]
  intro hc
  have := List.all_eq_true.1 hc j (List.mem_range.2 hj)
  rw [hy, h] at this
  cases this

/-- the code's first look -/
theorem head_split (r : Rp) : headR r = (!decide (7 < r.rep) && (rightB r.know && (erightB r.held && sesB r.ses r.rep))) := by
  unfold headR
  rw [show decide (r.rep ≤ 7) = !decide (7 < r.rep) by rw [Bool.eq_iff_iff]; simp]

set_option maxHeartbeats 16000000 in
set_option maxRecDepth 100000 in
theorem q5Right_head (v : Value) (r : Rp) (w : World) (hv : RpV w w.heap.size v r) (h1 : r.know.length ≤ 1000) (h2 : r.held.length ≤ 1000) (h3 : r.ses.offer.length ≤ 1000) (hf : headR r = false) :
    Calls Tryz.prog 23 #[v] w fun e w' => e = .returned (.bool (rpB r)) ∧ Below w.heap.size w w' := by
  obtain ⟨vk, vh, vo, rfl, hk, hh, ho, hok⟩ := hv
  have HB := Lib.hid (RBox.start hk hh ho hok)
  have HF := Lib.hid (rp_false1 hf)
  rw [head_split] at hf
  have r1 := fun w1 (hb : Below (w.alloc (.cells (r.cells vk vh vo) 28)).heap.size (w.alloc (.cells (r.cells vk vh vo) 28)) w1) => refRight_any vk r.know w1 ((hk.below (HB.out.trans hb)).more (HB.out.trans hb).size) h1
  have r2 := fun w1 (hb : Below (w.alloc (.cells (r.cells vk vh vo) 28)).heap.size (w.alloc (.cells (r.cells vk vh vo) 28)) w1) => rRight_any w1 vh r.held (hh.later (HB.out.trans hb)) (by omega)
  have r3 := fun w1 (hb : Below (w.alloc (.cells (r.cells vk vh vo) 28)).heap.size (w.alloc (.cells (r.cells vk vh vo) 28)) w1) => q5session_any vo r.ses r.rep w1 ((ho.below (HB.out.trans hb)).more (HB.out.trans hb).size) h3 hok.2.2.2.2.2.2 hok.1
  generalize rpB r = P at HF ⊢
  generalize rightB r.know = b1 at hf r1
  generalize erightB r.held = b2 at hf r2
  generalize sesB r.ses r.rep = b3 at hf r3
  generalize hq : decide (7 < r.rep) = q at hf
  have HFE := Lib.hid hf; clear hf hk hh ho hok
  unfold Ss.cells at r3
  unfold Rp.cells at HB r1 r2 r3 ⊢
  have R1 := Lib.hid r1; clear r1
  have R2 := Lib.hid r2; clear r2
  have R3 := Lib.hid r3; clear r3
  cases q
  case true =>
    go_enter Tryz.func23, Tryz.ntmps23
    go_wp2_with fail
    go_ret
    rw [HF.out]
    exact ⟨rfl, HB.out.bel⟩
  cases b1
  case false =>
    go_enter Tryz.func23, Tryz.ntmps23
    go_wp2_with fail
    refine (R1.out _ (Below.refl _ _)).mono ?_
    rintro e w1 ⟨rfl, hb1⟩
    have HB1 := Lib.hid hb1; clear hb1
    go_wp2_with fail
    go_ret
    rw [HF.out]
    exact ⟨rfl, HB.out.trans HB1.out⟩
  cases b2
  case false =>
    go_enter Tryz.func23, Tryz.ntmps23
    go_wp2_with fail
    refine (R1.out _ (Below.refl _ _)).mono ?_
    rintro e w1 ⟨rfl, hb1⟩
    have m5 := HB.out.c5 (w1 := w1) hb1
    have HB1 := Lib.hid hb1; clear hb1
    go_wp2_with fail
    refine (R2.out _ HB1.out).mono ?_
    rintro e w2 ⟨rfl, hb2⟩
    have HB2 := Lib.hid (HB1.out.trans (hb2.mono HB1.out.size)); clear hb2
    go_wp2_with fail
    go_ret
    rw [HF.out]
    exact ⟨rfl, HB.out.trans HB2.out⟩
  cases b3
  case false =>
    go_enter Tryz.func23, Tryz.ntmps23
    go_wp2_with fail
    refine (R1.out _ (Below.refl _ _)).mono ?_
    rintro e w1 ⟨rfl, hb1⟩
    have m5 := HB.out.c5 (w1 := w1) hb1
    have HB1 := Lib.hid hb1; clear hb1
    go_wp2_with fail
    refine (R2.out _ HB1.out).mono ?_
    rintro e w2 ⟨rfl, hb2⟩
    have hb2' := HB1.out.trans (hb2.mono HB1.out.size)
    have n0 := HB.out.c0 (w1 := w2) hb2'
    have n6 := HB.out.c6 (w1 := w2) hb2'
    have n7 := HB.out.c7 (w1 := w2) hb2'
    have n8 := HB.out.c8 (w1 := w2) hb2'
    have n9 := HB.out.c9 (w1 := w2) hb2'
    have n10 := HB.out.c10 (w1 := w2) hb2'
    have n11 := HB.out.c11 (w1 := w2) hb2'
    have n12 := HB.out.c12 (w1 := w2) hb2'
    have HB2 := Lib.hid hb2'; clear hb2 hb2'
    go_wp2_with fail
    refine (R3.out _ HB2.out).mono ?_
    rintro e w3 ⟨rfl, hb3⟩
    have HB3 := Lib.hid (HB2.out.trans (hb3.mono HB2.out.size)); clear hb3
    go_wp2_with fail
    go_ret
    rw [HF.out]
    exact ⟨rfl, HB.out.trans HB3.out⟩
  exact absurd HFE.out (by simp)
end Go.Proofs.YtfjaeohfigcciabGreatDoor

namespace Go.Proofs.YtfjaeohfigcciabGreatDoor
open Go.RowKit Go.Sort Go.Shelf

def topC (rep seq : Int) (x : Rn) : Bool := (x.r == rep) && decide (seq < x.hi)
def rrunsB (r : Rp) (k : List Rn) : Bool := rightB k && !k.any (fun x => topC r.rep r.seq x)
def mineB (r : Rp) (e : En) : Bool := (e.rep == r.rep) && decide (r.seq < e.seq)
def mayB (r : Rp) (e : En) : Bool := !mineB r e && ((e.kind == 2) || (inB e r.flt && hasB r.know e.rep e.seq))
def sameC (e x : En) : Bool := (x.rep == e.rep) && (x.seq == e.seq)
def rheldAt (r : Rp) (i : Nat) : Bool := mayB r r.held[i]! && !(r.held.take i).any (fun x => sameC r.held[i]! x)
def rheldB (r : Rp) : Bool := erightB r.held && (List.range r.held.length).all (rheldAt r)
def firstS (s : Ss) : Bool := (s.epoch == 0) && ((s.offer.length : Int) == 0)
def rsesB (r : Rp) : Bool :=
  if r.ses.on = true then decide (1 ≤ r.ses.num) && (decide (r.ses.num ≤ r.ses.last) && (decide (r.ses.src < 8) && ((r.ses.src != r.rep) && (decide (r.ses.cur < 64) && (rrunsB r r.ses.offer && ((r.ses.cur != 0) || firstS r.ses))))))
  else (r.ses.num == 0) && ((r.ses.src == 0) && ((r.ses.cur == 0) && ((r.ses.epoch == 0) && ((r.ses.offer.length : Int) == 0))))
def rrightB (r : Rp) : Bool := decide (r.rep < 8) && (rrunsB r r.know && (rheldB r && rsesB r))

theorem top_any (rep seq : Int) (l : List Rn) : (!l.any (fun x => topC rep seq x)) = topB rep seq l := by
  unfold topB topC
  rw [List.not_any_eq_all_not]
  congr 1
theorem re_kind {x : En} (h : reB x = true) : x.kind = 1 ∨ x.kind = 2 ∨ x.kind = 3 := by
  simp only [reB, rkB, Bool.and_eq_true, decide_eq_true_eq] at h
  rcases h.2.2 with h | h | h
  · exact .inl h.1
  · exact .inr (.inl h.1)
  · exact .inr (.inr h.1)
theorem take_any (l : List En) (e : En) : ∀ i, i ≤ l.length → (!(l.take i).any (fun x => sameC e x)) = (List.range i).all (fun j => !((l[j]!.rep == e.rep) && (l[j]!.seq == e.seq)))
  | 0, _ => rfl
  | i + 1, h => by
    rw [List.range_succ, List.all_append, ← take_any l e i (by omega), List.take_succ_eq_append_getElem (by omega), List.any_append, Bool.not_or]
    simp [sameC, List.getElem?_eq_getElem (show i < l.length by omega)]
theorem may_at {r : Rp} {i : Nat} (hr : erightB r.held = true) (hi : i < r.held.length) : rheldAt r i = heldAt r i := by
  have hg := egetBang_of (List.getElem?_eq_getElem hi)
  rw [held_at hg]
  unfold rheldAt
  rw [hg, take_any _ _ _ (Nat.le_of_lt hi)]
  have hk := re_kind (re_of_right hr _ (List.getElem_mem hi))
  generalize r.held[i] = x at hk ⊢
  unfold mayB mineB
  have h3 : x.kind = 3 → inB x r.flt = true := fun h => by unfold inB; rw [decide_eq_true h]; rfl
  generalize inB x r.flt = b1 at h3 ⊢
  generalize hasB r.know x.rep x.seq = b2
  generalize (List.range i).all _ = b3
  generalize ((x.rep == r.rep) && decide (r.seq < x.seq)) = b4
  rcases hk with h | h | h
  · rw [h]; cases b1 <;> cases b2 <;> cases b3 <;> cases b4 <;> rfl
  · rw [h]; cases b1 <;> cases b2 <;> cases b3 <;> cases b4 <;> rfl
  · rw [h3 h, h]; cases b2 <;> cases b3 <;> cases b4 <;> rfl
theorem rheld_rp (r : Rp) : rheldB r = (erightB r.held && (List.range r.held.length).all (heldAt r)) := by
  unfold rheldB
  cases h : erightB r.held
  · rfl
  · rw [Bool.true_and, Bool.true_and, Bool.eq_iff_iff, List.all_eq_true, List.all_eq_true]
    constructor
    · intro H i hi; rw [← may_at h (List.mem_range.1 hi)]; exact H i hi
    · intro H i hi; rw [may_at h (List.mem_range.1 hi)]; exact H i hi
theorem rses_rp {r : Rp} (hc : 0 ≤ r.ses.cur) : rsesB r = (sesB r.ses r.rep && topB r.rep r.seq r.ses.offer) := by
  unfold rsesB sesB
  cases h : r.ses.on
  · simp only [Bool.false_eq_true, if_false]
    rw [len_zero, Bool.eq_iff_iff]
    simp only [Bool.and_eq_true, beq_iff_eq, decide_eq_true_eq, List.length_eq_zero_iff]
    constructor
    · rintro ⟨h1, h2, h3, h4, h5⟩; exact ⟨⟨h1, h2, h3, h4, h5⟩, by rw [h5]; rfl⟩
    · rintro ⟨⟨h1, h2, h3, h4, h5⟩, _⟩; exact ⟨h1, h2, h3, h4, h5⟩
  · simp only [if_true]
    unfold rrunsB firstS
    rw [top_any, len_zero, Bool.eq_iff_iff]
    simp only [Bool.and_eq_true, Bool.or_eq_true, beq_iff_eq, bne_iff_ne, decide_eq_true_eq, List.length_eq_zero_iff]
    constructor
    · rintro ⟨h1, h2, h3, h4, h5, ⟨h6, h7⟩, h8⟩
      refine ⟨⟨h6, h1, h2, by omega, h4, by omega, ?_⟩, h7⟩
      rcases h8 with h8 | h8
      · exact .inl (by omega)
      · exact .inr h8
    · rintro ⟨⟨h6, h1, h2, h3, h4, h5, h8⟩, h7⟩
      refine ⟨h1, h2, by omega, h4, by omega, ⟨h6, h7⟩, ?_⟩
      rcases h8 with h8 | h8
      · exact .inl (by omega)
      · exact .inr h8
theorem rright_rp {r : Rp} (hok : r.ok) : rrightB r = rpB r := by
  unfold rrightB rpB headR rrunsB
  rw [rheld_rp, rses_rp hok.2.2.2.2.2.2.2.2.1.1, top_any, show decide (r.rep < 8) = decide (r.rep ≤ 7) by rw [Bool.eq_iff_iff]; simp; omega, Bool.eq_iff_iff]
  simp only [Bool.and_eq_true]
  constructor
  · rintro ⟨h1, ⟨h2, h3⟩, ⟨h4, h5⟩, h6, h7⟩; exact ⟨⟨h1, h2, h4, h6⟩, h3, h7, h5⟩
  · rintro ⟨⟨h1, h2, h4, h6⟩, h3, h7, h5⟩; exact ⟨h1, ⟨h2, h3⟩, ⟨h4, h5⟩, h6, h7⟩

set_option maxHeartbeats 1000000 in
set_option maxRecDepth 100000 in
theorem patFirst_any (vo : Value) (s : Ss) (w : World) (ho : Sl w w.heap.size vo s.offer) :
    Calls Tryz.prog 93 #[.agg (s.cells vo)] w fun e w' => e = .returned (.bool (firstS s)) ∧ Below w.heap.size w w' := by
  obtain ⟨Ao, co, rfl, _⟩ := ho
  unfold Ss.cells
  have HP := Lib.hid (show firstS s = ((s.epoch == 0) && ((s.offer.length : Int) == 0)) from rfl)
  generalize firstS s = P at HP ⊢
  obtain ⟨q1, hq1⟩ : ∃ q : Bool, (s.epoch == 0) = q := ⟨_, rfl⟩
  obtain ⟨q2, hq2⟩ : ∃ q : Bool, ((s.offer.length : Int) == 0) = q := ⟨_, rfl⟩
  have H1 := Lib.hid hq1
  have H2 := Lib.hid hq2
  cases q1 <;> cases q2 <;>
    (go_enter Tryz.func93, Tryz.ntmps93
     go_wp2_with fail
     go_ret
     exact ⟨by rw [HP.out, H1.out, H2.out]; rfl, al1 _ _⟩)

set_option maxHeartbeats 1000000 in
theorem sameC_pred (e : En) (B : Nat) (w : World) (h1 : B < w.heap.size) (he : EnAt w B 0 e) :
    PredBelow Tryz.prog 123 #[.pointer (some ⟨B, 0, none⟩)] (fun x : En => .agg x.enc.toArray) (fun x => sameC e x) w := fun W x hb => by
  obtain ⟨d0, d1, d2, d3, d4, d5, d6⟩ := (he.keep hb h1).all0
  have s1 : B < W.heap.size := Nat.lt_of_lt_of_le h1 hb.size
  show Calls Tryz.prog 123 #[.agg #[.int .u8 x.id, .int .u8 x.rep, .int .u32 x.seq, .int .u32 x.stamp, .int .i64 x.kind, .int .u8 x.cls, .int .u32 x.val], .pointer (some ⟨B, 0, none⟩)] W fun e' w' => e' = .returned (.bool (sameC e x)) ∧ Below w.heap.size w w'
  have HP := Lib.hid (show sameC e x = ((x.rep == e.rep) && (x.seq == e.seq)) from rfl)
  generalize sameC e x = P at HP ⊢
  have HB := Lib.hid hb; clear hb
  have n1 : B ≠ W.heap.size := by omega
  obtain ⟨q1, hq1⟩ : ∃ q : Bool, (x.rep == e.rep) = q := ⟨_, rfl⟩
  obtain ⟨q2, hq2⟩ : ∃ q : Bool, (x.seq == e.seq) = q := ⟨_, rfl⟩
  have H1 := Lib.hid hq1
  have H2 := Lib.hid hq2
  clear he
  cases q1 <;> cases q2 <;>
    (go_enter Tryz.func123, Tryz.ntmps123
     go_wp2_with fail
     go_ret
     exact ⟨by rw [HP.out, H1.out, H2.out]; rfl, HB.out.alloc HB.out.size _⟩)

set_option maxHeartbeats 1000000 in
theorem aheadC_pred (rep seq : Int) (B : Nat) (w : World) (h1 : B < w.heap.size) (c0 : w.cell? ⟨B, 0, none⟩ = some (.int .u8 rep)) (c3 : w.cell? ⟨B, 3, none⟩ = some (.int .u32 seq)) :
    PredBelow Tryz.prog 87 #[.pointer (some ⟨B, 0, none⟩)] (fun x : Rn => .agg x.enc.toArray) (fun x => topC rep seq x) w := fun W x hb => by
  have d0 : W.cell? ⟨B, 0, none⟩ = some (.int .u8 rep) := (hb.cell (p := ⟨B, 0, none⟩) h1).trans c0
  have d3 : W.cell? ⟨B, 3, none⟩ = some (.int .u32 seq) := (hb.cell (p := ⟨B, 3, none⟩) h1).trans c3
  have s1 : B < W.heap.size := Nat.lt_of_lt_of_le h1 hb.size
  show Calls Tryz.prog 87 #[.agg #[.int .u8 x.r, .int .u32 x.lo, .int .u32 x.hi], .pointer (some ⟨B, 0, none⟩)] W fun e w' => e = .returned (.bool (topC rep seq x)) ∧ Below w.heap.size w w'
  have HP := Lib.hid (show topC rep seq x = ((x.r == rep) && decide (seq < x.hi)) from rfl)
  generalize topC rep seq x = P at HP ⊢
  have HB := Lib.hid hb; clear hb
  have n1 : B ≠ W.heap.size := by omega
  clear c0 c3
  obtain ⟨q1, hq1⟩ : ∃ q : Bool, (x.r == rep) = q := ⟨_, rfl⟩
  obtain ⟨q2, hq2⟩ : ∃ q : Bool, decide (seq < x.hi) = q := ⟨_, rfl⟩
  have H1 := Lib.hid hq1
  have H2 := Lib.hid hq2
  cases q1 <;> cases q2 <;>
    (go_enter Tryz.func87, Tryz.ntmps87
     go_wp2_with fail
     go_ret
     exact ⟨by rw [HP.out, H1.out, H2.out]; rfl, HB.out.alloc HB.out.size _⟩)

set_option maxHeartbeats 400000 in
theorem eIndexFunc_none (A : Option Addr) (c : Nat) (f : Value) (w : World) :
    Calls Tryz.prog 122 #[.slice A 0 c, f] w fun e w' => e = .returned (.int .i64 (-1)) ∧ w' = w := by
  go_enter Tryz.func122, Tryz.ntmps122
  go_wp2
  refine wp_loop_rounds 1 ?_
  rw [rounds_succ]
  go_wp2
  go_ret
  exact ⟨rfl, rfl⟩
set_option maxHeartbeats 400000 in
theorem eContainsFunc_none (A : Option Addr) (c : Nat) (f : Value) (w : World) :
    Calls Tryz.prog 91 #[.slice A 0 c, f] w fun e w' => e = .returned (.bool false) ∧ w' = w := by
  go_enter Tryz.func91, Tryz.ntmps91
  go_wp2_with (go_at_call 122; refine (eIndexFunc_none _ _ _ _).mono ?_; rintro e w' ⟨rfl, rfl⟩)
  go_ret
  exact ⟨rfl, rfl⟩

/-- slices.ContainsFunc at runs, with rightRuns's closure -/
theorem ahead_any (rep seq : Int) (B : Nat) (v : Value) (zs : List Rn) (w : World) (h : Sl w w.heap.size v zs) (hl : zs.length ≤ 9223372036854775807) (h1 : B < w.heap.size) (c0 : w.cell? ⟨B, 0, none⟩ = some (.int .u8 rep)) (c3 : w.cell? ⟨B, 3, none⟩ = some (.int .u32 seq)) :
    Calls Tryz.prog 88 #[v, .func (.func 87) #[] #[.pointer (some ⟨B, 0, none⟩)]] w fun e w' => e = .returned (.bool (zs.any (fun x => topC rep seq x))) ∧ Below w.heap.size w w' := by
  obtain ⟨A, c, rfl, _, hok, hA⟩ := h
  rcases zs with _ | ⟨x0, zs⟩
  · exact (ContainsFunc_none A c _ w).mono fun e w' ⟨he, hw⟩ => ⟨he, by subst hw; exact Below.refl _ _⟩
  · obtain ⟨b, off, rfl, hb, hc⟩ := hA (by simp)
    have eg : ∀ args w, (callFunc 87 args).run Tryz.prog w = .ok (.enter 87 args) w := enters_of Tryz.func87 (by kernel_rfl) rfl
    have hcon := AnyQ.slices_ContainsFunc Tryz.lContains 3 Tryz.isAgg67 Tryz.sizeOf67 Rn.enc (fun _ => rfl) (fun x => topC rep seq x) 87 _ eg b off (x0 :: zs).length c (x0 :: zs) w
      (aheadC_pred rep seq B w h1 c0 c3) (Nat.le_refl _) hl hb (fun j hj i u hi => by
        have hat := hc j _ (List.getElem?_eq_getElem hj)
        have hg : (x0 :: zs)[j]! = (x0 :: zs)[j] := by simp [List.getElem!_eq_getElem?_getD, List.getElem?_eq_getElem hj]
        rw [hg] at hi
        generalize (x0 :: zs)[j] = y at hi hat
        obtain ⟨q0, q1, q2⟩ := hat
        match i, hi with
        | 0, hi => simp [Rn.enc] at hi; rw [← hi]; exact q0
        | 1, hi => simp [Rn.enc] at hi; rw [← hi]; exact q1
        | 2, hi => simp [Rn.enc] at hi; rw [← hi]; exact q2
        | i + 3, hi => simp [Rn.enc] at hi)
    rw [List.take_length] at hcon
    exact hcon

/-- slices.ContainsFunc at entries, with sameWrite's closure -/
theorem same_any (e : En) (B : Nat) (v : Value) (zs : List En) (w : World) (h : ESl w w.heap.size v zs) (hl : zs.length ≤ 9223372036854775807) (h1 : B < w.heap.size) (he : EnAt w B 0 e) :
    Calls Tryz.prog 91 #[v, .func (.func 123) #[] #[.pointer (some ⟨B, 0, none⟩)]] w fun e' w' => e' = .returned (.bool (zs.any (fun x => sameC e x))) ∧ Below w.heap.size w w' := by
  obtain ⟨A, c, rfl, _, hok, hA⟩ := h
  rcases zs with _ | ⟨x0, zs⟩
  · exact (eContainsFunc_none A c _ w).mono fun e w' ⟨he, hw⟩ => ⟨he, by subst hw; exact Below.refl _ _⟩
  · obtain ⟨b, off, rfl, hb, hc⟩ := hA (by simp)
    have eg : ∀ args w, (callFunc 123 args).run Tryz.prog w = .ok (.enter 123 args) w := enters_of Tryz.func123 (by kernel_rfl) rfl
    have hcon := AnyQ.slices_ContainsFunc Tryz.lEContains 7 Tryz.isAgg62 Tryz.sizeOf62 En.enc (fun _ => rfl) (fun x => sameC e x) 123 _ eg b off (x0 :: zs).length c (x0 :: zs) w
      (sameC_pred e B w h1 he) (Nat.le_refl _) hl hb (fun j hj i u hi => by
        have hat := hc j _ (List.getElem?_eq_getElem hj)
        have hg := egetBang_of (List.getElem?_eq_getElem hj)
        rw [hg] at hi
        exact hat i u hi)
    rw [List.take_length] at hcon
    exact hcon
end Go.Proofs.YtfjaeohfigcciabGreatDoor

namespace Go.Proofs.YtfjaeohfigcciabGreatDoor
open Go.RowKit

theorem RBox.up {w wz wy : World} {r : Rp} {vk vh vo : Value} (k : RBox w wz r vk vh vo) (hb : Below wz.heap.size wz wy) : RBox w wy r vk vh vo :=
  ⟨fun w1 hb1 j u hu => k.cell w1 (hb.trans (hb1.mono hb.size)) j u hu, k.trans hb, Nat.lt_of_lt_of_le k.lt hb.size, k.kn, k.he, k.of, k.ok⟩

set_option maxHeartbeats 4000000 in
set_option maxRecDepth 100000 in
theorem prightRuns_any (v u : Value) (r : Rp) (k : List Rn) (w : World) (hv : RpV w w.heap.size v r) (hk : Sl w w.heap.size u k) (hl : k.length ≤ 1000) :
    Calls Tryz.prog 49 #[v, u] w fun e w' => e = .returned (.bool (rrunsB r k)) ∧ Below w.heap.size w w' := by
  obtain ⟨vk, vh, vo, rfl, ik, ih, io, iok⟩ := hv
  have HB := Lib.hid (RBox.start ik ih io iok)
  clear ik ih io iok
  have r1 := fun w1 (hb : Below (w.alloc (.cells (r.cells vk vh vo) 28)).heap.size (w.alloc (.cells (r.cells vk vh vo) 28)) w1) => Right_any w1 u k ((hk.below (HB.out.trans hb)).more (HB.out.trans hb).size)
  have r2 := fun w1 (hb : Below (w.alloc (.cells (r.cells vk vh vo) 28)).heap.size (w.alloc (.cells (r.cells vk vh vo) 28)) w1) => ahead_any r.rep r.seq w.heap.size u k w1 ((hk.below (HB.out.trans hb)).more (HB.out.trans hb).size) (by omega) (Nat.lt_of_lt_of_le HB.out.lt hb.size) (HB.out.c0 hb) (HB.out.c3 hb)
  have HP := Lib.hid (show rrunsB r k = (rightB k && !k.any (fun x => topC r.rep r.seq x)) from rfl)
  clear hk hl
  generalize rrunsB r k = P at HP ⊢
  generalize rightB k = b1 at HP r1
  generalize k.any (fun x => topC r.rep r.seq x) = b2 at HP r2
  unfold Rp.cells at HB r1 r2 ⊢
  have R1 := Lib.hid r1; clear r1
  have R2 := Lib.hid r2; clear r2
  cases b1
  · go_enter Tryz.func49, Tryz.ntmps49
    go_wp2_with fail
    refine (R1.out _ (Below.refl _ _)).mono ?_
    rintro e w1 ⟨rfl, hb1⟩
    have HB1 := Lib.hid hb1; clear hb1
    go_wp2_with fail
    go_ret
    exact ⟨by rw [HP.out]; rfl, HB.out.trans HB1.out⟩
  · go_enter Tryz.func49, Tryz.ntmps49
    go_wp2_with fail
    refine (R1.out _ (Below.refl _ _)).mono ?_
    rintro e w1 ⟨rfl, hb1⟩
    have HB1 := Lib.hid hb1; clear hb1
    go_wp2_with fail
    refine (R2.out _ HB1.out).mono ?_
    rintro e w2 ⟨rfl, hb2⟩
    have HB2 := Lib.hid (HB1.out.trans (hb2.mono HB1.out.size)); clear hb2
    go_wp2_with fail
    go_ret
    exact ⟨by rw [HP.out]; rfl, HB.out.trans HB2.out⟩

set_option maxHeartbeats 400000 in
theorem psameWrite_any (x : En) (w : World) :
    Calls Tryz.prog 92 #[x.agg] w fun e w' => e = .returned (.func (.func 123) #[] #[.pointer (some ⟨w.heap.size, 0, none⟩)]) ∧ w' = w.alloc (.cells #[.int .u8 x.id, .int .u8 x.rep, .int .u32 x.seq, .int .u32 x.stamp, .int .i64 x.kind, .int .u8 x.cls, .int .u32 x.val] 62) := by
  simp only [En.agg]
  go_enter Tryz.func92, Tryz.ntmps92
  go_wp2_with fail
  go_ret
  exact ⟨rfl, rfl⟩
set_option maxHeartbeats 8000000 in
set_option maxRecDepth 100000 in
theorem pmayHold_any (v : Value) (r : Rp) (x : En) (w : World) (hv : RpV w w.heap.size v r) (hx : x.ok) :
    Calls Tryz.prog 90 #[v, x.agg] w fun e w' => e = .returned (.bool (mayB r x)) ∧ Below w.heap.size w w' := by
  obtain ⟨vk, vh, vo, rfl, ik, ih, io, iok⟩ := hv
  have hf := iok.2.1
  have HB := Lib.hid ((RBox.start ik ih io iok).up (al1 _ (.cells #[.int .u8 x.id, .int .u8 x.rep, .int .u32 x.seq, .int .u32 x.stamp, .int .i64 x.kind, .int .u8 x.cls, .int .u32 x.val] 62)))
  have XE := Lib.hid (show EnAt ((w.alloc (.cells (r.cells vk vh vo) 28)).alloc (.cells #[.int .u8 x.id, .int .u8 x.rep, .int .u32 x.seq, .int .u32 x.stamp, .int .i64 x.kind, .int .u8 x.cls, .int .u32 x.val] 62)) (w.heap.size + 1) 0 x by
    have := new_entry (w.alloc (.cells (r.cells vk vh vo) 28)) x 62
    rwa [show (w.alloc (.cells (r.cells vk vh vo) 28)).heap.size = w.heap.size + 1 by simp] at this)
  clear ik ih io iok
  have HP := Lib.hid (show mayB r x = (!((x.rep == r.rep) && decide (r.seq < x.seq)) && ((x.kind == 2) || (inB x r.flt && hasB r.know x.rep x.seq))) from rfl)
  generalize mayB r x = P at HP ⊢
  have r1 := fun w1 => iIn_any x r.flt w1 hx hf
  have r2 := fun w1 (hb : Below ((w.alloc (.cells (r.cells vk vh vo) 28)).alloc (.cells #[.int .u8 x.id, .int .u8 x.rep, .int .u32 x.seq, .int .u32 x.stamp, .int .i64 x.kind, .int .u8 x.cls, .int .u32 x.val] 62)).heap.size ((w.alloc (.cells (r.cells vk vh vo) 28)).alloc (.cells #[.int .u8 x.id, .int .u8 x.rep, .int .u32 x.seq, .int .u32 x.stamp, .int .i64 x.kind, .int .u8 x.cls, .int .u32 x.val] 62)) w1) => Has_any x.rep x.seq vk r.know w1 ((HB.out.kn.below (HB.out.trans hb)).more (HB.out.trans hb).size)
  clear hx hf
  generalize inB x r.flt = b1 at HP r1
  generalize hasB r.know x.rep x.seq = b2 at HP r2
  unfold Rp.cells at HB XE r2 ⊢
  unfold En.agg at r1 ⊢
  have R1 := Lib.hid r1; clear r1
  have R2 := Lib.hid r2; clear r2
  obtain ⟨q1, hq1⟩ : ∃ q : Bool, (x.rep == r.rep) = q := ⟨_, rfl⟩
  obtain ⟨q2, hq2⟩ : ∃ q : Bool, decide (r.seq < x.seq) = q := ⟨_, rfl⟩
  obtain ⟨q3, hq3⟩ : ∃ q : Bool, (x.kind == 2) = q := ⟨_, rfl⟩
  rw [hq1, hq2, hq3] at HP
  cases q1
  · skip
    cases q3
    · cases b1
      · skip
        go_enter Tryz.func90, Tryz.ntmps90
        go_wp2_with fail
        refine (R1.out _).mono ?_
        rintro e w2 ⟨rfl, hb2⟩
        have n4 := HB.out.c4 hb2
        have hx2 := XE.out.keep hb2 (by simp)
        have n1' := hx2.all0.2.1
        have n2' := hx2.all0.2.2.1
        clear hx2
        have HB2 := Lib.hid hb2; clear hb2
        go_wp2_with fail
        go_ret
        exact ⟨by rw [HP.out]; rfl, HB.out.trans HB2.out⟩
      · skip
        go_enter Tryz.func90, Tryz.ntmps90
        go_wp2_with fail
        refine (R1.out _).mono ?_
        rintro e w2 ⟨rfl, hb2⟩
        have n4 := HB.out.c4 hb2
        have hx2 := XE.out.keep hb2 (by simp)
        have n1' := hx2.all0.2.1
        have n2' := hx2.all0.2.2.1
        clear hx2
        have HB2 := Lib.hid hb2; clear hb2
        go_wp2_with fail
        refine (R2.out _ HB2.out).mono ?_
        rintro e w3 ⟨rfl, hb3⟩
        have HB3 := Lib.hid (HB2.out.trans (hb3.mono HB2.out.size)); clear hb3
        go_wp2_with fail
        go_ret
        exact ⟨by rw [HP.out]; rfl, HB.out.trans HB3.out⟩
    · skip
      go_enter Tryz.func90, Tryz.ntmps90
      go_wp2_with fail
      go_ret
      exact ⟨by rw [HP.out]; rfl, HB.out.trans (Below.refl _ _)⟩
  · cases q2
    · skip
      cases q3
      · cases b1
        · skip
          go_enter Tryz.func90, Tryz.ntmps90
          go_wp2_with fail
          refine (R1.out _).mono ?_
          rintro e w2 ⟨rfl, hb2⟩
          have n4 := HB.out.c4 hb2
          have hx2 := XE.out.keep hb2 (by simp)
          have n1' := hx2.all0.2.1
          have n2' := hx2.all0.2.2.1
          clear hx2
          have HB2 := Lib.hid hb2; clear hb2
          go_wp2_with fail
          go_ret
          exact ⟨by rw [HP.out]; rfl, HB.out.trans HB2.out⟩
        · skip
          go_enter Tryz.func90, Tryz.ntmps90
          go_wp2_with fail
          refine (R1.out _).mono ?_
          rintro e w2 ⟨rfl, hb2⟩
          have n4 := HB.out.c4 hb2
          have hx2 := XE.out.keep hb2 (by simp)
          have n1' := hx2.all0.2.1
          have n2' := hx2.all0.2.2.1
          clear hx2
          have HB2 := Lib.hid hb2; clear hb2
          go_wp2_with fail
          refine (R2.out _ HB2.out).mono ?_
          rintro e w3 ⟨rfl, hb3⟩
          have HB3 := Lib.hid (HB2.out.trans (hb3.mono HB2.out.size)); clear hb3
          go_wp2_with fail
          go_ret
          exact ⟨by rw [HP.out]; rfl, HB.out.trans HB3.out⟩
      · skip
        go_enter Tryz.func90, Tryz.ntmps90
        go_wp2_with fail
        go_ret
        exact ⟨by rw [HP.out]; rfl, HB.out.trans (Below.refl _ _)⟩
    · skip
      go_enter Tryz.func90, Tryz.ntmps90
      go_wp2_with fail
      go_ret
      exact ⟨by rw [HP.out]; rfl, HB.out.trans (Below.refl _ _)⟩
end Go.Proofs.YtfjaeohfigcciabGreatDoor

