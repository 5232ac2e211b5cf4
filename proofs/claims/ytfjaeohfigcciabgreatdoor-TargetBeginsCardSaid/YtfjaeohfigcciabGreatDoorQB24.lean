/- Texts in one: TOff, Tail. -/
import Derived.StillTail
import Derived.Deep.Quiet
import Derived.Test.YtfjaeohfigcciabGreatDoorQB09
import Derived.Test.YtfjaeohfigcciabGreatDoorQB22
import Derived.Test.YtfjaeohfigcciabGreatDoorQB00
set_option linter.unusedVariables false
set_option linter.unusedSimpArgs false
set_option linter.unusedSectionVars false
set_option linter.unnecessarySimpa false
namespace Go.Proofs.YtfjaeohfigcciabGreatDoor
open Go.RowKit

structure Off (g : Nat) (W W' : World) : Prop where
  blk : ∀ i, i ≠ g → W'.heap[i]? = W.heap[i]?
  size : W'.heap.size = W.heap.size
  os : W'.os = W.os
  tape : W'.tape = W.tape
  output : W'.output = W.output
theorem Off.refl (g : Nat) (W : World) : Off g W W := ⟨fun _ _ => rfl, rfl, rfl, rfl, rfl⟩
theorem Off.set {g : Nat} {W W' : World} (h : Off g W W') (j : Nat) (u : Value) : Off g W (W'.setCell ⟨g, j, none⟩ u) :=
  ⟨fun i hi => (heap_setCell_other W' ⟨g, j, none⟩ i u (by simp; omega)).trans (h.blk i hi), by rw [← h.size]; simp [World.setCell], h.os, h.tape, h.output⟩
theorem Off.row {g : Nat} {W W' : World} (h : Off g W W') (cs : Array Value) : Off g W (W'.setRow g cs) :=
  ⟨fun i hi => (setRow_other W' g i cs hi).trans (h.blk i hi), by rw [← h.size]; simp [World.setRow], h.os, h.tape, h.output⟩
theorem Off.cell {g b j : Nat} {W W' : World} (h : Off g W W') (hb : b ≠ g) : W'.cell? ⟨b, j, none⟩ = W.cell? ⟨b, j, none⟩ := World.cell?_of_block (h.blk b hb)
theorem Blk.off {g k : Nat} {W W' : World} {cs : Array Value} {t : TypeId} (h : Blk W k cs t) (ho : Off g W W') (hne : k ≠ g) : Blk W' k cs t := ⟨(ho.blk k hne).trans h.at_⟩
/-- the code behind the first n statements -/
def tailN : Nat → Code → Code
  | 0, c => c
  | n + 1, .seq _ b => tailN n b
  | _, c => c
theorem tail2 {f : Func} {a0 a1 c : Code} (h : f.body = some (.seq a0 (.seq a1 c))) : tailN 2 (f.body.getD .skip) = c := by rw [h]; rfl
section
variable {W W' : World} {B g : Nat} {v : Value}
theorem Sl.off {zs : List Rn} (h : Sl W B v zs) (ho : Off g W W') (ha : Av (fun k => k ≠ g) v zs) : Sl W' B v zs := by
  obtain ⟨A, c, hv, hn, hok, hA⟩ := h
  refine ⟨A, c, hv, hn, hok, fun hz => ?_⟩
  obtain ⟨b, off, hA1, hB, hc⟩ := hA hz
  have hbg : b ≠ g := ha hz b (by rw [hv, hA1]; rfl)
  refine ⟨b, off, hA1, hB, fun j x hx => ?_⟩
  obtain ⟨h0, h1, h2⟩ := hc j x hx
  exact ⟨(ho.cell hbg).trans h0, (ho.cell hbg).trans h1, (ho.cell hbg).trans h2⟩
theorem ESl.off {zs : List En} (h : ESl W B v zs) (ho : Off g W W') (ha : Av (fun k => k ≠ g) v zs) : ESl W' B v zs := by
  obtain ⟨A, c, hv, hn, hok, hA⟩ := h
  refine ⟨A, c, hv, hn, hok, fun hz => ?_⟩
  obtain ⟨b, off, hA1, hB, hc⟩ := hA hz
  have hbg : b ≠ g := ha hz b (by rw [hv, hA1]; rfl)
  exact ⟨b, off, hA1, hB, fun j x hx i u hu => (ho.cell hbg).trans (hc j x hx i u hu)⟩
theorem RpV.off {r : Rp} (h : RpV W B v r) (ho : Off g W W') (ha : RpAv (fun k => k ≠ g) v r) : RpV W' B v r := by
  obtain ⟨vk, vh, vo, hv, h1, h2, h3, hok⟩ := h
  obtain ⟨wk, wh, wo, hw, a1, a2, a3⟩ := ha
  rw [hv] at hw
  obtain ⟨rfl, rfl, rfl⟩ := rep_cells_inj hw
  exact ⟨_, _, _, hv, h1.off ho a1, h2.off ho a2, h3.off ho a3, hok⟩
theorem NtV.off {n : Nt} (h : NtV W B v n) (ho : Off g W W') (ha : NtAv (fun k => k ≠ g) v n) : NtV W' B v n := by
  obtain ⟨vk, vh, vo, hv, h1, h2, h3, hok⟩ := h
  obtain ⟨wk, wh, wo, hw, a1, a2, a3⟩ := ha
  rw [hv] at hw
  obtain ⟨rfl, rfl, rfl⟩ := note_cells_inj hw
  exact ⟨_, _, _, hv, h1.off ho a1, h2.off ho a2, h3.off ho a3, hok⟩
theorem below_off {B : Nat} {w : World} (h : Below B w W) (ho : Off g W W') (hg : B ≤ g) : Below B w W' :=
  ⟨ho.os.trans h.os, ho.tape.trans h.tape, ho.output.trans h.output, by rw [ho.size]; exact h.size, fun i hi => (ho.blk i (by omega)).trans (h.block i hi)⟩
theorem RpAv.lists {P : Nat → Prop} {r : Rp} {l : Ls} (h : RpAv P (.agg (repR r l)) r) : Av P (.slice l.a r.know.length l.i) r.know ∧ Av P (.slice l.b r.held.length l.j) r.held ∧ Av P (.slice l.c r.ses.offer.length l.k) r.ses.offer := by
  obtain ⟨a, b, c, he, h1, h2, h3⟩ := h
  obtain ⟨rfl, rfl, rfl⟩ := rep_cells_inj he
  exact ⟨h1, h2, h3⟩
theorem NtAv.lists {P : Nat → Prop} {n : Nt} {l : Ls} (h : NtAv P (.agg (noteR n l)) n) : Av P (.slice l.a n.know.length l.i) n.know ∧ Av P (.slice l.b n.ents.length l.j) n.ents ∧ Av P (.slice l.c n.offer.length l.k) n.offer := by
  obtain ⟨a, b, c, he, h1, h2, h3⟩ := h
  obtain ⟨rfl, rfl, rfl⟩ := note_cells_inj he
  exact ⟨h1, h2, h3⟩
end
end Go.Proofs.YtfjaeohfigcciabGreatDoor

namespace Go.Proofs.YtfjaeohfigcciabGreatDoor
open Go.RowKit

section
variable {P : Program} {ops : Array Oper} {md : Region.Mode} {C : World → Prop}

/-- f operations of the head are still to come, in whatever order; then L -/
def HeadAny (P : Program) (md : Region.Mode) (ops : Array Oper) (C : World → Prop) (n : Nat) (L : Array Bool → Act → Prop) (f : Nat) (listed : Array Bool) (a : Act) : Prop :=
  match f with
  | 0 => L listed a
  | f + 1 => (∃ i, i ∈ Region.ready md ops listed) ∧ ∀ i, i ∈ Region.ready md ops listed → i < n ∧ qOp P ops C i (HeadAny P md ops C n L f (listed.setIfInBounds i true)) a

theorem HeadAny.any {n g : Nat} {L : Array Bool → Act → Prop} {Q : Exit → Act → World → Prop} (hL : ∀ listed a w, C w → L listed a → wpAny P md ops Q g listed a w) (f : Nat) :
    ∀ (listed : Array Bool) (a : Act) (w : World), C w → HeadAny P md ops C n L f listed a → wpAny P md ops Q (g + f) listed a w := by
  induction f with
  | zero => exact fun listed a w hw h => hL listed a w hw h
  | succ f ih =>
    intro listed a w hw h
    obtain ⟨⟨i0, h0⟩, hall⟩ := h
    refine ⟨fun he => absurd (he ▸ h0) (by simp), fun i hi => ?_⟩
    exact wpOp_of_qOp hw (fun a' w' hw' h' => ih _ a' w' hw' h') (hall i hi).2

/-- an operation of the head that may come now may be taken first -/
theorem HeadAny.first {n i : Nat} {oi : Oper} {v : Value} {L : Array Bool → Act → Prop} (hoi : ops[i]? = some oi) (hsel : Region.noSelect ops = true)
    (hs : Region.sinkB md ops n = true) (hc : Region.chainB md ops n = true) (hn : n < ops.size) (hin : i < n)
    (hL : ∀ listed a, L listed a → ∀ j ∈ Region.ready md ops listed, n ≤ j) (f : Nat) :
    ∀ (listed : Array Bool) (a : Act), HeadInv md ops n listed →
      (∀ j oj, ops[j]? = some oj → j ≠ i → listed.getD j true = false → (∀ e ∈ oj.after, Region.binds md e = true → e.on ≠ i) → oi.apart ops oj = true) →
      i ∈ Region.ready md ops listed → YieldsIn P ops C oi v a → HeadAny P md ops C n L f (listed.setIfInBounds i true) (a.put oi.dst v) → HeadAny P md ops C n L (f + 1) listed a := by
  have nosel := Region.noSelect_spec hsel
  have low : ∀ listed, HeadInv md ops n listed → i ∈ Region.ready md ops listed → ∀ j, j ∈ Region.ready md ops listed → j < n := fun listed inv hr j hj =>
    Nat.lt_of_not_le fun h => tail_waits hs hc hn inv (n - i) i rfl hin (mem_ready.1 hr).1 j h hj
  induction f with
  | zero =>
    intro listed a inv _ hr hy H
    refine ⟨⟨i, hr⟩, fun j hj => ⟨low listed inv hr j hj, ?_⟩⟩
    rcases Nat.decEq j i with hji | hji
    · have h1 := hL _ _ H j (ready_mono hj hji)
      have h2 := low listed inv hr j hj
      omega
    · subst hji
      exact hy.qOp hoi H
  | succ f ih =>
    intro listed a inv hap hr hy H
    refine ⟨⟨i, hr⟩, fun j hj => ⟨low listed inv hr j hj, ?_⟩⟩
    rcases Nat.decEq j i with hji | hji
    · obtain ⟨hju, oj, hoj, hjall⟩ := mem_ready.1 hj
      have hiu := (mem_ready.1 hr).1
      have hno : ∀ e ∈ oj.after, Region.binds md e = true → e.on ≠ i := fun e he hb heq => by
        have h1 := hjall e he hb
        rw [heq, getD_both hiu] at h1
        cases h1
      have step := qOp_put (P := P) (C := C) hoj (hap j oj hoj hji hju hno) (fun cs b => nosel i oi cs b hoi) (fun cs b => nosel j oj cs b hoj) hy (H.2 j (ready_mono hj hji)).2
      refine qOp_mono (fun a' h' => ih (listed.setIfInBounds j true) a' (inv.set hj (low listed inv hr j hj)) (fun k ok hk hki hku hkn => hap k ok hk hki ?_ hkn) (ready_mono hr (fun h => hji h.symm)) h'.1 ?_) step
      · rcases Nat.decEq j k with hjk | hjk
        · rw [getD_set_ne true hjk] at hku; exact hku
        · subst hjk; exact hju
      · rw [Array.setIfInBounds_comm _ _ hji]
        exact h'.2
    · subst hji
      exact hy.qOp hoi H

theorem HeadAny.walk {n g : Nat} {R : Act → Prop} (hsel : Region.noSelect ops = true) (hs : Region.sinkB md ops n = true) (hc : Region.chainB md ops n = true) (hn : n < ops.size) (l : List Oper) :
    ∀ (k : Nat) (listed : Array Bool) (a : Act), (∀ j, j < l.length → l[j]? = ops[k + j]?) → k + l.length = n → HeadInv md ops n listed → Region.lexHead md ops g l.length k listed = true →
      wpQuiet P ops C R l a → HeadAny P md ops C n (fun listed' a' => Region.seqB md ops g n listed' = true ∧ R a') l.length listed a := by
  induction l with
  | nil =>
    intro k listed a _ hk _ hB h
    obtain rfl : k = n := by simpa using hk
    exact ⟨by simpa [Region.lexHead] using hB, h⟩
  | cons o l ih =>
    intro k listed a hl hk inv hB h
    have hkn : k < n := by simp only [List.length_cons] at hk; omega
    have ho : ops[k]? = some o := by simpa using (hl 0 (by simp)).symm
    simp only [List.length_cons, Region.lexHead, Bool.and_eq_true] at hB
    have hr : k ∈ Region.ready md ops listed := by simpa using hB.1.1
    obtain ⟨v, hy, hrest⟩ := yieldsIn_of_qOp (P := P) (C := C) (K := wpQuiet P ops C R l) ho (by unfold qOp; simp only [ho]; exact h)
    refine HeadAny.first ho hsel hs hc hn hkn (fun listed' a' hL => seqB_ready hL.1) l.length listed a inv (Region.free_spec ho hB.1.2) hr hy ?_
    exact ih (k + 1) _ _ (fun j hj => by have := hl (j + 1) (by simp; omega); simpa [Nat.add_assoc, Nat.add_comm 1 j] using this) (by simp only [List.length_cons] at hk; omega) (inv.set hr hkn) hB.2 hrest

theorem wp_region_later_tail {id : Nat} {Q : Exit → Act → World → Prop} {a : Act} {w : World} {l : List Oper} (n : Nat) (hm : P.follows .mixedOrders = true) (hB : Region.lexTailB .any l.toArray n = true)
    (h : wpQuiet P l.toArray (fun w' => ∃ p : Later w, w' = p.now) (fun a' => ∀ w', (∃ p : Later w, w' = p.now) → wpList P l.toArray Q (l.drop n) a' w') (l.take n) a) : (Code.region id l.toArray true).wp P Q a w := by
  simp only [Region.lexTailB, Bool.and_eq_true, decide_eq_true_eq] at hB
  obtain ⟨⟨⟨⟨hsel, hn⟩, hs⟩, hc⟩, hlex⟩ := hB
  have hlen : n < l.length := by simpa using hn
  have ht : (l.take n).length = n := by rw [List.length_take]; omega
  have hd : (l.drop n).length = l.toArray.size - n := by simp
  have inv : HeadInv .any l.toArray n (Array.replicate l.toArray.size false) := by
    refine ⟨by simp, fun j oj _ hl => ?_, fun t _ hts => getD_in (by simpa using hts) (getD_replicate_false _ _)⟩
    rw [getD_replicate_false] at hl
    cases hl
  have H := HeadAny.walk (P := P) (md := .any) (ops := l.toArray) (n := n) (g := l.toArray.size - n) hsel hs hc hn (l.take n) 0 _ a
    (fun j hj => by rw [ht] at hj; simp [hj]) (by rw [ht]; omega) inv (by rw [ht]; exact hlex) h
  refine wp_region_any hm ?_
  have G := HeadAny.any (Q := Q) (g := l.toArray.size - n) (fun listed a' w' hw' hL => by
    have := wpAny_of_seq (P := P) (md := .any) (ops := l.toArray) (Q' := Q) (l.drop n) n listed a' w' (fun j => by simp [List.getElem?_drop]) (by rw [hd]; exact hL.1) (hL.2 w' hw')
    rwa [hd] at this) _ _ _ { w with drawn := w.drawn + 1 } ⟨⟨_, (Below.refl _ w).drew⟩, rfl⟩ H
  rw [ht, show l.toArray.size - n + n = l.toArray.size by omega] at G
  exact G
end
end Go.Proofs.YtfjaeohfigcciabGreatDoor

