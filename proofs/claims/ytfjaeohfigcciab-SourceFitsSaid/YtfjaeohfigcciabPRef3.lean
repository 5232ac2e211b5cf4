/- The contract of the reference's Right of layer 5. -/
import Derived.Test.YtfjaeohfigcciabPRef2
import Derived.Test.YtfjaeohfigcciabZg
import Derived.Test.YtfjaeohfigcciabIIn
namespace Go.Proofs.Ytfjaeohfigcciab
open Go.RowKit

theorem top_false {rep seq : Int} {l : List Rn} {k : Nat} {x : Rn} (h : l[k]? = some x) (h1 : (x.r == rep) = true) (h2 : decide (seq < x.hi) = true) : topB rep seq l = false := by
  unfold topB
  rw [Bool.eq_false_iff]
  intro hc
  have := List.all_eq_true.1 hc x (List.mem_of_getElem? h)
  simp only [beq_iff_eq] at h1
  simp only [decide_eq_true_eq] at h2
  simp [h1, h2] at this
theorem top_true {rep seq : Int} {l : List Rn} (h : ∀ (j : Nat) (x : Rn), j < l.length → l[j]? = some x → ((x.r == rep) && decide (seq < x.hi)) = false) : topB rep seq l = true := by
  unfold topB
  refine List.all_eq_true.2 fun x hx => ?_
  obtain ⟨j, hj, rfl⟩ := List.mem_iff_getElem.1 hx
  have := h j _ hj (List.getElem?_eq_getElem hj)
  rw [Bool.eq_iff_iff] at this
  simp at this
  simp
  by_cases hc : l[j].r = rep
  · exact .inr (this hc)
  · exact .inl hc
theorem held_false {r : Rp} {k : Nat} (hk : k < r.held.length) (h : heldAt r k = false) : (List.range r.held.length).all (heldAt r) = false := by
  rw [Bool.eq_false_iff]
  intro hc
  have := List.all_eq_true.1 hc k (List.mem_range.2 hk)
  rw [h] at this
  cases this
theorem held_true {r : Rp} (h : ∀ j, j < r.held.length → heldAt r j = true) : (List.range r.held.length).all (heldAt r) = true :=
  List.all_eq_true.2 fun j hj => h j (List.mem_range.1 hj)
theorem rp_false1 {r : Rp} (h : headR r = false) : rpB r = false := by unfold rpB; rw [h]; rfl
theorem rp_false2 {r : Rp} (h : topB r.rep r.seq r.know = false) : rpB r = false := by unfold rpB; rw [h]; simp
theorem rp_false3 {r : Rp} (h : topB r.rep r.seq r.ses.offer = false) : rpB r = false := by unfold rpB; rw [h]; simp
theorem rp_false4 {r : Rp} (h : (List.range r.held.length).all (heldAt r) = false) : rpB r = false := by unfold rpB; rw [h]; simp
theorem rp_true {r : Rp} (h1 : headR r = true) (h2 : topB r.rep r.seq r.know = true) (h3 : topB r.rep r.seq r.ses.offer = true) (h4 : (List.range r.held.length).all (heldAt r) = true) : rpB r = true := by
  unfold rpB; rw [h1, h2, h3, h4]; rfl
/-- the cells of a replica's own block, its lists, in whatever world came behind -/
structure RBox (w wz : World) (r : Rp) (vk vh vo : Value) : Prop where
  cell : ∀ w1, Below wz.heap.size wz w1 → ∀ (j : Nat) (u : Value), (r.cells vk vh vo)[j]? = some u → w1.cell? ⟨w.heap.size, j, none⟩ = some u
  bel : Below w.heap.size w wz
  lt : w.heap.size < wz.heap.size
  kn : Sl w w.heap.size vk r.know
  he : ESl w w.heap.size vh r.held
  of : Sl w w.heap.size vo r.ses.offer
  ok : r.ok
theorem RBox.start {w : World} {r : Rp} {vk vh vo : Value} (kn : Sl w w.heap.size vk r.know) (he : ESl w w.heap.size vh r.held) (of : Sl w w.heap.size vo r.ses.offer) (ok : r.ok) : RBox w (w.alloc (.cells (r.cells vk vh vo) 28)) r vk vh vo :=
  ⟨fun _ hb j u hu => box_cells hb j u hu, al1 w _, by simp, kn, he, of, ok⟩
theorem RBox.trans {w wz : World} {r : Rp} {vk vh vo : Value} (k : RBox w wz r vk vh vo) {w1 : World} (hb : Below wz.heap.size wz w1) : Below w.heap.size w w1 := k.bel.trans (hb.mono k.bel.size)
theorem RBox.val {w wz : World} {r : Rp} {vk vh vo : Value} (k : RBox w wz r vk vh vo) {w1 : World} (hb : Below wz.heap.size wz w1) : RpV w1 w1.heap.size (.agg (r.cells vk vh vo)) r :=
  ⟨vk, vh, vo, rfl, (k.kn.below (k.trans hb)).more (k.trans hb).size, k.he.later (k.trans hb), (k.of.below (k.trans hb)).more (k.trans hb).size, k.ok⟩

theorem RBox.c0 {w wz : World} {r : Rp} {vk vh vo : Value} (k : RBox w wz r vk vh vo) {w1 : World} (hb : Below wz.heap.size wz w1) : w1.cell? ⟨w.heap.size, 0, none⟩ = some (.int .u8 r.rep) := k.cell w1 hb 0 _ rfl
theorem RBox.c1 {w wz : World} {r : Rp} {vk vh vo : Value} (k : RBox w wz r vk vh vo) {w1 : World} (hb : Below wz.heap.size wz w1) : w1.cell? ⟨w.heap.size, 1, none⟩ = some (.int .u8 r.flt) := k.cell w1 hb 1 _ rfl
theorem RBox.c2 {w wz : World} {r : Rp} {vk vh vo : Value} (k : RBox w wz r vk vh vo) {w1 : World} (hb : Below wz.heap.size wz w1) : w1.cell? ⟨w.heap.size, 2, none⟩ = some (.int .u32 r.epoch) := k.cell w1 hb 2 _ rfl
theorem RBox.c3 {w wz : World} {r : Rp} {vk vh vo : Value} (k : RBox w wz r vk vh vo) {w1 : World} (hb : Below wz.heap.size wz w1) : w1.cell? ⟨w.heap.size, 3, none⟩ = some (.int .u32 r.seq) := k.cell w1 hb 3 _ rfl
theorem RBox.c4 {w wz : World} {r : Rp} {vk vh vo : Value} (k : RBox w wz r vk vh vo) {w1 : World} (hb : Below wz.heap.size wz w1) : w1.cell? ⟨w.heap.size, 4, none⟩ = some (vk) := k.cell w1 hb 4 _ rfl
theorem RBox.c5 {w wz : World} {r : Rp} {vk vh vo : Value} (k : RBox w wz r vk vh vo) {w1 : World} (hb : Below wz.heap.size wz w1) : w1.cell? ⟨w.heap.size, 5, none⟩ = some (vh) := k.cell w1 hb 5 _ rfl
theorem RBox.c6 {w wz : World} {r : Rp} {vk vh vo : Value} (k : RBox w wz r vk vh vo) {w1 : World} (hb : Below wz.heap.size wz w1) : w1.cell? ⟨w.heap.size, 6, none⟩ = some (.bool r.ses.on) := k.cell w1 hb 6 _ rfl
theorem RBox.c7 {w wz : World} {r : Rp} {vk vh vo : Value} (k : RBox w wz r vk vh vo) {w1 : World} (hb : Below wz.heap.size wz w1) : w1.cell? ⟨w.heap.size, 7, none⟩ = some (.int .u32 r.ses.num) := k.cell w1 hb 7 _ rfl
theorem RBox.c8 {w wz : World} {r : Rp} {vk vh vo : Value} (k : RBox w wz r vk vh vo) {w1 : World} (hb : Below wz.heap.size wz w1) : w1.cell? ⟨w.heap.size, 8, none⟩ = some (.int .u8 r.ses.src) := k.cell w1 hb 8 _ rfl
theorem RBox.c9 {w wz : World} {r : Rp} {vk vh vo : Value} (k : RBox w wz r vk vh vo) {w1 : World} (hb : Below wz.heap.size wz w1) : w1.cell? ⟨w.heap.size, 9, none⟩ = some (.int .u8 r.ses.cur) := k.cell w1 hb 9 _ rfl
theorem RBox.c10 {w wz : World} {r : Rp} {vk vh vo : Value} (k : RBox w wz r vk vh vo) {w1 : World} (hb : Below wz.heap.size wz w1) : w1.cell? ⟨w.heap.size, 10, none⟩ = some (.int .u32 r.ses.epoch) := k.cell w1 hb 10 _ rfl
theorem RBox.c11 {w wz : World} {r : Rp} {vk vh vo : Value} (k : RBox w wz r vk vh vo) {w1 : World} (hb : Below wz.heap.size wz w1) : w1.cell? ⟨w.heap.size, 11, none⟩ = some (vo) := k.cell w1 hb 11 _ rfl
theorem RBox.c12 {w wz : World} {r : Rp} {vk vh vo : Value} (k : RBox w wz r vk vh vo) {w1 : World} (hb : Below wz.heap.size wz w1) : w1.cell? ⟨w.heap.size, 12, none⟩ = some (.int .u32 r.ses.last) := k.cell w1 hb 12 _ rfl

theorem held_at {r : Rp} {k : Nat} {x : En} (hx : r.held[k]! = x) : heldAt r k = (!((x.rep == r.rep) && decide (r.seq < x.seq)) && ((List.range k).all (fun j => !((r.held[j]!.rep == x.rep) && (r.held[j]!.seq == x.seq))) &&
    (!((x.kind == 1) && !inB x r.flt) && !((x.kind != 2) && !hasB r.know x.rep x.seq)))) := by
  have e1 : ∀ a b : Int, (a == b) = decide (a = b) := fun a b => by rw [Bool.eq_iff_iff]; simp
  have e2 : ∀ a b : Int, (a != b) = decide (a ≠ b) := fun a b => by rw [Bool.eq_iff_iff]; simp
  unfold heldAt
  rw [hx]
  simp only [e1, e2]
theorem before_true {r : Rp} {k : Nat} {x : En} (h : ∀ (j : Nat) (y : En), j < k → r.held[j]? = some y → ((y.rep == x.rep) && (y.seq == x.seq)) = false) (hk : k ≤ r.held.length) : (List.range k).all (fun j => !((r.held[j]!.rep == x.rep) && (r.held[j]!.seq == x.seq))) = true := by
  refine List.all_eq_true.2 fun j hj => ?_
  have hj := List.mem_range.1 hj
  have hg : r.held[j]? = some r.held[j] := List.getElem?_eq_getElem (by omega)
  rw [egetBang_of hg, h j _ hj hg]
  rfl
theorem before_false {r : Rp} {k j : Nat} {x y : En} (hj : j < k) (hy : r.held[j]! = y) (h : ((y.rep == x.rep) && (y.seq == x.seq)) = true) : (List.range k).all (fun j => !((r.held[j]!.rep == x.rep) && (r.held[j]!.seq == x.seq))) = false := by
  rw [Bool.eq_false_iff]
  intro hc
  have := List.all_eq_true.1 hc j (List.mem_range.2 hj)
  rw [hy, h] at this
  cases this

/-- the code's first look -/
theorem head_split (r : Rp) : headR r = (!decide (7 < r.rep) && (rightB r.know && (erightB r.held && sesB r.ses r.rep))) := by
  unfold headR
  rw [show decide (r.rep ≤ 7) = !decide (7 < r.rep) by rw [Bool.eq_iff_iff]; simp]

end Go.Proofs.Ytfjaeohfigcciab

