/- The contracts of the reference's session, Known, Short (layers 4 and 5). -/
import Derived.Test.YtfjaeohfigcciabZh
import Derived.Test.YtfjaeohfigcciabZg
import Derived.Test.YtfjaeohfigcciabRefHas
import Derived.Test.YtfjaeohfigcciabNCRight
namespace Go.Proofs.Ytfjaeohfigcciab
open Go.RowKit

def Ss.cells (s : Ss) (vo : Value) : Array Value := #[.bool s.on, .int .u32 s.num, .int .u8 s.src, .int .u8 s.cur, .int .u32 s.epoch, vo, .int .u32 s.last]
/-- a block of one's own, read behind whatever came later -/
theorem box_cells {w w1 : World} {cs : Array Value} {t : TypeId} (hb : Below (w.alloc (.cells cs t)).heap.size (w.alloc (.cells cs t)) w1) (j : Nat) (u : Value) (hu : cs[j]? = some u) : w1.cell? ⟨w.heap.size, j, none⟩ = some u :=
  (hb.cell (p := ⟨w.heap.size, j, none⟩) (by simp)).trans ((World.cell?_alloc_mark w _ t (0, 0) j).trans hu)

theorem ses_on {s : Ss} {rep : Int} (h : s.on = true) : sesB s rep = (rightB s.offer && decide (1 ≤ s.num ∧ s.num ≤ s.last ∧ s.src ≤ 7 ∧ s.src ≠ rep ∧ s.cur ≤ 63 ∧ (0 < s.cur ∨ (s.epoch = 0 ∧ s.offer.length = 0)))) := by
  unfold sesB
  rw [if_pos h]
  simp only [List.length_eq_zero_iff]
theorem ses_off {s : Ss} {rep : Int} (h : s.on = false) : sesB s rep = decide (s.num = 0 ∧ s.src = 0 ∧ s.cur = 0 ∧ s.epoch = 0 ∧ s.offer.length = 0) := by
  unfold sesB
  rw [if_neg (by simp [h])]
  simp only [List.length_eq_zero_iff]

end Go.Proofs.Ytfjaeohfigcciab

