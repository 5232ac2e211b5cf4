/- Texts in one: PRef6. -/
import Derived.Test.YtfjaeohfigcciabGreatDoorQF21
set_option linter.unusedVariables false
set_option linter.unusedSimpArgs false
set_option linter.unusedSectionVars false
set_option linter.unnecessarySimpa false
namespace Go.Proofs.YtfjaeohfigcciabGreatDoor
open Go.RowKit

def offP (r : Rp) : Rp := ⟨r.rep, r.flt, r.epoch, r.seq, r.know, r.held, ⟨false, 0, 0, 0, 0, [], r.ses.last⟩⟩
def pullP (r : Rp) : Nt := ⟨1, r.rep, r.ses.src, r.ses.num, r.ses.cur, r.flt, r.know, 0, [], 0, false, []⟩
theorem rep_size : (Tryz.prog.info? 28).map (·.size) = some 13 := by kernel_rfl
theorem off_ok {r : Rp} (h : r.ok) : (offP r).ok := by
  obtain ⟨h1, h2, h3, h4, h5, h6, g1, g2, g3, g4, g5, g6⟩ := h
  have z : ∀ n : Int, 0 ≤ n → (0 : Int) ≤ 0 ∧ (0 : Int) ≤ n := fun n h => ⟨Int.le_refl 0, h⟩
  exact ⟨h1, h2, h3, h4, h5, h6, z _ (by decide), z _ (by decide), z _ (by decide), z _ (by decide), (fun x hx => by cases hx), g6⟩
theorem pull_ok {r : Rp} (h : r.ok) : (pullP r).ok := by
  obtain ⟨h1, h2, h3, h4, h5, h6, g1, g2, g3, g4, g5, g6⟩ := h
  have z : ∀ n : Int, 0 ≤ n → (0 : Int) ≤ 0 ∧ (0 : Int) ≤ n := fun n h => ⟨Int.le_refl 0, h⟩
  exact ⟨(by show (-9223372036854775808 : Int) ≤ 1 ∧ (1 : Int) ≤ 9223372036854775807; decide), h1, g2, g1, g3, h2, h5, z _ (by decide), (fun x hx => by cases hx), z _ (by decide), (fun x hx => by cases hx)⟩

end Go.Proofs.YtfjaeohfigcciabGreatDoor

