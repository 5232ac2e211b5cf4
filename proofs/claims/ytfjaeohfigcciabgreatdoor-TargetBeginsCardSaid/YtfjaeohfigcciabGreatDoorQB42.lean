/- Texts in one: TBegins0. -/
import Derived.Test.YtfjaeohfigcciabGreatDoorQB35
import Derived.Test.YtfjaeohfigcciabGreatDoorQB27
import Derived.Test.YtfjaeohfigcciabGreatDoorQB41
import Derived.Test.YtfjaeohfigcciabGreatDoorQB14
set_option linter.unusedVariables false
set_option linter.unusedSimpArgs false
set_option linter.unusedSectionVars false
set_option linter.unnecessarySimpa false
namespace Go.Proofs.YtfjaeohfigcciabGreatDoor
open Go.RowKit

theorem begin_lens {r : Rp} (h : shortR r) (src : Int) : shortR (beginR r src).1 ∧ (beginR r src).2.1.know.length ≤ 300 ∧ (beginR r src).2.1.ents.length ≤ 300 ∧ (beginR r src).2.1.offer.length ≤ 300 := by
  obtain ⟨h1, h2, h3⟩ := h
  unfold beginR
  split
  · exact ⟨⟨by simp [zeroP], by simp [zeroP], by simp [zeroP]⟩, by simp [zeroN], by simp [zeroN], by simp [zeroN]⟩
  · split
    · exact ⟨⟨by simp [zeroP], by simp [zeroP], by simp [zeroP]⟩, by simp [zeroN], by simp [zeroN], by simp [zeroN]⟩
    · exact ⟨⟨h1, h2, by simp [beginP]⟩, h1, by simp [pullP], by simp [pullP]⟩
theorem begin_right {r : Rp} (hok : r.ok) {src : Int} (h : (beginR r src).2.2 = 0) : rpB (beginR r src).1 = true ∧ noteB (beginR r src).2.1 = true := by
  unfold beginR at h ⊢
  split at h
  · simp at h
  · rename_i hc
    split at h
    · simp at h
    · rename_i hl
      rw [if_neg hc, if_neg hl]
      simp only [not_or, Bool.not_eq_false] at hc
      have hb := begin_rp hc.1 hok (by omega) hc.2.2
      exact ⟨hb, pull_right hb rfl⟩
theorem on_parts {r : Rp} (h : onR r = 0) : rpB r = true ∧ r.ses.on = true := by
  unfold onR at h
  split at h
  · simp at h
  · split at h
    · simp at h
    · rename_i h1 h2
      exact ⟨by simpa using h1, by simpa using h2⟩
theorem on_pos {r : Rp} (h : onR r ≠ 0) : 0 < onR r := by
  unfold onR at *
  split
  · decide
  · split
    · decide
    · rename_i h1 h2; rw [if_neg h1, if_neg h2] at h; exact absurd rfl h
end Go.Proofs.YtfjaeohfigcciabGreatDoor

