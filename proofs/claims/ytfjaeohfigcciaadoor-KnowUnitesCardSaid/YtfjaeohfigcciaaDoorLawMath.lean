/- What follows for uniting in either grouping, uniting once more, and putting in and taking out. Plain lists and numbers. -/
import Derived.Test.YtfjaeohfigcciaaDoorAwake
namespace Go.Proofs.YtfjaeohfigcciaaDoor

theorem lim_good {l : List Rn} (hl : l.length ≤ 64) : lim l = .ok l := by simp [lim, hl]
theorem has_eq' {zs : List Rn} (h : rightB zs = true) (q m : Int) : hasB zs q m = covs zs q m := by simp [hasB, h, covs]
theorem lim_is {l x : List Rn} (h : lim l = .ok x) : l.length ≤ 64 ∧ x = l := by
  unfold lim at h
  split at h
  · exact ⟨by assumption, by cases h; rfl⟩
  · cases h
/-- a union that is told: its parts are right, and so is it -/
theorem union_told {zs ys z : List Rn} (h : unionR zs ys = .ok z) : rightB zs = true ∧ rightB ys = true ∧ rightB z = true ∧ ∀ p n, covs z p n = (covs zs p n || covs ys p n) := by
  unfold unionR at h
  split at h
  · rename_i hr
    obtain ⟨hl, rfl⟩ := lim_is h
    obtain ⟨g1, g2⟩ := unionL_good hr.1 hr.2
    exact ⟨hr.1, hr.2, right_of_good hl g1, g2⟩
  · cases h
theorem union_of {zs ys : List Rn} (h1 : rightB zs = true) (h2 : rightB ys = true) : unionR zs ys = lim (unionL zs ys) := by
  unfold unionR; rw [if_pos ⟨h1, h2⟩]
theorem unionL_is {zs ys u : List Rn} (h1 : rightB zs = true) (h2 : rightB ys = true) (hu : Good u) (hc : ∀ p n, covs u p n = (covs zs p n || covs ys p n)) : unionL zs ys = u := by
  obtain ⟨g1, g2⟩ := unionL_good h1 h2
  exact canon _ _ g1 hu fun p n => by rw [g2, hc]
theorem union_assoc {a b c x y : List Rn} (hx : unionR a b = .ok x) (hy : unionR b c = .ok y) : unionR x c = unionR a y := by
  obtain ⟨a1, a2, a3, a4⟩ := union_told hx
  obtain ⟨b1, b2, b3, b4⟩ := union_told hy
  rw [union_of a3 b2, union_of a1 b3]
  congr 1
  obtain ⟨g1, g2⟩ := unionL_good a1 b3
  exact unionL_is a3 b2 g1 fun p n => by rw [g2, b4, a4, Bool.or_assoc]
theorem union_again {a b x : List Rn} (hx : unionR a b = .ok x) : unionR x b = .ok x := by
  obtain ⟨a1, a2, a3, a4⟩ := union_told hx
  obtain ⟨h64, hg⟩ := (right_iff x).1 a3
  rw [union_of a3 a2, unionL_is a3 a2 hg fun p n => by rw [a4, Bool.or_assoc, Bool.or_self]]
  exact lim_good h64
theorem add_drop {a d : List Rn} {p n : Int} (hd : addR a p n = .ok d) (hh : hasB a p n = false) : dropR d p n = .ok a := by
  obtain ⟨a1, a2, a3, a4⟩ := union_told hd
  have hr : rrB ⟨p, n, n⟩ = true := ((right_iff _).1 a2).2.1 _ (by simp)
  rw [dropR, if_pos ⟨a3, hr⟩]
  obtain ⟨h64, hg⟩ := (right_iff a).1 a1
  obtain ⟨g1, g2⟩ := dropL_good (p := p) (n := n) ((right_iff d).1 a3).2
  have : dropL d p n = a := canon _ _ g1 hg fun q m => by
    rw [g2, a4]
    rw [has_eq' a1] at hh
    by_cases hq : q = p ∧ m = n
    · obtain ⟨rfl, rfl⟩ := hq
      simp [hh]
    · have h1 : (decide (q = p) && decide (m = n)) = false := by simp; omega
      have h2 : covs [(⟨p, n, n⟩ : Rn)] q m = false := by
        rw [← Bool.not_eq_true, covs_iff]
        simp only [List.mem_singleton, exists_eq_left]
        omega
      simp [h1, h2]
  rw [this, lim_good h64]
end Go.Proofs.YtfjaeohfigcciaaDoor

