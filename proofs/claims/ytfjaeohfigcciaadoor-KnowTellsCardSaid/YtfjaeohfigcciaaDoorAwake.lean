/- The contract of the law's awake: it answers true. -/
import Derived.Test.YtfjaeohfigcciaaDoorUnion
namespace Go.Proofs.YtfjaeohfigcciaaDoor
open Go.RowKit Go.Sort Go.Shelf

theorem right_of_good {l : List Rn} (h : l.length ≤ 64) (hg : Good l) : rightB l = true := (right_iff l).2 ⟨h, hg⟩

theorem awake_add : addR [⟨0, 1, 1⟩, ⟨0, 3, 5⟩] 0 2 = .ok [⟨0, 1, 5⟩] := by
  have h1 : rightB [⟨0, 1, 1⟩, ⟨0, 3, 5⟩] = true := by decide
  have h2 : rightB [⟨0, 2, 2⟩] = true := by decide
  have h3 : rightB [⟨0, 1, 5⟩] = true := by decide
  obtain ⟨g1, g2⟩ := unionL_good h1 h2
  have hu : unionL [⟨0, 1, 1⟩, ⟨0, 3, 5⟩] [⟨0, 2, 2⟩] = [⟨0, 1, 5⟩] := by
    refine canon _ _ g1 ((right_iff _).1 h3).2 fun p n => ?_
    rw [g2, Bool.eq_iff_iff, Bool.or_eq_true, covs_iff, covs_iff, covs_iff]
    simp only [List.mem_cons, List.not_mem_nil, or_false, exists_eq_or_imp, exists_eq_left]
    omega
  rw [addR, unionR, if_pos ⟨h1, h2⟩, hu]
  rfl

theorem two_sl (w : World) : Sl (w.alloc (.cells #[.int .u8 0, .int .u32 1, .int .u32 1, .int .u8 0, .int .u32 3, .int .u32 5] 51)) (w.heap.size + 1) (.slice (some ⟨w.heap.size, 0, none⟩) 2 2) [⟨0, 1, 1⟩, ⟨0, 3, 5⟩] := by
  refine ⟨some ⟨w.heap.size, 0, none⟩, 2, rfl, (fun h => by simp at h), ?_, fun _ => ⟨w.heap.size, 0, rfl, by omega, fun j y hj => ?_⟩⟩
  · intro x hx
    simp at hx
    rcases hx with rfl | rfl <;> exact ⟨by decide, by decide, by decide⟩
  · match j, hj with
    | 0, hj => simp at hj; subst hj; exact ⟨by simp, by simp, by simp⟩
    | 1, hj => simp at hj; subst hj; exact ⟨by simp, by simp, by simp⟩
    | j + 2, hj => simp at hj

set_option maxHeartbeats 1000000 in
theorem awake_any (w : World) : Calls Tryd.prog 7 #[] w fun e w' => e = .returned (.bool true) ∧ Below w.heap.size w w' := by
  have hbl : Below w.heap.size w (w.alloc (.cells #[.int .u8 0, .int .u32 1, .int .u32 1, .int .u8 0, .int .u32 3, .int .u32 5] 51)) := (Below.refl _ w).alloc (Nat.le_refl _) _
  have ha := (Add_any (.slice (some ⟨w.heap.size, 0, none⟩) 2 2) _ 0 2 _ (by decide) (by decide) ((two_sl w).more (by simp))).mono fun e w' hr => hr.of_below hbl
  rw [awake_add] at ha
  have HA := Lib.hid ha; clear ha hbl
  have h1 : hasB [⟨0, 1, 5⟩] 0 4 = true := by decide
  have h2 : hasB [⟨0, 1, 5⟩] 1 4 = false := by decide
  have k1 := fun v w1 (h : Sl w1 w1.heap.size v [⟨0, 1, 5⟩]) => Has_any 0 4 v [⟨0, 1, 5⟩] w1 h
  have k2 := fun v w1 (h : Sl w1 w1.heap.size v [⟨0, 1, 5⟩]) => Has_any 1 4 v [⟨0, 1, 5⟩] w1 h
  rw [h1] at k1
  rw [h2] at k2
  have K1 := Lib.hid k1; clear k1 h1
  have K2 := Lib.hid k2; clear k2 h2
  go_enter Tryd.func7, Tryd.ntmps7
  go_wp2_with fail
  refine (HA.out).mono ?_
  rintro e w1 ⟨v1, rfl, hs1, hb1⟩
  have HS := Lib.hid hs1
  have HB := Lib.hid hb1; clear hb1
  obtain ⟨A, c, rfl, _, _, hA⟩ := hs1
  obtain ⟨b, off, rfl, hbw, hc⟩ := hA (by simp)
  obtain ⟨c0, c1, c2⟩ := hc 0 ⟨0, 1, 5⟩ rfl
  clear hc hA
  simp only [Nat.zero_mul, Nat.add_zero, List.length_cons, List.length_nil, Nat.zero_add] at c0 c1 c2 HS ⊢
  go_wp2_with fail
  refine (K1.out _ _ HS.out).mono ?_
  rintro e w2 ⟨rfl, hb2⟩
  have HS2 := Lib.hid ((HS.out.below hb2).more hb2.size)
  have HB2 := Lib.hid (HB.out.trans (hb2.mono HB.out.size))
  clear hb2
  go_wp2_with fail
  refine (K2.out _ _ HS2.out).mono ?_
  rintro e w3 ⟨rfl, hb3⟩
  have HB3 := Lib.hid (HB2.out.trans (hb3.mono HB2.out.size))
  clear hb3
  go_wp2_with fail
  go_ret
  exact ⟨rfl, HB3.out⟩
end Go.Proofs.YtfjaeohfigcciaaDoor

