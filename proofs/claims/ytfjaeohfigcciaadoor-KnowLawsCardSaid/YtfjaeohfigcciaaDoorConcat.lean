/- The contracts of slices.Grow (at nil) and of slices.Concat at two slices of runs. -/
import Derived.Test.YtfjaeohfigcciaaDoorJoin
namespace Go.Proofs.YtfjaeohfigcciaaDoor
open Go.RowKit Go.Sort Go.Shelf

theorem Grow_any (n : Nat) (w : World) (hn : n ≤ 1000) : Calls Tryd.prog 69 #[.slice none 0 0, .int .i64 n] w (OwnPost w []) := by
  rcases Nat.eq_zero_or_pos n with h0 | h0
  · subst h0
    have hcon := Any8.slices_Grow_room Tryd.lGrow none 0 0 0 w (Nat.le_refl _) (by omega) (by omega) (by omega)
    exact hcon.mono fun e w' ⟨he, hw⟩ => ⟨_, he, by subst hw; exact ⟨Own.nil _ _, Below.refl _ _⟩⟩
  · obtain ⟨i0, hi, hz0, hz1, hz2⟩ := info_parts infoRun
    have hcon := Any8.slices_Grow_grow Tryd.lGrow i0 _ hi hz0 (by omega) none 0 0 n [] w (Nat.le_refl _) (by omega) (by rw [hz2]; omega) (by omega) (by simp) (fun _ => rfl) (fun a h => by cases h)
    refine hcon.mono fun e w' ⟨he, hw⟩ => ⟨_, he, ?_, ?_⟩
    · subst hw
      have h1 := grownCap_ge w (0 + n) 0 51
      have h2 := grownCap_le_maxLen w (0 + n) 0 51 (by unfold maxLen; omega)
      exact World.ownsRow_made (base := w.heap.size) (e := 51) (size := 3) w.drew _ _ (by simp) h2 (by
        simp only [Array.size_append, List.size_toArray, size_zeroCells, List.length_nil]
        show 0 + (0 + n - 0) * 3 + (grownCap w (0 + n) 0 51 - (0 + n)) * 3 = grownCap w (0 + n) 0 51 * 3
        omega)
    · subst hw
      exact ((Below.refl _ w).drew).alloc (by simp) _

theorem Grow_int (q : Int) (w : World) (h0 : 0 ≤ q) (h1 : q ≤ 1000) : Calls Tryd.prog 69 #[.slice none 0 0, .int .i64 q] w (OwnPost w []) := by
  obtain ⟨n, rfl⟩ := Int.eq_ofNat_of_zero_le h0
  exact Grow_any n w (by omega)

set_option maxHeartbeats 2000000 in
theorem Concat_any (va vb : Value) (zs ys : List Rn) (gs : Nat) (w : World) (hg : gs < w.heap.size) (c0 : w.cell? ⟨gs, 0, none⟩ = some va) (c1 : w.cell? ⟨gs, 1, none⟩ = some vb)
    (ha : Sl w w.heap.size va zs) (hb : Sl w w.heap.size vb ys) (hz : zs.length ≤ 100) (hy : ys.length ≤ 100) :
    Calls Tryd.prog 54 #[.slice (some ⟨gs, 0, none⟩) 2 2] w (OwnPost w (zs ++ ys)) := by
  have HA := Lib.hid ha
  have HB := Lib.hid hb
  obtain ⟨A1, k1, rfl, _, _, _⟩ := ha
  obtain ⟨A2, k2, rfl, _, _, _⟩ := hb
  go_enter Tryd.func54, Tryd.ntmps54
  go_wp2
  refine wp_loop_rounds 3 ?_
  rw [rounds_succ]
  go_wp2
  rw [rounds_succ]
  go_wp2
  rw [rounds_succ]
  go_wp2_with fail
  refine (Grow_int _ _ (by omega) (by omega)).mono ?_
  rintro e w1 ⟨v6, rfl, ho, hbl⟩
  have d0 := (hbl.cell (p := ⟨gs, 0, none⟩) hg).trans c0
  have d1 := (hbl.cell (p := ⟨gs, 1, none⟩) hg).trans c1
  have hz1 := hbl.size
  have HBL := Lib.hid hbl; clear hbl
  clear c0 c1
  go_wp2_with fail
  refine wp_loop_rounds 3 ?_
  rw [rounds_succ]
  go_wp2_with (at_builtin; (refine append_runs rfl _ _ rfl w.heap.size _ [] rfl ho _ _ zs rfl (HA.out.below HBL.out) (by simp; omega) hz1 ?_); intro v7 w2 ho2 hg2)
  have hb2 : Below w.heap.size w w2 := grown_below HBL.out ho hg2 (Nat.le_refl _) hz1
  have e0 := (hb2.cell (p := ⟨gs, 0, none⟩) hg).trans ((HBL.out.cell (p := ⟨gs, 0, none⟩) hg).symm.trans d0)
  have e1 := (hb2.cell (p := ⟨gs, 1, none⟩) hg).trans ((HBL.out.cell (p := ⟨gs, 1, none⟩) hg).symm.trans d1)
  have hz2 := hb2.size
  have HB2 := Lib.hid hb2; clear hb2
  rw [List.nil_append] at ho2
  clear d0 d1
  rw [rounds_succ]
  go_wp2_with (at_builtin; (refine append_runs rfl _ _ rfl w.heap.size _ zs rfl ho2 _ _ ys rfl (HB.out.below HB2.out) (by omega) hz2 ?_); intro v8 w3 ho3 hg3)
  have hb3 : Below w.heap.size w w3 := grown_below HB2.out ho2 hg3 (Nat.le_refl _) hz2
  have HB3 := Lib.hid hb3; clear hb3
  have HO3 := Lib.hid ho3; clear ho3
  clear e0 e1 ho ho2 hg2 hg3
  rw [rounds_succ]
  go_wp2
  go_ret
  exact ⟨v8, rfl, HO3.out, HB3.out⟩
end Go.Proofs.YtfjaeohfigcciaaDoor

