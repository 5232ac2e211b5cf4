/- The contracts of the small functions: a version is right, less than another one; an entry is right. -/
import Derived.Test.YtfjaeohfigcciaaDoorIMem
import Derived.Test.YtfjaeohfigcciaaDoorRows
import Derived.WalkKit
import Derived.WalkSpells
import Derived.WalkLawsBesides
import Derived.Deep.QuietTactic
import Derived.BigQuiet
import Derived.Lib.Hide
import Derived.Deep.RegionHeld3
namespace Go.Proofs.YtfjaeohfigcciaaDoor
open Go.RowKit

theorem al1 (w : World) (o : Obj) : Below w.heap.size w (w.alloc o) := (Below.refl _ w).alloc (Nat.le_refl _) o
theorem al2 (w : World) (o o' : Obj) : Below w.heap.size w ((w.alloc o).alloc o') := (al1 w o).alloc (by simp) o'

set_option maxHeartbeats 400000 in
theorem iRightVer_any (r q t : Int) (w : World) :
    Calls Tryd.prog 59 #[.agg #[.int .u8 r, .int .u32 q, .int .u32 t]] w fun e w' => e = .returned (.bool (rvB ⟨r, q, t⟩)) ∧ Below w.heap.size w w' := by
  by_cases h1 : r < 8
  · by_cases h2 : 1 ≤ q
    · by_cases h3 : 1 ≤ t
      · have e : rvB ⟨r, q, t⟩ = true := by simp [rvB, h1, h2, h3]
        rw [e]; clear e
        go_enter Tryd.func59, Tryd.ntmps59
        go_wp2
        go_ret
        exact ⟨rfl, al1 _ _⟩
      · have e : rvB ⟨r, q, t⟩ = false := by simp [rvB, h1, h2, h3]
        rw [e]; clear e
        go_enter Tryd.func59, Tryd.ntmps59
        go_wp2
        go_ret
        exact ⟨rfl, al1 _ _⟩
    · have e : rvB ⟨r, q, t⟩ = false := by simp [rvB, h1, h2]
      rw [e]; clear e
      go_enter Tryd.func59, Tryd.ntmps59
      go_wp2
      go_ret
      exact ⟨rfl, al1 _ _⟩
  · have e : rvB ⟨r, q, t⟩ = false := by simp [rvB, h1]
    rw [e]; clear e
    go_enter Tryd.func59, Tryd.ntmps59
    go_wp2
    go_ret
    exact ⟨rfl, al1 _ _⟩
set_option maxHeartbeats 400000 in
theorem rRightVer_any (r q t : Int) (w : World) :
    Calls Tryd.prog 45 #[.agg #[.int .u8 r, .int .u32 q, .int .u32 t]] w fun e w' => e = .returned (.bool (rvB ⟨r, q, t⟩)) ∧ Below w.heap.size w w' := by
  by_cases h1 : r < 8
  · by_cases h2 : 0 < q
    · by_cases h3 : 0 < t
      · have e : rvB ⟨r, q, t⟩ = true := by simp [rvB]; omega
        rw [e]; clear e
        go_enter Tryd.func45, Tryd.ntmps45
        go_wp2
        go_ret
        exact ⟨rfl, al1 _ _⟩
      · have e : rvB ⟨r, q, t⟩ = false := by simp [rvB]; omega
        rw [e]; clear e
        go_enter Tryd.func45, Tryd.ntmps45
        go_wp2
        go_ret
        exact ⟨rfl, al1 _ _⟩
    · have e : rvB ⟨r, q, t⟩ = false := by simp [rvB]; omega
      rw [e]; clear e
      go_enter Tryd.func45, Tryd.ntmps45
      go_wp2
      go_ret
      exact ⟨rfl, al1 _ _⟩
  · have e : rvB ⟨r, q, t⟩ = false := by simp [rvB, h1]
    rw [e]; clear e
    go_enter Tryd.func45, Tryd.ntmps45
    go_wp2
    go_ret
    exact ⟨rfl, al1 _ _⟩

def icmpI (a b : Int) : Int := if a < b then -1 else if b < a then 1 else 0
theorem inan8_any (a : Int) (w : World) : Calls Tryd.prog 72 #[.int .u8 a] w fun e w' => e = .returned (.bool false) ∧ w' = w := by
  go_enter Tryd.func72, Tryd.ntmps72
  go_wp2
  go_ret
  exact ⟨rfl, rfl⟩
theorem inan32_any (a : Int) (w : World) : Calls Tryd.prog 73 #[.int .u32 a] w fun e w' => e = .returned (.bool false) ∧ w' = w := by
  go_enter Tryd.func73, Tryd.ntmps73
  go_wp2
  go_ret
  exact ⟨rfl, rfl⟩
set_option maxHeartbeats 400000 in
theorem icmp8_any (a b : Int) (w : World) : Calls Tryd.prog 57 #[.int .u8 a, .int .u8 b] w fun e w' => e = .returned (.int .i64 (icmpI a b)) ∧ w' = w := by
  by_cases h1 : a < b
  · rw [show icmpI a b = -1 by simp [icmpI, h1]]
    go_enter Tryd.func57, Tryd.ntmps57
    go_wp2_with (go_at_call 72; refine (inan8_any _ _).mono ?_; rintro e w' ⟨rfl, rfl⟩)
    go_ret
    exact ⟨rfl, rfl⟩
  · by_cases h2 : b < a
    · rw [show icmpI a b = 1 by simp [icmpI, h1, h2]]
      go_enter Tryd.func57, Tryd.ntmps57
      go_wp2_with (go_at_call 72; refine (inan8_any _ _).mono ?_; rintro e w' ⟨rfl, rfl⟩)
      go_ret
      exact ⟨rfl, rfl⟩
    · rw [show icmpI a b = 0 by simp [icmpI, h1, h2]]
      go_enter Tryd.func57, Tryd.ntmps57
      go_wp2_with (go_at_call 72; refine (inan8_any _ _).mono ?_; rintro e w' ⟨rfl, rfl⟩)
      go_ret
      exact ⟨rfl, rfl⟩
set_option maxHeartbeats 400000 in
theorem icmp32_any (a b : Int) (w : World) : Calls Tryd.prog 58 #[.int .u32 a, .int .u32 b] w fun e w' => e = .returned (.int .i64 (icmpI a b)) ∧ w' = w := by
  by_cases h1 : a < b
  · rw [show icmpI a b = -1 by simp [icmpI, h1]]
    go_enter Tryd.func58, Tryd.ntmps58
    go_wp2_with (go_at_call 73; refine (inan32_any _ _).mono ?_; rintro e w' ⟨rfl, rfl⟩)
    go_ret
    exact ⟨rfl, rfl⟩
  · by_cases h2 : b < a
    · rw [show icmpI a b = 1 by simp [icmpI, h1, h2]]
      go_enter Tryd.func58, Tryd.ntmps58
      go_wp2_with (go_at_call 73; refine (inan32_any _ _).mono ?_; rintro e w' ⟨rfl, rfl⟩)
      go_ret
      exact ⟨rfl, rfl⟩
    · rw [show icmpI a b = 0 by simp [icmpI, h1, h2]]
      go_enter Tryd.func58, Tryd.ntmps58
      go_wp2_with (go_at_call 73; refine (inan32_any _ _).mono ?_; rintro e w' ⟨rfl, rfl⟩)
      go_ret
      exact ⟨rfl, rfl⟩

set_option maxHeartbeats 400000 in
/-- cmp.Or at three numbers -/
theorem cmpOr_any (g : Nat) (a b c : Int) (w : World) (c0 : w.cell? ⟨g, 0, none⟩ = some (.int .i64 a)) (c1 : w.cell? ⟨g, 1, none⟩ = some (.int .i64 b)) (c2 : w.cell? ⟨g, 2, none⟩ = some (.int .i64 c)) :
    Calls Tryd.prog 75 #[.slice (some ⟨g, 0, none⟩) 3 3] w fun e w' => e = .returned (.int .i64 (if a = 0 then (if b = 0 then c else b) else a)) ∧ w' = w := by
  by_cases h1 : a = 0
  · subst h1
    by_cases h2 : b = 0
    · subst h2
      by_cases h3 : c = 0
      · subst h3
        simp only [if_true]
        go_enter Tryd.func75, Tryd.ntmps75
        go_wp2
        refine wp_loop_rounds 4 ?_
        rw [rounds_succ]
        go_wp2
        rw [rounds_succ]
        go_wp2
        rw [rounds_succ]
        go_wp2
        rw [rounds_succ]
        go_wp2
        go_ret
        exact ⟨rfl, rfl⟩
      · have h3' : (c != 0) = true := by simp [h3]
        simp only [if_true]
        clear h3
        go_enter Tryd.func75, Tryd.ntmps75
        go_wp2
        refine wp_loop_rounds 4 ?_
        rw [rounds_succ]
        go_wp2
        rw [rounds_succ]
        go_wp2
        rw [rounds_succ]
        go_wp2
        go_ret
        exact ⟨rfl, rfl⟩
    · have h2' : (b != 0) = true := by simp [h2]
      simp only [if_true, if_neg h2]
      clear h2
      go_enter Tryd.func75, Tryd.ntmps75
      go_wp2
      refine wp_loop_rounds 4 ?_
      rw [rounds_succ]
      go_wp2
      rw [rounds_succ]
      go_wp2
      go_ret
      exact ⟨rfl, rfl⟩
  · have h1' : (a != 0) = true := by simp [h1]
    simp only [if_neg h1]
    clear h1
    go_enter Tryd.func75, Tryd.ntmps75
    go_wp2
    refine wp_loop_rounds 4 ?_
    rw [rounds_succ]
    go_wp2
    go_ret
    exact ⟨rfl, rfl⟩
end Go.Proofs.YtfjaeohfigcciaaDoor
