/- The contracts of the small functions: a run is right, covers a pair, stands apart from the next one; two numbers compared. -/
import Derived.Test.YtfjaeohfigcciaaDoorPlain
import Derived.Test.YtfjaeohfigcciaaDoorRows
import Derived.WalkKit
import Derived.WalkSpells
import Derived.WalkLawsBesides
import Derived.Deep.QuietTactic
import Derived.BigQuiet
namespace Go.Proofs.YtfjaeohfigcciaaDoor
open Go.RowKit

set_option maxHeartbeats 400000 in
theorem rightRun_any (r lo hi : Int) (w : World) :
    Calls Tryd.prog 27 #[.agg #[.int .u8 r, .int .u32 lo, .int .u32 hi]] w fun e w' => e = .returned (.bool (rrB ⟨r, lo, hi⟩)) ∧ w' = w.alloc (.cells #[.int .u8 r, .int .u32 lo, .int .u32 hi] 51) := by
  by_cases h1 : r < 8
  · by_cases h2 : 1 ≤ lo
    · by_cases h3 : lo ≤ hi
      · have e : rrB ⟨r, lo, hi⟩ = true := by simp [rrB, h1, h2, h3]
        rw [e]; clear e
        go_enter Tryd.func27, Tryd.ntmps27
        go_wp2
        go_ret
        exact ⟨rfl, rfl⟩
      · have e : rrB ⟨r, lo, hi⟩ = false := by simp [rrB, h1, h2, h3]
        rw [e]; clear e
        go_enter Tryd.func27, Tryd.ntmps27
        go_wp2
        go_ret
        exact ⟨rfl, rfl⟩
    · have e : rrB ⟨r, lo, hi⟩ = false := by simp [rrB, h1, h2]
      rw [e]; clear e
      go_enter Tryd.func27, Tryd.ntmps27
      go_wp2
      go_ret
      exact ⟨rfl, rfl⟩
  · have e : rrB ⟨r, lo, hi⟩ = false := by simp [rrB, h1]
    rw [e]; clear e
    go_enter Tryd.func27, Tryd.ntmps27
    go_wp2
    go_ret
    exact ⟨rfl, rfl⟩


set_option maxHeartbeats 400000 in
theorem covers_any (r lo hi p n : Int) (w : World) :
    Calls Tryd.prog 28 #[.agg #[.int .u8 r, .int .u32 lo, .int .u32 hi], .int .u8 p, .int .u32 n] w fun e w' => e = .returned (.bool (covB ⟨r, lo, hi⟩ p n)) ∧ w' = w.alloc (.cells #[.int .u8 r, .int .u32 lo, .int .u32 hi] 51) := by
  by_cases h1 : r = p
  · subst h1
    by_cases h2 : lo ≤ n
    · by_cases h3 : n ≤ hi
      · have e : covB ⟨r, lo, hi⟩ r n = true := by simp [covB, h2, h3]
        rw [e]; clear e
        go_enter Tryd.func28, Tryd.ntmps28
        go_wp2
        go_ret
        exact ⟨rfl, rfl⟩
      · have e : covB ⟨r, lo, hi⟩ r n = false := by simp [covB, h2, h3]
        rw [e]; clear e
        go_enter Tryd.func28, Tryd.ntmps28
        go_wp2
        go_ret
        exact ⟨rfl, rfl⟩
    · have e : covB ⟨r, lo, hi⟩ r n = false := by simp [covB, h2]
      rw [e]; clear e
      go_enter Tryd.func28, Tryd.ntmps28
      go_wp2
      go_ret
      exact ⟨rfl, rfl⟩
  · have e : covB ⟨r, lo, hi⟩ p n = false := by simp [covB, h1]
    have h1' : (r == p) = false := by simp [h1]
    rw [e]; clear e
    go_enter Tryd.func28, Tryd.ntmps28
    go_wp2
    go_ret
    exact ⟨rfl, rfl⟩

set_option maxHeartbeats 400000 in
theorem apart_any (r lo hi r' lo' hi' : Int) (w : World) (a1 : 0 ≤ hi) (a2 : hi ≤ 4294967295) (b1 : 0 ≤ lo') (b2 : lo' ≤ 4294967295) :
    Calls Tryd.prog 32 #[.agg #[.int .u8 r, .int .u32 lo, .int .u32 hi], .agg #[.int .u8 r', .int .u32 lo', .int .u32 hi']] w fun e w' => e = .returned (.bool (apB ⟨r, lo, hi⟩ ⟨r', lo', hi'⟩)) ∧ w' = (w.alloc (.cells #[.int .u8 r, .int .u32 lo, .int .u32 hi] 51)).alloc (.cells #[.int .u8 r', .int .u32 lo', .int .u32 hi'] 51) := by
  by_cases h1 : r = r'
  · subst h1
    by_cases h2 : lo' ≤ hi
    · have e : apB ⟨r, lo, hi⟩ ⟨r, lo', hi'⟩ = false := by simp [apB]; omega
      rw [e]; clear e
      go_enter Tryd.func32, Tryd.ntmps32
      go_wp2
      go_ret
      exact ⟨rfl, rfl⟩
    · have hb1 : 0 ≤ lo' - hi := by omega
      have hb2 : lo' - hi ≤ 4294967295 := by omega
      by_cases h3 : lo' - hi = 1
      · have e : apB ⟨r, lo, hi⟩ ⟨r, lo', hi'⟩ = false := by simp [apB]; omega
        rw [e]; clear e
        have h3' : (lo' - hi == 1) = true := by simp [h3]
        clear h3
        go_enter Tryd.func32, Tryd.ntmps32
        go_wp2
        go_ret
        exact ⟨rfl, rfl⟩
      · have e : apB ⟨r, lo, hi⟩ ⟨r, lo', hi'⟩ = true := by simp [apB]; omega
        rw [e]; clear e
        have h3' : (lo' - hi == 1) = false := by simp [h3]
        go_enter Tryd.func32, Tryd.ntmps32
        go_wp2
        go_ret
        exact ⟨rfl, rfl⟩
  · have h1' : (r == r') = false := by simp [h1]
    by_cases h2 : r < r'
    · have e : apB ⟨r, lo, hi⟩ ⟨r', lo', hi'⟩ = true := by simp [apB, h2]
      rw [e]; clear e
      go_enter Tryd.func32, Tryd.ntmps32
      go_wp2
      go_ret
      exact ⟨rfl, rfl⟩
    · have e : apB ⟨r, lo, hi⟩ ⟨r', lo', hi'⟩ = false := by simp [apB]; omega
      rw [e]; clear e
      go_enter Tryd.func32, Tryd.ntmps32
      go_wp2
      go_ret
      exact ⟨rfl, rfl⟩

def cmpI (a b : Int) : Int := if a < b then -1 else if b < a then 1 else 0

theorem nan8_any (a : Int) (w : World) : Calls Tryd.prog 72 #[.int .u8 a] w fun e w' => e = .returned (.bool false) ∧ w' = w := by
  go_enter Tryd.func72, Tryd.ntmps72
  go_wp2
  go_ret
  exact ⟨rfl, rfl⟩
theorem nan32_any (a : Int) (w : World) : Calls Tryd.prog 73 #[.int .u32 a] w fun e w' => e = .returned (.bool false) ∧ w' = w := by
  go_enter Tryd.func73, Tryd.ntmps73
  go_wp2
  go_ret
  exact ⟨rfl, rfl⟩

set_option maxHeartbeats 400000 in
theorem cmp8_any (a b : Int) (w : World) : Calls Tryd.prog 57 #[.int .u8 a, .int .u8 b] w fun e w' => e = .returned (.int .i64 (cmpI a b)) ∧ w' = w := by
  by_cases h1 : a < b
  · rw [show cmpI a b = -1 by simp [cmpI, h1]]
    go_enter Tryd.func57, Tryd.ntmps57
    go_wp2_with (go_at_call 72; refine (nan8_any _ _).mono ?_; rintro e w' ⟨rfl, rfl⟩)
    go_ret
    exact ⟨rfl, rfl⟩
  · by_cases h2 : b < a
    · rw [show cmpI a b = 1 by simp [cmpI, h1, h2]]
      go_enter Tryd.func57, Tryd.ntmps57
      go_wp2_with (go_at_call 72; refine (nan8_any _ _).mono ?_; rintro e w' ⟨rfl, rfl⟩)
      go_ret
      exact ⟨rfl, rfl⟩
    · rw [show cmpI a b = 0 by simp [cmpI, h1, h2]]
      go_enter Tryd.func57, Tryd.ntmps57
      go_wp2_with (go_at_call 72; refine (nan8_any _ _).mono ?_; rintro e w' ⟨rfl, rfl⟩)
      go_ret
      exact ⟨rfl, rfl⟩
set_option maxHeartbeats 400000 in
theorem cmp32_any (a b : Int) (w : World) : Calls Tryd.prog 58 #[.int .u32 a, .int .u32 b] w fun e w' => e = .returned (.int .i64 (cmpI a b)) ∧ w' = w := by
  by_cases h1 : a < b
  · rw [show cmpI a b = -1 by simp [cmpI, h1]]
    go_enter Tryd.func58, Tryd.ntmps58
    go_wp2_with (go_at_call 73; refine (nan32_any _ _).mono ?_; rintro e w' ⟨rfl, rfl⟩)
    go_ret
    exact ⟨rfl, rfl⟩
  · by_cases h2 : b < a
    · rw [show cmpI a b = 1 by simp [cmpI, h1, h2]]
      go_enter Tryd.func58, Tryd.ntmps58
      go_wp2_with (go_at_call 73; refine (nan32_any _ _).mono ?_; rintro e w' ⟨rfl, rfl⟩)
      go_ret
      exact ⟨rfl, rfl⟩
    · rw [show cmpI a b = 0 by simp [cmpI, h1, h2]]
      go_enter Tryd.func58, Tryd.ntmps58
      go_wp2_with (go_at_call 73; refine (nan32_any _ _).mono ?_; rintro e w' ⟨rfl, rfl⟩)
      go_ret
      exact ⟨rfl, rfl⟩

/-- the closure that sorts: by Rep, then by From -/
def cmpR (x y : Rn) : Int := if x.r = y.r then cmpI x.lo y.lo else cmpI x.r y.r

set_option maxHeartbeats 400000 in
theorem ordC_any (r lo hi r' lo' hi' : Int) (w : World) :
    Calls Tryd.prog 56 #[.agg #[.int .u8 r, .int .u32 lo, .int .u32 hi], .agg #[.int .u8 r', .int .u32 lo', .int .u32 hi']] w fun e w' => e = .returned (.int .i64 (cmpR ⟨r, lo, hi⟩ ⟨r', lo', hi'⟩)) ∧ w' = (w.alloc (.cells #[.int .u8 r, .int .u32 lo, .int .u32 hi] 51)).alloc (.cells #[.int .u8 r', .int .u32 lo', .int .u32 hi'] 51) := by
  by_cases h1 : r = r'
  · subst h1
    have c := fun W => cmp32_any lo lo' W
    rw [show cmpR ⟨r, lo, hi⟩ ⟨r, lo', hi'⟩ = cmpI lo lo' by simp [cmpR]]
    generalize cmpI lo lo' = q at c ⊢
    go_enter Tryd.func56, Tryd.ntmps56
    go_wp2_with (go_at_call 58; refine (c _).mono ?_; rintro e w' ⟨rfl, rfl⟩)
    go_ret
    exact ⟨rfl, rfl⟩
  · have c := fun W => cmp8_any r r' W
    rw [show cmpR ⟨r, lo, hi⟩ ⟨r', lo', hi'⟩ = cmpI r r' by simp [cmpR, h1]]
    generalize cmpI r r' = q at c ⊢
    have h1' : (r != r') = true := by simp [h1]
    go_enter Tryd.func56, Tryd.ntmps56
    go_wp2_with (go_at_call 57; refine (c _).mono ?_; rintro e w' ⟨rfl, rfl⟩)
    go_ret
    exact ⟨rfl, rfl⟩

end Go.Proofs.YtfjaeohfigcciaaDoor

