/- The contracts of item.Cmp, of the reference's Less and Cmp: one order of versions. -/
import Derived.Test.YtfjaeohfigcciaaDoorISmall
import Derived.Deep.DrawnRows
namespace Go.Proofs.YtfjaeohfigcciaaDoor
open Go.RowKit
attribute [local go_sem ↓] Go.wp_at_zero Go.wp_at_succ

def orI (a b c : Int) : Int := if a = 0 then (if b = 0 then c else b) else a
theorem or_cmp (a b : Vr) : orI (icmpI a.stamp b.stamp) (icmpI a.rep b.rep) (icmpI a.seq b.seq) = cmpV a b := by
  simp only [orI, icmpI, cmpV, ltV, decide_eq_true_eq]
  repeat' split
  all_goals omega

theorem or_new (w : World) (a b c : Int) : Calls Tryd.prog 75 #[.slice (some ⟨w.heap.size, 0, none⟩) 3 3] (w.alloc (.cells #[.int .i64 a, .int .i64 b, .int .i64 c] 3)).drew fun e w' => e = .returned (.int .i64 (orI a b c)) ∧ w' = (w.alloc (.cells #[.int .i64 a, .int .i64 b, .int .i64 c] 3)).drew :=
  cmpOr_any _ a b c _ (by simp) (by simp) (by simp)

set_option maxHeartbeats 2000000 in
theorem iCmp_any (r q t r' q' t' : Int) (w : World) :
    Calls Tryd.prog 65 #[.agg #[.int .u8 r, .int .u32 q, .int .u32 t], .agg #[.int .u8 r', .int .u32 q', .int .u32 t']] w fun e w' => e = .returned (.int .i64 (cmpV ⟨r, q, t⟩ ⟨r', q', t'⟩)) ∧ Below w.heap.size w w' := by
  have hO := or_cmp ⟨r, q, t⟩ ⟨r', q', t'⟩
  simp only at hO
  rw [← hO]; clear hO
  go_enter Tryd.func65, Tryd.ntmps65
  go_wp2_with fail
  generalize hwq : (w.alloc (.cells #[.int .u8 r, .int .u32 q, .int .u32 t] 40)).alloc (.cells #[.int .u8 r', .int .u32 q', .int .u32 t'] 40) = wq
  have c0 : wq.cell? ⟨w.heap.size, 0, none⟩ = some (.int .u8 r) := by rw [← hwq]; simp
  have c1 : wq.cell? ⟨w.heap.size, 1, none⟩ = some (.int .u32 q) := by rw [← hwq]; simp
  have c2 : wq.cell? ⟨w.heap.size, 2, none⟩ = some (.int .u32 t) := by rw [← hwq]; simp
  have d0 : wq.cell? ⟨w.heap.size + 1, 0, none⟩ = some (.int .u8 r') := by rw [← hwq]; simp
  have d1 : wq.cell? ⟨w.heap.size + 1, 1, none⟩ = some (.int .u32 q') := by rw [← hwq]; simp
  have d2 : wq.cell? ⟨w.heap.size + 1, 2, none⟩ = some (.int .u32 t') := by rw [← hwq]; simp
  have hb : Below w.heap.size w wq := by rw [← hwq]; exact al2 _ _ _
  clear hwq
  have HB := Lib.hid hb; clear hb
  go_region_held3 (fun w' => w'.cell? ⟨w.heap.size, 0, none⟩ = some (.int .u8 r) ∧ w'.cell? ⟨w.heap.size, 1, none⟩ = some (.int .u32 q) ∧ w'.cell? ⟨w.heap.size, 2, none⟩ = some (.int .u32 t) ∧ w'.cell? ⟨w.heap.size + 1, 0, none⟩ = some (.int .u8 r') ∧ w'.cell? ⟨w.heap.size + 1, 1, none⟩ = some (.int .u32 q') ∧ w'.cell? ⟨w.heap.size + 1, 2, none⟩ = some (.int .u32 t')) (first | go_keep | exact ⟨c0, c1, c2, d0, d1, d2⟩)
    (first | (go_at_call 57; refine (icmp8_any _ _ _).mono ?_; rintro e w' ⟨rfl, rfl⟩) | (go_at_call 58; refine (icmp32_any _ _ _).mono ?_; rintro e w' ⟨rfl, rfl⟩) | (go_at_call 75; refine (or_new _ _ _ _).mono ?_; rintro e w' ⟨rfl, rfl⟩))
  go_wp2
  go_ret
  exact ⟨rfl, (HB.out.alloc HB.out.size _).drew⟩

set_option maxHeartbeats 400000 in
theorem rLess_any (r q t r' q' t' : Int) (w : World) :
    Calls Tryd.prog 46 #[.agg #[.int .u8 r, .int .u32 q, .int .u32 t], .agg #[.int .u8 r', .int .u32 q', .int .u32 t']] w fun e w' => e = .returned (.bool (ltV ⟨r, q, t⟩ ⟨r', q', t'⟩)) ∧ Below w.heap.size w w' := by
  by_cases h1 : t = t'
  · subst h1
    by_cases h2 : r = r'
    · subst h2
      rw [show ltV ⟨r, q, t⟩ ⟨r, q', t⟩ = decide (q < q') by simp [ltV]]
      go_enter Tryd.func46, Tryd.ntmps46
      go_wp2
      go_ret
      exact ⟨rfl, al2 _ _ _⟩
    · have h2' : (r != r') = true := by simp [h2]
      rw [show ltV ⟨r, q, t⟩ ⟨r', q', t⟩ = decide (r < r') by simp [ltV, h2]]
      clear h2
      go_enter Tryd.func46, Tryd.ntmps46
      go_wp2
      go_ret
      exact ⟨rfl, al2 _ _ _⟩
  · have h1' : (t != t') = true := by simp [h1]
    rw [show ltV ⟨r, q, t⟩ ⟨r', q', t'⟩ = decide (t < t') by simp [ltV, h1]]
    clear h1
    go_enter Tryd.func46, Tryd.ntmps46
    go_wp2
    go_ret
    exact ⟨rfl, al2 _ _ _⟩

end Go.Proofs.YtfjaeohfigcciaaDoor
