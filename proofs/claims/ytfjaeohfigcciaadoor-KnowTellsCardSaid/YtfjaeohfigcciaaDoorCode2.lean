/- The contract of the law's Code at an error that is a code. -/
import Derived.Test.YtfjaeohfigcciaaDoorCode
import Derived.Lib.Hide
namespace Go.Proofs.YtfjaeohfigcciaaDoor
open Go.RowKit

theorem below_set {B : Nat} {w w' : World} (h : Below B w w') {a : Addr} (ha : B ≤ a.block) (v : Value) : Below B w (w'.setCell a v) := h.setCell ha v

theorem as_code' (c : Int) (w : World) (hg : ErrVar w) :
    Calls Tryd.prog 35 #[.iface 53 (.int .i64 c), .iface 61 (.pointer (some ⟨w.heap.size, 0, none⟩))] (w.alloc (.cells #[.int .i64 0] 53)) fun ev w' => ev = .returned (.bool true) ∧ w'.cell? ⟨w.heap.size, 0, none⟩ = some (.int .i64 c) ∧ Below w.heap.size w w' := by
  have hb0 : Below w.heap.size w (w.alloc (.cells #[.int .i64 0] 53)) := (Below.refl _ w).alloc (Nat.le_refl _) _
  have h1 : (w.alloc (.cells #[.int .i64 0] 53)).heap.size = w.heap.size + 1 := by simp
  have hc1 : (w.alloc (.cells #[.int .i64 0] 53)).cell? ⟨w.heap.size, 0, none⟩ = some (.int .i64 0) := by simp
  have hf1 : (w.alloc (.cells #[.int .i64 0] 53)).frozen? ⟨w.heap.size, 0, none⟩ = false := by simp
  have hgv : ErrVar (w.alloc (.cells #[.int .i64 0] 53)) := hg.below hb0 hg.pos
  generalize w.alloc (.cells #[.int .i64 0] 53) = W at *
  refine (as_code c ⟨w.heap.size, 0, none⟩ (.int .i64 0) W hgv hc1 hf1).mono fun ev w' ⟨he, hw⟩ => ⟨he, ?_, ?_⟩
  · rw [hw]
    refine World.cell?_setCell_same _ _ _ (u := .int .i64 0) ?_
    rw [World.cell?_alloc_lt _ _ _ (by simp; omega), World.cell?_alloc_lt _ _ _ (by simp; omega), World.cell?_alloc_lt _ _ _ (by simp; omega), World.cell?_alloc_lt _ _ _ (by simp; omega)]
    exact hc1
  · rw [hw]
    exact below_set ((((hb0.alloc (by omega) _).alloc (by simp; omega) _).alloc (by simp; omega) _).alloc (by simp; omega) _) (by simp) _

set_option maxHeartbeats 1000000 in
theorem code_some (c : Int) (w : World) (hc : 0 < c) (hg : ErrVar w) : Calls Tryd.prog 16 #[.iface 53 (.int .i64 c)] w fun e w' => e = .returned (.int .i64 c) ∧ Below w.heap.size w w' := by
  have ha := as_code' c w hg
  have HA := Lib.hid ha; clear ha hg
  go_enter Tryd.func16, Tryd.ntmps16
  go_wp2_with fail
  refine (HA.out).mono ?_
  rintro e w1 ⟨rfl, hc1, hb1⟩
  go_wp2_with fail
  go_ret
  exact ⟨rfl, hb1⟩

/-- the code of what came back -/
def codeOf : Except Int (List Rn) → Int
  | .ok _ => 0
  | .error c => c
end Go.Proofs.YtfjaeohfigcciaaDoor

