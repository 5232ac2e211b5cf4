/- Texts in one: TSaid, Code2, TErr0. -/
import Derived.Lib.Hide
import Derived.Test.YtfjaeohfigcciabGreatDoorQB33
import Derived.Test.YtfjaeohfigcciabGreatDoorQB28
import Derived.Test.YtfjaeohfigcciabGreatDoorQB15
import Derived.Test.YtfjaeohfigcciabGreatDoorQB34
import Derived.Test.YtfjaeohfigcciabGreatDoorQB09
set_option linter.unusedVariables false
set_option linter.unusedSimpArgs false
set_option linter.unusedSectionVars false
set_option linter.unnecessarySimpa false
namespace Go.Proofs.YtfjaeohfigcciabGreatDoor
open Go.RowKit

/-- an error is that code (0: none), now and in whatever world comes later -/
def ErrIs (W : World) (ev : Value) (c : Int) : Prop := ((c = 0 ∧ ev = .nilIface) ∨ (c ≠ 0 ∧ ∃ t u, ev = .iface t u)) ∧ ∀ W', Below W.heap.size W W' → Calls Tryz.prog 11 #[ev] W' fun e w' => e = .returned (.int .i64 c) ∧ Below W'.heap.size W' w'
theorem ErrIs.later {W W' : World} {ev : Value} {c : Int} (h : ErrIs W ev c) (hb : Below W.heap.size W W') : ErrIs W' ev c := ⟨h.1, fun W2 h2 => h.2 W2 (hb.trans (h2.mono hb.size))⟩
theorem ErrVar.later {W W' : World} (h : ErrVar W) (hb : Below W.heap.size W W') : ErrVar W' := h.below hb h.pos
def AwakeSaidE (f : FuncId) : Prop := ∀ w, ErrVar w → Calls Tryz.prog f #[] w fun e w' => e = .returned (.bool true) ∧ Below w.heap.size w w'
def BeginSaid (f : FuncId) : Prop := ∀ v src r w, ErrVar w → RpV w w.heap.size v r → 0 ≤ src ∧ src ≤ 255 → shortR r → Calls Tryz.prog f #[v, .int .u8 src] w fun e w' =>
  ∃ v1 v2 ev, e = .returned (.tuple #[v1, v2, ev]) ∧ RpV w' w'.heap.size v1 (beginR r src).1 ∧ NtV w' w'.heap.size v2 (beginR r src).2.1 ∧ ErrIs w' ev (beginR r src).2.2 ∧ Below w.heap.size w w'
def againR (r : Rp) : Nt := if onR r = 0 then pullP r else zeroN
def quitR (r : Rp) : Rp := if onR r = 0 then offP r else zeroP
def AgainSaid (f : FuncId) : Prop := ∀ v r w, ErrVar w → RpV w w.heap.size v r → shortR r → Calls Tryz.prog f #[v] w fun e w' => ∃ v1 ev, e = .returned (.tuple #[v1, ev]) ∧ NtV w' w'.heap.size v1 (againR r) ∧ ErrIs w' ev (onR r) ∧ Below w.heap.size w w'
def QuitSaid (f : FuncId) : Prop := ∀ v r w, ErrVar w → RpV w w.heap.size v r → shortR r → Calls Tryz.prog f #[v] w fun e w' => ∃ v1 ev, e = .returned (.tuple #[v1, ev]) ∧ RpV w' w'.heap.size v1 (quitR r) ∧ ErrIs w' ev (onR r) ∧ Below w.heap.size w w'
def RightSaid (f : FuncId) : Prop := ∀ v r w, RpV w w.heap.size v r → shortR r → Calls Tryz.prog f #[v] w fun e w' => e = .returned (.bool (rpB r)) ∧ Below w.heap.size w w'
def AcceptSaid (f : FuncId) : Prop := ∀ v u r b w, ErrVar w → RpV w w.heap.size v r → NtV w w.heap.size u b → shortR r → shortN b → Calls Tryz.prog f #[v, u] w fun e w' =>
  ∃ v1 v2 ev, e = .returned (.tuple #[v1, v2, .bool (acceptR r b).more, ev]) ∧ RpV w' w'.heap.size v1 (acceptR r b).r ∧ NtV w' w'.heap.size v2 (acceptR r b).p ∧ ErrIs w' ev (acceptR r b).code ∧ Below w.heap.size w w' ∧
    ∀ P : Nat → Prop, RpAv P v r → NtAv P u b → RpAv (fun k => P k ∨ w.heap.size ≤ k) v1 (acceptR r b).r ∧ NtAv (fun k => P k ∨ w.heap.size ≤ k) v2 (acceptR r b).p
end Go.Proofs.YtfjaeohfigcciabGreatDoor

namespace Go.Proofs.YtfjaeohfigcciabGreatDoor
open Go.RowKit

theorem below_set {B : Nat} {w w' : World} (h : Below B w w') {a : Addr} (ha : B ≤ a.block) (v : Value) : Below B w (w'.setCell a v) := h.setCell ha v

theorem as_code' (c : Int) (w : World) (hg : ErrVar w) :
    Calls Tryz.prog 42 #[.iface 74 (.int .i64 c), .iface 82 (.pointer (some ⟨w.heap.size, 0, none⟩))] (w.alloc (.cells #[.int .i64 0] 74)) fun ev w' => ev = .returned (.bool true) ∧ w'.cell? ⟨w.heap.size, 0, none⟩ = some (.int .i64 c) ∧ Below w.heap.size w w' := by
  have hb0 : Below w.heap.size w (w.alloc (.cells #[.int .i64 0] 74)) := (Below.refl _ w).alloc (Nat.le_refl _) _
  have h1 : (w.alloc (.cells #[.int .i64 0] 74)).heap.size = w.heap.size + 1 := by simp
  have hc1 : (w.alloc (.cells #[.int .i64 0] 74)).cell? ⟨w.heap.size, 0, none⟩ = some (.int .i64 0) := by simp
  have hf1 : (w.alloc (.cells #[.int .i64 0] 74)).frozen? ⟨w.heap.size, 0, none⟩ = false := by simp
  have hgv : ErrVar (w.alloc (.cells #[.int .i64 0] 74)) := hg.below hb0 hg.pos
  generalize w.alloc (.cells #[.int .i64 0] 74) = W at *
  refine (as_code c ⟨w.heap.size, 0, none⟩ (.int .i64 0) W hgv hc1 hf1).mono fun ev w' ⟨he, hw⟩ => ⟨he, ?_, ?_⟩
  · rw [hw]
    refine World.cell?_setCell_same _ _ _ (u := .int .i64 0) ?_
    rw [World.cell?_alloc_lt _ _ _ (by simp; omega), World.cell?_alloc_lt _ _ _ (by simp; omega), World.cell?_alloc_lt _ _ _ (by simp; omega), World.cell?_alloc_lt _ _ _ (by simp; omega)]
    exact hc1
  · rw [hw]
    exact below_set ((((hb0.alloc (by omega) _).alloc (by simp; omega) _).alloc (by simp; omega) _).alloc (by simp; omega) _) (by simp) _

set_option maxHeartbeats 1000000 in
theorem code_some (c : Int) (w : World) (hc : 0 < c) (hg : ErrVar w) : Calls Tryz.prog 11 #[.iface 74 (.int .i64 c)] w fun e w' => e = .returned (.int .i64 c) ∧ Below w.heap.size w w' := by
  have ha := as_code' c w hg
  have HA := Lib.hid ha; clear ha hg
  go_enter Tryz.func11, Tryz.ntmps11
  go_wp2_with fail
  refine (HA.out).mono ?_
  rintro e w1 ⟨rfl, hc1, hb1⟩
  go_wp2_with fail
  go_ret
  exact ⟨rfl, hb1⟩

end Go.Proofs.YtfjaeohfigcciabGreatDoor

namespace Go.Proofs.YtfjaeohfigcciabGreatDoor
open Go.RowKit

theorem err_is {W : World} {c : Int} (hc : 0 < c) (hg : ErrVar W) : ErrIs W (.iface 74 (.int .i64 c)) c := ⟨.inr ⟨by omega, _, _, rfl⟩, fun W' hb => code_some c W' hc (hg.later hb)⟩
theorem err_none (W : World) : ErrIs W .nilIface 0 := ⟨.inl ⟨rfl, rfl⟩, fun W' _ => (code_nil W').mono fun _ _ ⟨he, hw⟩ => ⟨he, by rw [hw]; exact Below.refl _ _⟩⟩
end Go.Proofs.YtfjaeohfigcciabGreatDoor

