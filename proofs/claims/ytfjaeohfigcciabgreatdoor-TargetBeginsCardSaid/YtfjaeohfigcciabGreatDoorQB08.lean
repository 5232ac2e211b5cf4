/- Texts in one: NMem. -/
import Derived.Outline
import Derived.Test.YtfjaeohfigcciabGreatDoorQB03
import Derived.Test.YtfjaeohfigcciabGreatDoorQB06
import Derived.Test.YtfjaeohfigcciabGreatDoorQB07
set_option linter.unusedVariables false
set_option linter.unusedSimpArgs false
set_option linter.unusedSectionVars false
set_option linter.unnecessarySimpa false
namespace Go.Proofs.YtfjaeohfigcciabGreatDoor
open Go.RowKit

/-- the cells of a note whose lists are those values -/
def Nt.cells (n : Nt) (vk ve vo : Value) : Array Value := #[.int .i64 n.kind, .int .u8 n.src, .int .u8 n.dst, .int .u32 n.num, .int .u8 n.cur, .int .u8 n.flt, vk, .int .u32 n.epoch, ve, .int .u8 n.next, .bool n.done, vo]
/-- a value is a note -/
def NtV (w : World) (B : Nat) (v : Value) (n : Nt) : Prop := ∃ vk ve vo, v = .agg (n.cells vk ve vo) ∧ Sl w B vk n.know ∧ ESl w B ve n.ents ∧ Sl w B vo n.offer ∧ n.ok
theorem NtV.below {w w' : World} {B : Nat} {v : Value} {n : Nt} (h : NtV w B v n) (hb : Below B w w') : NtV w' B v n := by
  obtain ⟨vk, ve, vo, hv, h1, h2, h3, ho⟩ := h
  exact ⟨vk, ve, vo, hv, h1.below hb, h2.below hb, h3.below hb, ho⟩
theorem NtV.more {w : World} {B B' : Nat} {v : Value} {n : Nt} (h : NtV w B v n) (hB : B ≤ B') : NtV w B' v n := by
  obtain ⟨vk, ve, vo, hv, h1, h2, h3, ho⟩ := h
  exact ⟨vk, ve, vo, hv, h1.more hB, h2.more hB, h3.more hB, ho⟩
theorem NtV.later {w w' : World} {v : Value} {n : Nt} (h : NtV w w.heap.size v n) (hb : Below w.heap.size w w') : NtV w' w'.heap.size v n := (h.below hb).more hb.size

set_option maxHeartbeats 4000000 in

theorem ret_bool {a b : Bool} (h : a = b) : Ending.returned (.bool a) = .returned (.bool b) := by rw [h]
end Go.Proofs.YtfjaeohfigcciabGreatDoor

