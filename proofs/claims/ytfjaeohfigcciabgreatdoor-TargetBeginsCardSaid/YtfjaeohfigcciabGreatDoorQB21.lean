/- Texts in one: PRef6. -/
import Derived.Test.YtfjaeohfigcciabGreatDoorQB20
set_option linter.unusedVariables false
set_option linter.unusedSimpArgs false
set_option linter.unusedSectionVars false
set_option linter.unnecessarySimpa false
namespace Go.Proofs.YtfjaeohfigcciabGreatDoor
open Go.RowKit

def offP (r : Rp) : Rp := ⟨r.rep, r.flt, r.epoch, r.seq, r.know, r.held, ⟨false, 0, 0, 0, 0, [], r.ses.last⟩⟩
def pullP (r : Rp) : Nt := ⟨1, r.rep, r.ses.src, r.ses.num, r.ses.cur, r.flt, r.know, 0, [], 0, false, []⟩
theorem rep_size : (Tryz.prog.info? 28).map (·.size) = some 13 := by kernel_rfl
theorem off_ok {r : Rp} (h : r.ok) : (offP r).ok := by
  obtain ⟨h1, h2, h3, h4, h5, h6, g1, g2, g3, g4, g5, g6⟩ := h
  have z : ∀ n : Int, 0 ≤ n → (0 : Int) ≤ 0 ∧ (0 : Int) ≤ n := fun n h => ⟨Int.le_refl 0, h⟩
  exact ⟨h1, h2, h3, h4, h5, h6, z _ (by decide), z _ (by decide), z _ (by decide), z _ (by decide), (fun x hx => by cases hx), g6⟩
theorem pull_ok {r : Rp} (h : r.ok) : (pullP r).ok := by
  obtain ⟨h1, h2, h3, h4, h5, h6, g1, g2, g3, g4, g5, g6⟩ := h
  have z : ∀ n : Int, 0 ≤ n → (0 : Int) ≤ 0 ∧ (0 : Int) ≤ n := fun n h => ⟨Int.le_refl 0, h⟩
  exact ⟨(by show (-9223372036854775808 : Int) ≤ 1 ∧ (1 : Int) ≤ 9223372036854775807; decide), h1, g2, g1, g3, h2, h5, z _ (by decide), (fun x hx => by cases hx), z _ (by decide), (fun x hx => by cases hx)⟩

set_option maxHeartbeats 4000000 in
set_option maxRecDepth 100000 in
theorem q7Pull_val (r : Rp) (Ak Ah Ao : Option Addr) (ck ch co : Nat) (w : World) : Calls Tryz.prog 21 #[.agg (r.cells (.slice Ak r.know.length ck) (.slice Ah r.held.length ch) (.slice Ao r.ses.offer.length co))] w fun e w' =>
    e = .returned (.agg #[.int .i64 1, .int .u8 r.rep, .int .u8 r.ses.src, .int .u32 r.ses.num, .int .u8 r.ses.cur, .int .u8 r.flt, .slice Ak r.know.length ck, .int .u32 0, .slice none 0 0, .int .u8 0, .bool false, .slice none 0 0]) ∧ Below w.heap.size w w' := by
  unfold Rp.cells
  go_enter Tryz.func21, Tryz.ntmps21
  go_wp2_with fail
  refine bodyPost_ret (v := .agg #[.int .i64 1, .int .u8 r.rep, .int .u8 r.ses.src, .int .u32 r.ses.num, .int .u8 r.ses.cur, .int .u8 r.flt, .slice Ak r.know.length ck, .int .u32 0, .slice none 0 0, .int .u8 0, .bool false, .slice none 0 0]) (results_cell_row Tryz.results21 _ _ (w.heap.size + 1) 30 _ (0, 0) _ rfl (blk_two w _ _ _).at_ Tryz.underlying30 rfl note_size) rfl ?_
  exact ⟨rfl, al2 w _ _⟩
set_option maxHeartbeats 4000000 in
set_option maxRecDepth 100000 in
theorem q7Off_val (r : Rp) (Ak Ah Ao : Option Addr) (ck ch co : Nat) (w : World) : Calls Tryz.prog 22 #[.agg (r.cells (.slice Ak r.know.length ck) (.slice Ah r.held.length ch) (.slice Ao r.ses.offer.length co))] w fun e w' =>
    e = .returned (.agg #[.int .u8 r.rep, .int .u8 r.flt, .int .u32 r.epoch, .int .u32 r.seq, .slice Ak r.know.length ck, .slice Ah r.held.length ch, .bool false, .int .u32 0, .int .u8 0, .int .u8 0, .int .u32 0, .slice none 0 0, .int .u32 r.ses.last]) ∧ Below w.heap.size w w' := by
  unfold Rp.cells
  go_enter Tryz.func22, Tryz.ntmps22
  go_wp2_with fail
  refine bodyPost_ret (v := .agg #[.int .u8 r.rep, .int .u8 r.flt, .int .u32 r.epoch, .int .u32 r.seq, .slice Ak r.know.length ck, .slice Ah r.held.length ch, .bool false, .int .u32 0, .int .u8 0, .int .u8 0, .int .u32 0, .slice none 0 0, .int .u32 r.ses.last]) (results_cell_row Tryz.results22 _ _ (w.heap.size + 1) 28 _ (0, 0) _ rfl ((blk_two w _ _ _).alloc _).at_ Tryz.underlying28 rfl rep_size) rfl ?_
  exact ⟨rfl, (al2 w _ _).trans ((al1 _ _).mono (al2 w _ _).size)⟩
end Go.Proofs.YtfjaeohfigcciabGreatDoor

