/- Texts in one: PRef7. -/
import Derived.Test.YtfjaeohfigcciabGreatDoorQF22
import Derived.Test.YtfjaeohfigcciabGreatDoorQF25
set_option linter.unusedVariables false
set_option linter.unusedSimpArgs false
set_option linter.unusedSectionVars false
set_option linter.unnecessarySimpa false
namespace Go.Proofs.YtfjaeohfigcciabGreatDoor
open Go.RowKit

def beginP (r : Rp) (src : Int) : Rp := ⟨r.rep, r.flt, r.epoch, r.seq, r.know, r.held, ⟨true, r.ses.last + 1, src, 0, 0, [], r.ses.last + 1⟩⟩
def zeroP : Rp := ⟨0, 0, 0, 0, [], [], ⟨false, 0, 0, 0, 0, [], 0⟩⟩
/-- what Begin tells: a replica, a Pull, a code -/
def beginR (r : Rp) (src : Int) : Rp × Nt × Int :=
  if rpB r = false ∨ 7 < src ∨ src = r.rep then (zeroP, zeroN, 9) else if r.ses.last = 4294967295 then (zeroP, zeroN, 5) else (beginP r src, pullP (beginP r src), 0)
theorem results_two_rows {P : Program} {fn : Func} {p1 p2 q : Tmp} {ty1 ty2 : TypeId} (h : fn.results = #[.cell p1 ty1, .cell p2 ty2, .tmp q]) (tmps : Array Value) (w : World) (g1 g2 : Nat) (t1 t2 : TypeId) (c1 c2 : Array Value) (f1 f2 : Nat × Nat) (d1 d2 : TypeDesc)
    (hp1 : tmps.getD p1 undef = .pointer (some ⟨g1, 0, none⟩)) (hp2 : tmps.getD p2 undef = .pointer (some ⟨g2, 0, none⟩)) (hg1 : w.heap[g1]? = some (.cells c1 t1 f1)) (hg2 : w.heap[g2]? = some (.cells c2 t2 f2))
    (hu1 : P.underlying ty1 = some d1) (hu2 : P.underlying ty2 = some d2) (hd1 : (match d1 with | .struct _ | .array _ _ => true | _ => false) = true) (hd2 : (match d2 with | .struct _ | .array _ _ => true | _ => false) = true)
    (hi1 : (P.info? ty1).map (·.size) = some c1.size) (hi2 : (P.info? ty2).map (·.size) = some c2.size) :
    (results fn tmps).run P w = .ok (.tuple #[.agg c1, .agg c2, tmps.getD q undef]) w := by
  have hp1' : tmps[p1]?.getD undef = .pointer (some ⟨g1, 0, none⟩) := by simpa using hp1
  have hp2' : tmps[p2]?.getD undef = .pointer (some ⟨g2, 0, none⟩) := by simpa using hp2
  simp [results, h, hp1', hp2', asAddr, run_loadVar_row w g1 t1 ty1 c1 f1 d1 hg1 hu1 hd1 hi1, run_loadVar_row w g2 t2 ty2 c2 f2 d2 hg2 hu2 hd2 hi2]
theorem begin_ok {r : Rp} (h : r.ok) {src : Int} (hs : 0 ≤ src ∧ src ≤ 255) (hl : r.ses.last < 4294967295) : (beginP r src).ok := by
  obtain ⟨h1, h2, h3, h4, h5, h6, g1, g2, g3, g4, g5, g6⟩ := h
  have z : ∀ n : Int, 0 ≤ n → (0 : Int) ≤ 0 ∧ (0 : Int) ≤ n := fun n h => ⟨Int.le_refl 0, h⟩
  have hn : 0 ≤ r.ses.last + 1 ∧ r.ses.last + 1 ≤ 4294967295 := by omega
  exact ⟨h1, h2, h3, h4, h5, h6, hn, hs, z _ (by decide), z _ (by decide), (fun x hx => by cases hx), hn⟩

end Go.Proofs.YtfjaeohfigcciabGreatDoor

