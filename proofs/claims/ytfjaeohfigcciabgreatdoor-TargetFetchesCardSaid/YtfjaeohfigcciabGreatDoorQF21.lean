/- Texts in one: PRef5. -/
import Derived.Test.YtfjaeohfigcciabGreatDoorQF20
import Derived.Test.YtfjaeohfigcciabGreatDoorQF00
import Derived.Test.YtfjaeohfigcciabGreatDoorQF06
import Derived.Test.YtfjaeohfigcciabGreatDoorQF11
set_option linter.unusedVariables false
set_option linter.unusedSimpArgs false
set_option linter.unusedSectionVars false
set_option linter.unnecessarySimpa false
namespace Go.Proofs.YtfjaeohfigcciabGreatDoor
open Go.RowKit

theorem q5Right_any (v : Value) (r : Rp) (w : World) (hv : RpV w w.heap.size v r) (h1 : r.know.length ≤ 1000) (h2 : r.held.length ≤ 1000) (h3 : r.ses.offer.length ≤ 1000) :
    Calls Tryz.prog 23 #[v] w fun e w' => e = .returned (.bool (rpB r)) ∧ Below w.heap.size w w' := by
  cases h : headR r
  · exact q5Right_head v r w hv h1 h2 h3 h
  · exact q5Right_rest v r w hv h1 h2 h3 h

end Go.Proofs.YtfjaeohfigcciabGreatDoor

