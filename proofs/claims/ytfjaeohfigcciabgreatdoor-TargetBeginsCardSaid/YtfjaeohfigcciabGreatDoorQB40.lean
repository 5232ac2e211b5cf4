/- Texts in one: TC12. -/
import Derived.Test.YtfjaeohfigcciabGreatDoorQB39
set_option linter.unusedVariables false
set_option linter.unusedSimpArgs false
set_option linter.unusedSectionVars false
set_option linter.unnecessarySimpa false
namespace Go.Proofs.YtfjaeohfigcciabGreatDoor
open Go.RowKit

theorem tRight_said : RightSaid 17 := fun v r w hv hs => pRight_any v r w hv (Nat.le_trans hs.1 (by decide)) (Nat.le_trans hs.2.1 (by decide)) (Nat.le_trans hs.2.2 (by decide))
end Go.Proofs.YtfjaeohfigcciabGreatDoor

