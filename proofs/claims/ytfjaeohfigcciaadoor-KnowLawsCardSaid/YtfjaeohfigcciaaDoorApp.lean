/- append onto a slice of the call's own, and the contracts of know.withinLimit and know.around. -/
import Derived.Test.YtfjaeohfigcciaaDoorHas
import Derived.Test.YtfjaeohfigcciaaDoorRApp
namespace Go.Proofs.YtfjaeohfigcciaaDoor
open Go.RowKit Go.Sort

set_option maxHeartbeats 400000 in
theorem within_yes (A : Option Addr) (n c : Nat) (w : World) (h : n ≤ 64) :
    Calls Tryd.prog 30 #[.slice A n c] w fun e w' => e = .returned (.tuple #[.slice A n c, .nilIface]) ∧ w' = w := by
  go_enter Tryd.func30, Tryd.ntmps30
  go_wp2
  go_ret2
  exact ⟨rfl, rfl⟩
set_option maxHeartbeats 400000 in
theorem within_no (A : Option Addr) (n c : Nat) (w : World) (h : 64 < n) (hn : n ≤ 1000) :
    Calls Tryd.prog 30 #[.slice A n c] w fun e w' => e = .returned (.tuple #[.slice none 0 0, .iface 53 (.int .i64 5)]) ∧ w' = w := by
  go_enter Tryd.func30, Tryd.ntmps30
  go_wp2
  go_ret2
  exact ⟨rfl, rfl⟩
end Go.Proofs.YtfjaeohfigcciaaDoor

