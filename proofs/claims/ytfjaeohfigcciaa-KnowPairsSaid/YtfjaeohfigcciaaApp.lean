/- append onto a slice of the call's own, and the contracts of know.withinLimit and know.around. -/
import Derived.Test.YtfjaeohfigcciaaHas
import Derived.Test.YtfjaeohfigcciaaRApp
namespace Go.Proofs.Ytfjaeohfigcciaa
open Go.RowKit Go.Sort

set_option maxHeartbeats 400000 in
theorem within_yes (A : Option Addr) (n c : Nat) (w : World) (h : n ≤ 64) :
    Calls Try.prog 32 #[.slice A n c] w fun e w' => e = .returned (.tuple #[.slice A n c, .nilIface]) ∧ w' = w := by
  go_enter Try.func32, Try.ntmps32
  go_wp2
  go_ret2
  exact ⟨rfl, rfl⟩
set_option maxHeartbeats 400000 in
theorem within_no (A : Option Addr) (n c : Nat) (w : World) (h : 64 < n) (hn : n ≤ 1000) :
    Calls Try.prog 32 #[.slice A n c] w fun e w' => e = .returned (.tuple #[.slice none 0 0, .iface 57 (.int .i64 5)]) ∧ w' = w := by
  go_enter Try.func32, Try.ntmps32
  go_wp2
  go_ret2
  exact ⟨rfl, rfl⟩
end Go.Proofs.Ytfjaeohfigcciaa

