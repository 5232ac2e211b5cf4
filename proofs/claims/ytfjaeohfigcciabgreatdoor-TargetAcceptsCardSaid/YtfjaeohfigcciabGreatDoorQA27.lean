/- Texts in one: PRef8. -/
import Derived.Test.YtfjaeohfigcciabGreatDoorQA21
set_option linter.all false
namespace Go.Proofs.YtfjaeohfigcciabGreatDoor
open Go.RowKit

theorem zeroP_v (w : World) (B : Nat) : RpV w B (.agg #[.int .u8 0,.int .u8 0,.int .u32 0,.int .u32 0,.slice none 0 0,.slice none 0 0,.bool false,.int .u32 0,.int .u8 0,.int .u8 0,.int .u32 0,.slice none 0 0,.int .u32 0]) zeroP := ⟨.slice none 0 0,.slice none 0 0,.slice none 0 0,rfl,Sl.nil _ _,ESl.nil _ _,Sl.nil _ _,by unfold Rp.ok Ss.ok zeroP; simp⟩

end Go.Proofs.YtfjaeohfigcciabGreatDoor

