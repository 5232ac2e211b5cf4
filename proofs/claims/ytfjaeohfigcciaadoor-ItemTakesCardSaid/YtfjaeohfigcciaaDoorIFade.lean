/- The contracts of item.Fade, and of the reference's Fade. -/
import Derived.Test.YtfjaeohfigcciaaDoorIIn
namespace Go.Proofs.YtfjaeohfigcciaaDoor
open Go.RowKit

set_option maxHeartbeats 1000000 in
theorem iFade_any (x : En) (w : World) :
    Calls Tryd.prog 39 #[x.agg] w fun e w' => e = .returned (fadeE x).agg ∧ Below w.heap.size w w' := by
  obtain ⟨id, rep, seq, stamp, kind, cls, val⟩ := x
  by_cases h1 : kind = 1
  · subst h1
    rw [show fadeE ⟨id, rep, seq, stamp, 1, cls, val⟩ = ⟨id, rep, seq, stamp, 2, cls, 0⟩ by simp [fadeE]]
    simp only [En.agg]
    go_enter Tryd.func39, Tryd.ntmps39
    go_wp2
    exact bodyPost_ret (v := .agg #[.int .u8 id, .int .u8 rep, .int .u32 seq, .int .u32 stamp, .int .i64 2, .int .u8 cls, .int .u32 0]) (by simp [results, Tryd.results39, go_sem]) rfl ⟨rfl, al2 _ _ _⟩
  · have h1' : (kind != 1) = true := by simp [h1]
    rw [show fadeE ⟨id, rep, seq, stamp, kind, cls, val⟩ = ⟨id, rep, seq, stamp, kind, cls, val⟩ by simp [fadeE, h1]]
    clear h1
    simp only [En.agg]
    go_enter Tryd.func39, Tryd.ntmps39
    go_wp2
    exact bodyPost_ret (v := .agg #[.int .u8 id, .int .u8 rep, .int .u32 seq, .int .u32 stamp, .int .i64 kind, .int .u8 cls, .int .u32 val]) (by simp [results, Tryd.results39, go_sem]) rfl ⟨rfl, al2 _ _ _⟩

end Go.Proofs.YtfjaeohfigcciaaDoor
