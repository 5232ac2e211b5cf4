/- The contract of the reference's Same at entries that are alike. -/
import Derived.Test.YtfjaeohfigcciabZg
namespace Go.Proofs.Ytfjaeohfigcciab
open Go.RowKit

set_option maxHeartbeats 2000000 in
/-- Same of what is alike -/
theorem rSame_yes (v1 v2 : Value) (zs : List En) (w : World) (h1 : ESl w w.heap.size v1 zs) (h2 : ESl w w.heap.size v2 zs) (hz : zs.length ≤ 10000) :
    Calls Try.prog 12 #[v1, v2] w fun e w' => e = .returned (.bool true) ∧ Below w.heap.size w w' := by
  obtain ⟨A, c, rfl, g1, g2, hA⟩ := h1
  obtain ⟨A', c', rfl, g3, g4, hA'⟩ := h2
  clear g1 g2 g3 g4
  have HA := Lib.hid hA; clear hA
  have HA' := Lib.hid hA'; clear hA'
  go_enter Try.func12, Try.ntmps12
  go_wp2
  go_loopw [5] (fun i wr => ∃ k : Nat, i = .int .i64 k ∧ k ≤ zs.length ∧ Hid (Below w.heap.size w wr)) (fun i _ => zs.length - (intOf i).toNat)
  case atStart => exact ⟨0, rfl, by omega, Lib.hid (Below.refl _ _)⟩
  case round =>
    obtain ⟨k, rfl, hk, HB⟩ := hrel
    by_cases hlt : k < zs.length
    · obtain ⟨b, off, rfl, hbw, hc⟩ := HA.out (by intro h; simp [h] at hlt)
      obtain ⟨b', off', rfl, hbw', hc'⟩ := HA'.out (by intro h; simp [h] at hlt)
      have hxk : zs[k]? = some zs[k] := List.getElem?_eq_getElem hlt
      generalize zs[k] = x at hxk
      obtain ⟨c0, c1, c2, c3, c4, c5, c6⟩ := ((hc k x hxk).keep HB.out hbw).all
      obtain ⟨d0, d1, d2, d3, d4, d5, d6⟩ := ((hc' k x hxk).keep HB.out hbw').all
      clear hc hc' hxk
      go_wp2_with fail
      go_quiet (fail)
      go_wp2
      go_roundw
      case rel => exact ⟨k + 1, by go_num, by omega, Lib.hid ⟨HB.out.os, HB.out.tape, HB.out.output, HB.out.size, HB.out.block⟩⟩
      case measure => simp [intOf]; omega
    · go_wp2
      go_ret
      exact ⟨rfl, HB.out⟩

end Go.Proofs.Ytfjaeohfigcciab

