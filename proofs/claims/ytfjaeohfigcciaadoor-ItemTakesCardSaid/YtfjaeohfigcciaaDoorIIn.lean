/- The contracts of item.In and of the reference's In. -/
import Derived.Test.YtfjaeohfigcciaaDoorITake
namespace Go.Proofs.YtfjaeohfigcciaaDoor
open Go.RowKit

def inB (x : En) (f : Int) : Bool := decide (x.kind = 3) || decide ((f / 2 ^ x.cls.toNat) % 2 = 1)

theorem and1 : ∀ n : Fin 256, bits .and .u8 ((n.val : Nat) : Int) 1 = ((n.val : Nat) : Int) % 2 := by decide +kernel
theorem bit_and {y : Int} (h0 : 0 ≤ y) (h1 : y ≤ 255) : bits .and .u8 y 1 = y % 2 := by
  obtain ⟨n, rfl⟩ := Int.eq_ofNat_of_zero_le h0
  exact and1 ⟨n, by omega⟩
theorem shr_le {f : Int} (h0 : 0 ≤ f) (h1 : f ≤ 255) (c : Nat) : 0 ≤ f / 2 ^ c ∧ f / 2 ^ c ≤ 255 := by
  have hp : (0 : Int) < 2 ^ c := Int.pow_pos (by decide)
  refine ⟨Int.ediv_nonneg h0 (Int.le_of_lt hp), Int.le_trans (Int.ediv_le_self _ h0) h1⟩
theorem shr_min {f : Int} (h0 : 0 ≤ f) (h1 : f ≤ 255) (c : Nat) : f / 2 ^ min c 8 = f / 2 ^ c := by
  rcases Nat.lt_or_ge c 8 with h | h
  · rw [Nat.min_eq_left (by omega)]
  · rw [Nat.min_eq_right h]
    have e : (2 : Int) ^ c = 256 * 2 ^ (c - 8) := by
      rw [show c = 8 + (c - 8) by omega, Int.pow_add]
      simp
    have hp : (1 : Int) ≤ 2 ^ (c - 8) := Int.pow_pos (n := 2) (m := c - 8) (by decide)
    rw [Int.ediv_eq_zero_of_lt h0 (show f < 2 ^ 8 by omega), Int.ediv_eq_zero_of_lt h0 (by rw [e]; omega)]
theorem in_bit (id rep seq stamp kind cls val f : Int) (hk : (kind == 3) = false) (f1 : 0 ≤ f) (f2 : f ≤ 255) :
    (bits .and .u8 (f / 2 ^ min cls.toNat 8) 1 == 1) = inB ⟨id, rep, seq, stamp, kind, cls, val⟩ f := by
  have h3 : kind ≠ 3 := by simpa using hk
  rw [shr_min f1 f2, bit_and (shr_le f1 f2 _).1 (shr_le f1 f2 _).2, Bool.eq_iff_iff]
  simp [inB, h3]

set_option maxHeartbeats 1000000 in
theorem iIn_any (x : En) (f : Int) (w : World) (hx : x.ok) (hf : 0 ≤ f ∧ f ≤ 255) :
    Calls Tryd.prog 38 #[x.agg, .int .u8 f] w fun e w' => e = .returned (.bool (inB x f)) ∧ Below w.heap.size w w' := by
  obtain ⟨id, rep, seq, stamp, kind, cls, val⟩ := x
  obtain ⟨⟨i1, i2⟩, _, ⟨k1, k2⟩, ⟨c1, c2⟩, v1, v2⟩ := hx
  obtain ⟨f1, f2⟩ := hf
  simp only [En.agg] at *
  by_cases h3 : kind = 3
  · subst h3
    rw [show inB ⟨id, rep, seq, stamp, 3, cls, val⟩ f = true by simp [inB]]
    go_enter Tryd.func38, Tryd.ntmps38
    go_wp2
    go_ret
    exact ⟨rfl, al1 _ _⟩
  · have h3' : (kind == 3) = false := by simp [h3]
    clear h3
    go_enter Tryd.func38, Tryd.ntmps38
    go_wp2
    go_ret
    exact ⟨congrArg (fun b => Ending.returned (.bool b)) (in_bit id rep seq stamp kind cls val f h3' f1 f2), al1 _ _⟩

theorem half_step (f : Int) (k : Nat) : f / 2 ^ k / 2 = f / 2 ^ (k + 1) := by
  rw [Int.ediv_ediv_of_nonneg (Int.le_of_lt (Int.pow_pos (by decide))), Int.pow_succ]

end Go.Proofs.YtfjaeohfigcciaaDoor
