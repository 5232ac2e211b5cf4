/- The contracts of item.In and of the reference's In. -/
import Derived.Test.YtfjaeohfigcciabZd
namespace Go.Proofs.Ytfjaeohfigcciab
open Go.RowKit

def inB (x : En) (f : Int) : Bool := decide (x.kind = 3) || decide ((f / 2 ^ x.cls.toNat) % 2 = 1)

theorem and1 : ∀ n : Fin 256, bits .and .u8 ((n.val : Nat) : Int) 1 = ((n.val : Nat) : Int) % 2 := by decide +kernel
theorem bit_and {y : Int} (h0 : 0 ≤ y) (h1 : y ≤ 255) : bits .and .u8 y 1 = y % 2 := by
  obtain ⟨n, rfl⟩ := Int.eq_ofNat_of_zero_le h0
  exact and1 ⟨n, by omega⟩
theorem shr_le {f : Int} (h0 : 0 ≤ f) (h1 : f ≤ 255) (c : Nat) : 0 ≤ f / 2 ^ c ∧ f / 2 ^ c ≤ 255 := by
  have hp : (0 : Int) < 2 ^ c := Int.pow_pos (by decide)
  refine ⟨Int.ediv_nonneg h0 (Int.le_of_lt hp), Int.le_trans (Int.ediv_le_self _ h0) h1⟩
theorem shr_min {f : Int} (h0 : 0 ≤ f) (h1 : f ≤ 255) (c : Nat) : f / 2 ^ min c 8 = f / 2 ^ c := by
  rcases Nat.lt_or_ge c 8 with h | h
  · rw [Nat.min_eq_left (by omega)]
  · rw [Nat.min_eq_right h]
    have e : (2 : Int) ^ c = 256 * 2 ^ (c - 8) := by
      rw [show c = 8 + (c - 8) by omega, Int.pow_add]
      simp
    have hp : (1 : Int) ≤ 2 ^ (c - 8) := Int.pow_pos (n := 2) (m := c - 8) (by decide)
    rw [Int.ediv_eq_zero_of_lt h0 (show f < 2 ^ 8 by omega), Int.ediv_eq_zero_of_lt h0 (by rw [e]; omega)]
theorem in_bit (id rep seq stamp kind cls val f : Int) (hk : (kind == 3) = false) (f1 : 0 ≤ f) (f2 : f ≤ 255) :
    (bits .and .u8 (f / 2 ^ min cls.toNat 8) 1 == 1) = inB ⟨id, rep, seq, stamp, kind, cls, val⟩ f := by
  have h3 : kind ≠ 3 := by simpa using hk
  rw [shr_min f1 f2, bit_and (shr_le f1 f2 _).1 (shr_le f1 f2 _).2, Bool.eq_iff_iff]
  simp [inB, h3]

set_option maxHeartbeats 1000000 in
theorem iIn_any (x : En) (f : Int) (w : World) (hx : x.ok) (hf : 0 ≤ f ∧ f ≤ 255) :
    Calls Try.prog 24 #[x.agg, .int .u8 f] w fun e w' => e = .returned (.bool (inB x f)) ∧ Below w.heap.size w w' := by
  obtain ⟨id, rep, seq, stamp, kind, cls, val⟩ := x
  obtain ⟨⟨i1, i2⟩, _, ⟨k1, k2⟩, ⟨c1, c2⟩, v1, v2⟩ := hx
  obtain ⟨f1, f2⟩ := hf
  simp only [En.agg] at *
  by_cases h3 : kind = 3
  · subst h3
    rw [show inB ⟨id, rep, seq, stamp, 3, cls, val⟩ f = true by simp [inB]]
    go_enter Try.func24, Try.ntmps24
    go_wp2
    go_ret
    exact ⟨rfl, al1 _ _⟩
  · have h3' : (kind == 3) = false := by simp [h3]
    clear h3
    go_enter Try.func24, Try.ntmps24
    go_wp2
    go_ret
    exact ⟨congrArg (fun b => Ending.returned (.bool b)) (in_bit id rep seq stamp kind cls val f h3' f1 f2), al1 _ _⟩

theorem half_step (f : Int) (k : Nat) : f / 2 ^ k / 2 = f / 2 ^ (k + 1) := by
  rw [Int.ediv_ediv_of_nonneg (Int.le_of_lt (Int.pow_pos (by decide))), Int.pow_succ]

set_option maxHeartbeats 1000000 in
theorem rIn_any (x : En) (f : Int) (w : World) (hx : x.ok) (hf : 0 ≤ f ∧ f ≤ 255) :
    Calls Try.prog 11 #[x.agg, .int .u8 f] w fun e w' => e = .returned (.bool (inB x f)) ∧ Below w.heap.size w w' := by
  obtain ⟨id, rep, seq, stamp, kind, cls, val⟩ := x
  obtain ⟨⟨i1, i2⟩, _, ⟨k1, k2⟩, ⟨c1, c2⟩, v1, v2⟩ := hx
  obtain ⟨f1, f2⟩ := hf
  simp only [En.agg] at *
  by_cases h3 : kind = 3
  · subst h3
    rw [show inB ⟨id, rep, seq, stamp, 3, cls, val⟩ f = true by simp [inB]]
    go_enter Try.func11, Try.ntmps11
    go_wp2
    go_ret
    exact ⟨rfl, al1 _ _⟩
  · have h3' : (kind == 3) = false := by simp [h3]
    rw [show inB ⟨id, rep, seq, stamp, kind, cls, val⟩ f = decide ((f / 2 ^ cls.toNat) % 2 = 1) by simp [inB, h3]]
    clear h3
    obtain ⟨cn, rfl⟩ := Int.eq_ofNat_of_zero_le c1
    have hc : cn ≤ 255 := by omega
    clear c1 c2
    rw [Int.toNat_natCast]
    have HL := Lib.hid (fun k => shr_le f1 f2 k)
    have HH := Lib.hid (fun k => half_step f k)
    go_enter Try.func11, Try.ntmps11
    go_wp2
    go_loop [5, 6] (fun s5 s6 => ∃ (k : Nat) (y : Int), k ≤ cn ∧ s6 = .int .i64 k ∧ s5 = .int .i64 y ∧ 0 ≤ y ∧ y ≤ 255 ∧ Hid (y = f / 2 ^ k)) (fun _ s6 => cn - (intOf s6).toNat)
    case atStart => exact ⟨0, f, by omega, rfl, rfl, f1, f2, Lib.hid (by simp)⟩
    case round =>
      obtain ⟨k, y, hk, rfl, rfl, y1, y2, HY⟩ := hrel
      by_cases hlt : k < cn
      · go_wp2
        go_round
        case rel => exact ⟨k + 1, y / 2, by omega, by go_num, rfl, by omega, by omega, Lib.hid (by rw [HY.out]; exact HH.out k)⟩
        case measure => simp [intOf]; omega
      · go_wp2
        go_ret
        refine ⟨?_, al1 _ _⟩
        obtain rfl : k = cn := by omega
        rw [← HY.out]
        rfl
end Go.Proofs.Ytfjaeohfigcciab

