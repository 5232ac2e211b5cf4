/- Texts in one: WMath, WFrame, Plain. -/
import Derived.Calls
/- The sum of bytes (CRC-32) as plain mathematics: by bits and by a table are one; what one byte, or two neighbouring ones, altered do to it. -/
namespace Go.Proofs.Ytfjaeohfigcciab

/-- what alters -/
def polyN : Nat := 3988292384
/-- a sum moved down by one bit -/
def movedN (s : Nat) : Nat := if s % 2 = 1 then (s / 2) ^^^ polyN else s / 2
/-- n bits -/
def movesN : Nat → Nat → Nat
  | 0, s => s
  | n + 1, s => movesN n (movedN s)
/-- the table's entry -/
def tabN (c : Nat) : Nat := movesN 8 c
/-- one byte more -/
def stepN (s c : Nat) : Nat := (s / 256) ^^^ tabN ((s % 256) ^^^ c)
def crcN (s : Nat) (l : List UInt8) : Nat := l.foldl (fun s c => stepN s c.toNat) s
/-- the sum of bytes -/
def sumN (l : List UInt8) : Nat := crcN 4294967295 l ^^^ 4294967295

theorem xor_half (a b : Nat) : (a ^^^ b) / 2 = a / 2 ^^^ b / 2 := by
  apply Nat.eq_of_testBit_eq
  intro i
  simp [Nat.testBit_div_two]
theorem xor_par (a b : Nat) : (a ^^^ b) % 2 = (a % 2 + b % 2) % 2 := by
  have h := Nat.testBit_xor a b 0
  simp only [Nat.testBit_zero] at h
  rcases Nat.mod_two_eq_zero_or_one a with ha | ha <;> rcases Nat.mod_two_eq_zero_or_one b with hb | hb <;> rcases Nat.mod_two_eq_zero_or_one (a ^^^ b) with hc | hc <;> simp [ha, hb, hc] at h ⊢
theorem xor_ac4 (a b c d : Nat) : (a ^^^ b) ^^^ (c ^^^ d) = (a ^^^ c) ^^^ (b ^^^ d) := by
  apply Nat.eq_of_testBit_eq
  intro i
  simp only [Nat.testBit_xor]
  cases a.testBit i <;> cases b.testBit i <;> cases c.testBit i <;> cases d.testBit i <;> rfl
theorem moved_xor (a b : Nat) : movedN (a ^^^ b) = movedN a ^^^ movedN b := by
  unfold movedN
  rw [xor_par, xor_half]
  rcases Nat.mod_two_eq_zero_or_one a with ha | ha <;> rcases Nat.mod_two_eq_zero_or_one b with hb | hb <;> simp only [ha, hb] <;> simp
  · rw [Nat.xor_assoc]
  · rw [Nat.xor_assoc, Nat.xor_assoc, Nat.xor_comm polyN]
  · rw [xor_ac4, Nat.xor_self, Nat.xor_zero]
theorem moves_xor (n a b : Nat) : movesN n (a ^^^ b) = movesN n a ^^^ movesN n b := by
  induction n generalizing a b with
  | zero => rfl
  | succ n ih => simp only [movesN]; rw [moved_xor, ih]
theorem moved_even (y : Nat) : movedN (2 * y) = y := by
  unfold movedN
  rw [if_neg (by omega)]
  omega
theorem moves_up (n y : Nat) : movesN n (2 ^ n * y) = y := by
  induction n generalizing y with
  | zero => simp [movesN]
  | succ n ih => simp only [movesN]; rw [Nat.pow_succ, Nat.mul_comm (2 ^ n) 2, Nat.mul_assoc, moved_even, ih]
theorem split256 (x : Nat) : x = (2 ^ 8 * (x / 256)) ^^^ (x % 256) := by
  apply Nat.eq_of_testBit_eq
  intro i
  rw [Nat.testBit_xor, show (256 : Nat) = 2 ^ 8 by rfl, Nat.testBit_two_pow_mul, Nat.testBit_mod_two_pow, Nat.testBit_div_two_pow]
  by_cases h : i < 8
  · simp [h, show ¬ 8 ≤ i by omega]
  · simp [h, show 8 ≤ i by omega, show i - 8 + 8 = i by omega]
/-- eight bits at once -/
theorem moves8 (x : Nat) : movesN 8 x = (x / 256) ^^^ tabN (x % 256) := by
  have h := moves_xor 8 (2 ^ 8 * (x / 256)) (x % 256)
  rw [moves_up, ← split256] at h
  exact h
theorem xor_div256 (a b : Nat) : (a ^^^ b) / 256 = a / 256 ^^^ b / 256 := by
  apply Nat.eq_of_testBit_eq
  intro i
  rw [show (256 : Nat) = 2 ^ 8 by rfl, Nat.testBit_xor, Nat.testBit_div_two_pow, Nat.testBit_div_two_pow, Nat.testBit_div_two_pow, Nat.testBit_xor]
theorem xor_mod256 (a b : Nat) : (a ^^^ b) % 256 = a % 256 ^^^ b % 256 := by
  rw [show (256 : Nat) = 2 ^ 8 by rfl]
  exact Nat.xor_mod_two_pow
theorem step_moves (s c : Nat) (hc : c < 256) : stepN s c = movesN 8 (s ^^^ c) := by
  rw [moves8, xor_div256, xor_mod256, Nat.div_eq_of_lt hc, Nat.xor_zero, Nat.mod_eq_of_lt hc]
  rfl

/-- the reference's sum and byte, k bits on -/
def refN : Nat → Nat × Nat → Nat × Nat
  | 0, p => p
  | k + 1, p => refN k (if p.1 % 2 = p.2 % 2 then p.1 / 2 else (p.1 / 2) ^^^ polyN, p.2 / 2)
def ref1 (p : Nat × Nat) : Nat × Nat := (if p.1 % 2 = p.2 % 2 then p.1 / 2 else (p.1 / 2) ^^^ polyN, p.2 / 2)
theorem ref_succ (k : Nat) (p : Nat × Nat) : refN (k + 1) p = ref1 (refN k p) := by
  induction k generalizing p with
  | zero => rfl
  | succ k ih => rw [refN, ih]; rfl
theorem ref1_xor (p : Nat × Nat) : (ref1 p).1 ^^^ (ref1 p).2 = movedN (p.1 ^^^ p.2) := by
  unfold ref1 movedN
  rw [xor_par, xor_half]
  rcases Nat.mod_two_eq_zero_or_one p.1 with ha | ha <;> rcases Nat.mod_two_eq_zero_or_one p.2 with hb | hb <;> simp only [ha, hb] <;> simp
  · rw [Nat.xor_assoc, Nat.xor_assoc, Nat.xor_comm polyN]
  · rw [Nat.xor_assoc, Nat.xor_assoc, Nat.xor_comm polyN]
theorem ref_xor (k : Nat) (p : Nat × Nat) : (refN k p).1 ^^^ (refN k p).2 = movesN k (p.1 ^^^ p.2) := by
  induction k generalizing p with
  | zero => rfl
  | succ k ih => rw [refN, ih]; simp only [movesN]; exact congrArg (movesN k) (ref1_xor p)
theorem ref_snd (k : Nat) (p : Nat × Nat) : (refN k p).2 = p.2 / 2 ^ k := by
  induction k generalizing p with
  | zero => simp [refN]
  | succ k ih => rw [refN, ih]; simp only; rw [Nat.div_div_eq_div_mul, Nat.pow_succ, Nat.mul_comm]
theorem ref8 (s c : Nat) (hc : c < 256) : refN 8 (s, c) = (stepN s c, 0) := by
  have h2 : (refN 8 (s, c)).2 = 0 := by rw [ref_snd]; exact Nat.div_eq_of_lt hc
  have h1 := ref_xor 8 (s, c)
  rw [h2, Nat.xor_zero] at h1
  rw [step_moves s c hc]
  exact Prod.ext h1 h2

theorem poly_lt : polyN < 2 ^ 32 := by decide
theorem moved_lt (s : Nat) (h : s < 2 ^ 32) : movedN s < 2 ^ 32 := by
  unfold movedN
  split
  · exact Nat.xor_lt_two_pow (by omega) poly_lt
  · omega
theorem ref1_lt (p : Nat × Nat) (h : p.1 < 2 ^ 32) : (ref1 p).1 < 2 ^ 32 := by
  unfold ref1
  simp only
  split
  · omega
  · exact Nat.xor_lt_two_pow (by omega) poly_lt
theorem ref_lt (k : Nat) (p : Nat × Nat) (h : p.1 < 2 ^ 32) : (refN k p).1 < 2 ^ 32 := by
  induction k with
  | zero => exact h
  | succ k ih => rw [ref_succ]; exact ref1_lt _ ih
theorem moves_lt (n s : Nat) (h : s < 2 ^ 32) : movesN n s < 2 ^ 32 := by
  induction n generalizing s with
  | zero => exact h
  | succ n ih => exact ih _ (moved_lt s h)
theorem tab_lt (c : Nat) (h : c < 256) : tabN c < 2 ^ 32 := moves_lt 8 c (by omega)
theorem step_lt (s c : Nat) (h : s < 2 ^ 32) (hc : c < 256) : stepN s c < 2 ^ 32 := by
  rw [step_moves s c hc]
  exact moves_lt 8 _ (Nat.xor_lt_two_pow h (by omega))
theorem crc_lt (s : Nat) (l : List UInt8) (h : s < 2 ^ 32) : crcN s l < 2 ^ 32 := by
  induction l generalizing s with
  | nil => exact h
  | cons c l ih => exact ih _ (step_lt s _ h c.toNat_lt)
theorem crc_snoc (s : Nat) (l : List UInt8) (c : UInt8) : crcN s (l ++ [c]) = stepN (crcN s l) c.toNat := by simp [crcN]
theorem crc_append (s : Nat) (l m : List UInt8) : crcN s (l ++ m) = crcN (crcN s l) m := by simp [crcN]
theorem sum_lt (l : List UInt8) : sumN l < 2 ^ 32 := Nat.xor_lt_two_pow (crc_lt _ l (by omega)) (by omega)

/-! what is altered -/
theorem tab_xor (a b : Nat) : tabN (a ^^^ b) = tabN a ^^^ tabN b := moves_xor 8 a b
theorem xor_sub0 {a b : Nat} (h : a ^^^ b = 0) : a = b := by
  have := congrArg (· ^^^ b) h
  simpa [Nat.xor_assoc] using this
theorem tab_top : ∀ c, c < 256 → c ≠ 0 → 16777216 ≤ tabN c := by decide +kernel
theorem tab_low : ∀ c, c < 256 → c ≠ 0 → tabN c % 16777216 ≠ 0 := by decide +kernel
theorem div_lt24 (s : Nat) (h : s < 2 ^ 32) : s / 256 < 16777216 := by omega
/-- the difference of two sums, one byte on -/
theorem step_diff (s t c d : Nat) : stepN s c ^^^ stepN t d = stepN (s ^^^ t) (c ^^^ d) := by
  unfold stepN
  rw [xor_ac4, xor_div256, xor_mod256, ← tab_xor, xor_ac4 (s % 256)]
theorem step_zero : stepN 0 0 = 0 := by decide
/-- a difference does not vanish by itself -/
theorem step_ne (s : Nat) (h : s < 2 ^ 32) (hs : stepN s 0 = 0) : s = 0 := by
  unfold stepN at hs
  rw [Nat.xor_zero] at hs
  have e := xor_sub0 hs
  by_cases hz : s % 256 = 0
  · rw [hz] at e
    have : tabN 0 = 0 := by decide
    omega
  · have := tab_top (s % 256) (by omega) hz
    have := div_lt24 s h
    omega
theorem crc_diff (s t : Nat) (l : List UInt8) (hs : s < 2 ^ 32) (ht : t < 2 ^ 32) (h : crcN s l = crcN t l) : s = t := by
  induction l generalizing s t with
  | nil => exact h
  | cons c l ih =>
    have e := ih _ _ (step_lt s _ hs c.toNat_lt) (step_lt t _ ht c.toNat_lt) h
    have e2 : stepN (s ^^^ t) 0 = 0 := by
      have := step_diff s t c.toNat c.toNat
      rw [e, Nat.xor_self, Nat.xor_self] at this
      exact this.symm
    exact xor_sub0 (step_ne _ (Nat.xor_lt_two_pow hs ht) e2)
/-- two neighbouring bytes -/
theorem two_diff (s a b a' b' : Nat) (ha : a < 256) (hb : b < 256) (ha' : a' < 256) (hb' : b' < 256) (h : stepN (stepN s a) b = stepN (stepN s a') b') : a = a' ∧ b = b' := by
  have e := step_diff (stepN s a) (stepN s a') b b'
  rw [h, Nat.xor_self, step_diff, Nat.xor_self] at e
  have hx : a ^^^ a' < 256 := Nat.xor_lt_two_pow (n := 8) ha ha'
  have hy : b ^^^ b' < 256 := Nat.xor_lt_two_pow (n := 8) hb hb'
  have e1 : stepN 0 (a ^^^ a') = tabN (a ^^^ a') := by simp [stepN]
  rw [e1] at e
  have htl := tab_lt _ hx
  unfold stepN at e
  have e2 := xor_sub0 e.symm
  have hi : tabN (a ^^^ a') % 256 ^^^ (b ^^^ b') < 256 := Nat.xor_lt_two_pow (n := 8) (by omega) hy
  have h0 : tabN (a ^^^ a') % 256 ^^^ (b ^^^ b') = 0 := by
    refine Classical.byContradiction fun hne => ?_
    have := tab_top _ hi hne
    have := div_lt24 _ htl
    omega
  rw [h0, show tabN 0 = 0 by decide] at e2
  have h1 : a ^^^ a' = 0 := by
    refine Classical.byContradiction fun hne => ?_
    have := tab_top _ hx hne
    omega
  rw [h1, show tabN 0 = 0 by decide] at h0
  simp at h0
  exact ⟨xor_sub0 h1, xor_sub0 h0⟩
theorem one_diff (s a a' : Nat) (ha : a < 256) (ha' : a' < 256) (h : stepN s a = stepN s a') : a = a' := by
  have e := step_diff s s a a'
  rw [h, Nat.xor_self, Nat.xor_self] at e
  have hx : a ^^^ a' < 256 := Nat.xor_lt_two_pow (n := 8) ha ha'
  have e1 : stepN 0 (a ^^^ a') = tabN (a ^^^ a') := by simp [stepN]
  rw [e1] at e
  refine xor_sub0 (Classical.byContradiction fun hne => ?_)
  have := tab_top _ hx hne
  omega
/-- the last byte altered turns the sum's lower three bytes -/
theorem last_low (s a a' : Nat) (ha : a < 256) (ha' : a' < 256) (h : stepN s a % 16777216 = stepN s a' % 16777216) : a = a' := by
  have e := step_diff s s a a'
  rw [Nat.xor_self] at e
  have hx : a ^^^ a' < 256 := Nat.xor_lt_two_pow (n := 8) ha ha'
  have e1 : stepN 0 (a ^^^ a') = tabN (a ^^^ a') := by simp [stepN]
  rw [e1] at e
  refine xor_sub0 (Classical.byContradiction fun hne => ?_)
  refine tab_low _ hx hne ?_
  rw [← e, show (16777216 : Nat) = 2 ^ 24 by rfl, Nat.xor_mod_two_pow]
  rw [show (2 : Nat) ^ 24 = 16777216 by rfl, h, Nat.xor_self]
theorem xor_low24 (a b : Nat) : (a ^^^ b) % 16777216 = a % 16777216 ^^^ b % 16777216 := by
  rw [show (16777216 : Nat) = 2 ^ 24 by rfl]
  exact Nat.xor_mod_two_pow
theorem xor_cancel {a b c : Nat} (h : a ^^^ c = b ^^^ c) : a = b := by
  have := congrArg (· ^^^ c) h
  simpa [Nat.xor_assoc] using this
end Go.Proofs.Ytfjaeohfigcciab

/- Frames as plain lists of bytes: how a payload is sealed, how a frame is opened, and what an altered one comes to. Nothing of a program is in here. -/
namespace Go.Proofs.Ytfjaeohfigcciab

/-- a number's four bytes, the highest one first -/
def four (w : Nat) : List UInt8 := [UInt8.ofNat (w / 16777216), UInt8.ofNat (w / 65536 % 256), UInt8.ofNat (w / 256 % 256), UInt8.ofNat (w % 256)]
/-- what four bytes say -/
def of4 : List UInt8 → Nat
  | [a, b, c, d] => a.toNat * 16777216 + b.toNat * 65536 + c.toNat * 256 + d.toNat
  | _ => 0
/-- how many, and the payload -/
def bodyOf (l : List UInt8) : List UInt8 := UInt8.ofNat (l.length / 256) :: UInt8.ofNat (l.length % 256) :: l
def frameOf (l : List UInt8) : List UInt8 := bodyOf l ++ four (sumN (bodyOf l))
/-- how many bytes a frame says that its payload has -/
def toldOf : List UInt8 → Nat
  | a :: b :: _ => a.toNat * 256 + b.toNat
  | _ => 0
/-- has just as many as it says, and may say so? -/
def sizeB (f : List UInt8) : Bool := decide (6 ≤ f.length ∧ toldOf f ≤ 4096 ∧ f.length = toldOf f + 6)
/-- a frame's payload, or a code -/
def openR (f : List UInt8) : Except Int (List UInt8) :=
  if sizeB f = true then (if sumN (f.take (f.length - 4)) = of4 (f.drop (f.length - 4)) then .ok ((f.drop 2).take (f.length - 6)) else .error 2) else .error 1

theorem u8_nat {n : Nat} (h : n < 256) : (UInt8.ofNat n).toNat = n := by
  simp [UInt8.toNat_ofNat']; omega
theorem four_len (w : Nat) : (four w).length = 4 := rfl
theorem of4_mk (a b c d : UInt8) : of4 [a, b, c, d] = a.toNat * 16777216 + b.toNat * 65536 + c.toNat * 256 + d.toNat := rfl
theorem of4_four (w : Nat) (h : w < 2 ^ 32) : of4 (four w) = w := by
  unfold four
  rw [of4_mk]
  rw [u8_nat (by omega), u8_nat (by omega), u8_nat (by omega), u8_nat (by omega)]
  omega
theorem four_of4 (a b c d : UInt8) : four (of4 [a, b, c, d]) = [a, b, c, d] := by
  have ha := a.toNat_lt
  have hb := b.toNat_lt
  have hc := c.toNat_lt
  have hd := d.toNat_lt
  rw [of4_mk]
  unfold four
  rw [show (a.toNat * 16777216 + b.toNat * 65536 + c.toNat * 256 + d.toNat) / 16777216 = a.toNat by omega,
    show (a.toNat * 16777216 + b.toNat * 65536 + c.toNat * 256 + d.toNat) / 65536 % 256 = b.toNat by omega,
    show (a.toNat * 16777216 + b.toNat * 65536 + c.toNat * 256 + d.toNat) / 256 % 256 = c.toNat by omega,
    show (a.toNat * 16777216 + b.toNat * 65536 + c.toNat * 256 + d.toNat) % 256 = d.toNat by omega]
  simp
theorem of4_lt (a b c d : UInt8) : of4 [a, b, c, d] < 2 ^ 32 := by
  have ha := a.toNat_lt
  have hb := b.toNat_lt
  have hc := c.toNat_lt
  have hd := d.toNat_lt
  rw [of4_mk]
  omega
theorem four_inj {v w : Nat} (hv : v < 2 ^ 32) (hw : w < 2 ^ 32) (h : four v = four w) : v = w := by
  rw [← of4_four v hv, h, of4_four w hw]
theorem body_len (l : List UInt8) : (bodyOf l).length = l.length + 2 := rfl
theorem frame_len (l : List UInt8) : (frameOf l).length = l.length + 6 := by simp [frameOf, body_len, four_len]
theorem told_frame (l r : List UInt8) (h : l.length ≤ 4096) : toldOf (bodyOf l ++ r) = l.length := by
  simp only [bodyOf, List.cons_append, toldOf]
  rw [u8_nat (by omega), u8_nat (by omega)]
  omega
theorem size_frame (l : List UInt8) (h : l.length ≤ 4096) : sizeB (frameOf l) = true := by
  have := told_frame l (four (sumN (bodyOf l))) h
  have hl := frame_len l
  simp only [sizeB, decide_eq_true_eq]
  unfold frameOf at *
  omega
/-- what is sealed is opened -/
theorem open_frame (l : List UInt8) (h : l.length ≤ 4096) : openR (frameOf l) = .ok l := by
  unfold openR
  rw [if_pos (size_frame l h), frame_len]
  have e : l.length + 6 - 4 = (bodyOf l).length := by rw [body_len]; omega
  rw [e]
  have t : (frameOf l).take (bodyOf l).length = bodyOf l := by simp [frameOf]
  have d : (frameOf l).drop (bodyOf l).length = four (sumN (bodyOf l)) := by simp [frameOf]
  rw [t, d, of4_four _ (sum_lt _), if_pos rfl]
  congr 1
  rw [show (frameOf l).drop 2 = l ++ four (sumN (bodyOf l)) by simp [frameOf, bodyOf]]
  simp
theorem open_ok {f l : List UInt8} (h : openR f = .ok l) : f.length ≤ 4102 ∧ frameOf l = f ∧ l.length ≤ 4096 := by
  unfold openR at h
  split at h
  · rename_i hs
    split at h
    · rename_i hsum
      simp only [sizeB, decide_eq_true_eq] at hs
      obtain ⟨h1, h2, h3⟩ := hs
      match f, h1, h2, h3, hsum, h with
      | a :: b :: g, h1, h2, h3, hsum, h =>
        simp only [toldOf] at h2 h3
        simp only [List.length_cons] at h1 h3 hsum h
        have hl : l = g.take (g.length - 4) := by
          have := Except.ok.inj h
          rw [← this]
          simp only [List.drop_succ_cons, List.drop_zero]
          congr 1
        have hll : l.length = g.length - 4 := by rw [hl]; simp
        have ha := a.toNat_lt
        have hb := b.toNat_lt
        refine ⟨by simp only [List.length_cons]; omega, ?_, by omega⟩
        have e1 : UInt8.ofNat (l.length / 256) = a := by
          have : l.length / 256 = a.toNat := by omega
          rw [this]; simp
        have e2 : UInt8.ofNat (l.length % 256) = b := by
          have : l.length % 256 = b.toNat := by omega
          rw [this]; simp
        have eb : bodyOf l = a :: b :: g.take (g.length - 4) := by unfold bodyOf; rw [e1, e2, ← hl]
        have et : (a :: b :: g).take (g.length + 1 + 1 - 4) = a :: b :: g.take (g.length - 4) := by
          rw [show g.length + 1 + 1 - 4 = (g.length - 4) + 1 + 1 by omega]; rfl
        have ed : (a :: b :: g).drop (g.length + 1 + 1 - 4) = g.drop (g.length - 4) := by
          rw [show g.length + 1 + 1 - 4 = (g.length - 4) + 1 + 1 by omega]; rfl
        rw [et, ed] at hsum
        unfold frameOf
        rw [eb, hsum]
        have hd4 : (g.drop (g.length - 4)).length = 4 := by simp; omega
        obtain ⟨p, q, r, s, e4⟩ : ∃ p q r s, g.drop (g.length - 4) = [p, q, r, s] := by
          match g.drop (g.length - 4), hd4 with
          | [p, q, r, s], _ => exact ⟨p, q, r, s, rfl⟩
        rw [e4, four_of4, ← e4]
        simp
    · cases h
  · cases h
theorem open_err {f : List UInt8} {c : Int} (h : openR f = .error c) : c = 1 ∨ c = 2 := by
  unfold openR at h
  split at h
  · split at h
    · cases h
    · cases h; exact .inr rfl
  · cases h; exact .inl rfl

/-! what is altered -/
theorem sum_inj {l m : List UInt8} (h : sumN l = sumN m) : crcN 4294967295 l = crcN 4294967295 m := xor_cancel h
theorem crc_cons (s : Nat) (a : UInt8) (l : List UInt8) : crcN s (a :: l) = crcN (stepN s a.toNat) l := rfl
theorem nat_ne {a b : UInt8} (h : a ≠ b) : a.toNat ≠ b.toNat := fun e => h (UInt8.toNat_inj.1 e)
/-- two neighbouring bytes within: another sum -/
theorem sum_two (p q : List UInt8) (a b a' b' : UInt8) (h : sumN (p ++ a :: b :: q) = sumN (p ++ a' :: b' :: q)) : a = a' ∧ b = b' := by
  have h1 := sum_inj h
  rw [crc_append, crc_append, crc_cons, crc_cons, crc_cons, crc_cons] at h1
  have hp : crcN 4294967295 p < 2 ^ 32 := crc_lt _ p (by omega)
  have h2 := crc_diff _ _ q (step_lt _ _ (step_lt _ _ hp a.toNat_lt) b.toNat_lt) (step_lt _ _ (step_lt _ _ hp a'.toNat_lt) b'.toNat_lt) h1
  obtain ⟨e1, e2⟩ := two_diff _ _ _ _ _ a.toNat_lt b.toNat_lt a'.toNat_lt b'.toNat_lt h2
  exact ⟨UInt8.toNat_inj.1 e1, UInt8.toNat_inj.1 e2⟩
/-- the last byte: the sum's lower three bytes are others -/
theorem sum_last (p : List UInt8) (a a' : UInt8) (h : sumN (p ++ [a]) % 16777216 = sumN (p ++ [a']) % 16777216) : a = a' := by
  unfold sumN at h
  rw [xor_low24, xor_low24] at h
  have h1 := xor_cancel h
  rw [crc_append, crc_append] at h1
  exact UInt8.toNat_inj.1 (last_low _ _ _ a.toNat_lt a'.toNat_lt h1)
/-- a frame's bytes of which the body and the sum don't agree -/
theorem open_bad (m s : List UInt8) (hs : s.length = 4) (h : sumN m ≠ of4 s) : openR (m ++ s) = .error 1 ∨ openR (m ++ s) = .error 2 := by
  unfold openR
  split
  · right
    have e : (m ++ s).length - 4 = m.length := by simp [hs]
    rw [e, List.take_left, List.drop_left, if_neg h]
  · left; rfl
/-- one byte, or two neighbouring ones, altered -/
def alter (f : List UInt8) (k : Nat) (one two : UInt8) : List UInt8 := (f.set k (f.getD k 0 ^^^ one)).set (k + 1) (f.getD (k + 1) 0 ^^^ two)
theorem xor_u8 {a b : UInt8} (h : a ^^^ b = a) : b = 0 := by
  have := congrArg (a ^^^ ·) h
  simpa [← UInt8.xor_assoc] using this
theorem xor_u8' {a b : UInt8} (h : a = a ^^^ b) : b = 0 := xor_u8 h.symm
theorem list_two (f : List UInt8) (k : Nat) (h : k + 1 < f.length) : ∃ p a b q, f = p ++ a :: b :: q ∧ p.length = k := by
  refine ⟨f.take k, f[k], f[k + 1], f.drop (k + 2), ?_, by simp; omega⟩
  rw [List.getElem_cons_drop, List.getElem_cons_drop, List.take_append_drop]
theorem alter_two (p q : List UInt8) (a b one two : UInt8) : alter (p ++ a :: b :: q) p.length one two = p ++ (a ^^^ one) :: (b ^^^ two) :: q := by
  unfold alter
  simp [List.getD_eq_getElem?_getD, List.set_append]
theorem alter_open (l : List UInt8) (k : Nat) (one two : UInt8) (hl : l.length ≤ 4096) (hk : k < l.length + 5) (h : one ≠ 0 ∨ two ≠ 0) :
    openR (alter (frameOf l) k one two) = .error 1 ∨ openR (alter (frameOf l) k one two) = .error 2 := by
  have hbl := body_len l
  have hS := sum_lt (bodyOf l)
  generalize hB : bodyOf l = B at *
  have hf : frameOf l = B ++ four (sumN B) := by unfold frameOf; rw [hB]
  rw [hf]
  rcases Nat.lt_or_ge (k + 1) B.length with h1 | h1
  · -- within what is summed
    obtain ⟨p, a, b, q, e, hp⟩ := list_two B k h1
    generalize hS4 : four (sumN B) = S4
    have hs4 : S4.length = 4 := by rw [← hS4]; rfl
    rw [e, List.append_assoc, List.cons_append, List.cons_append, ← hp, alter_two]
    have e2 : p ++ (a ^^^ one) :: (b ^^^ two) :: (q ++ S4) = (p ++ (a ^^^ one) :: (b ^^^ two) :: q) ++ S4 := by simp
    rw [e2]
    refine open_bad _ _ hs4 fun hc => ?_
    rw [← hS4, of4_four _ hS, e] at hc
    obtain ⟨g1, g2⟩ := sum_two _ _ _ _ _ _ hc
    rcases h with h | h
    · exact h (xor_u8 g1)
    · exact h (xor_u8 g2)
  · rcases Nat.eq_or_lt_of_le h1 with h2 | h2
    · -- the last one of it, and the sum's first one
      obtain ⟨p, a, e⟩ : ∃ p a, B = p ++ [a] := by
        rcases List.eq_nil_or_concat B with h0 | ⟨p, a, h0⟩
        · rw [h0] at hbl; simp at hbl
        · exact ⟨p, a, by rw [h0]; simp⟩
      have hp : p.length = k := by
        have := congrArg List.length e
        simp at this
        omega
      have e4 : four (sumN B) = UInt8.ofNat (sumN B / 16777216) :: [UInt8.ofNat (sumN B / 65536 % 256), UInt8.ofNat (sumN B / 256 % 256), UInt8.ofNat (sumN B % 256)] := rfl
      generalize hs : sumN B = S at *
      have e3 : B ++ four S = p ++ a :: UInt8.ofNat (S / 16777216) :: [UInt8.ofNat (S / 65536 % 256), UInt8.ofNat (S / 256 % 256), UInt8.ofNat (S % 256)] := by rw [e4, e]; simp
      rw [e3, ← hp, alter_two]
      have e5 : p ++ (a ^^^ one) :: (UInt8.ofNat (S / 16777216) ^^^ two) :: [UInt8.ofNat (S / 65536 % 256), UInt8.ofNat (S / 256 % 256), UInt8.ofNat (S % 256)]
          = (p ++ [a ^^^ one]) ++ [UInt8.ofNat (S / 16777216) ^^^ two, UInt8.ofNat (S / 65536 % 256), UInt8.ofNat (S / 256 % 256), UInt8.ofNat (S % 256)] := by simp
      rw [e5]
      refine open_bad _ _ rfl fun hc => ?_
      have hlow : of4 [UInt8.ofNat (S / 16777216) ^^^ two, UInt8.ofNat (S / 65536 % 256), UInt8.ofNat (S / 256 % 256), UInt8.ofNat (S % 256)] % 16777216 = S % 16777216 := by
        rw [of4_mk]
        rw [u8_nat (by omega : S / 65536 % 256 < 256), u8_nat (by omega : S / 256 % 256 < 256), u8_nat (by omega : S % 256 < 256)]
        omega
      have g1 : sumN (p ++ [a ^^^ one]) % 16777216 = sumN (p ++ [a]) % 16777216 := by rw [hc, hlow, ← e, hs]
      have g2 := xor_u8 (sum_last _ _ _ g1)
      rcases h with h | h
      · exact h g2
      · rw [g2, UInt8.xor_zero, ← e, hs] at hc
        have g3 : four S = four (of4 [UInt8.ofNat (S / 16777216) ^^^ two, UInt8.ofNat (S / 65536 % 256), UInt8.ofNat (S / 256 % 256), UInt8.ofNat (S % 256)]) := by rw [← hc]
        rw [four_of4] at g3
        have g4 : UInt8.ofNat (S / 16777216) = UInt8.ofNat (S / 16777216) ^^^ two := (List.cons.inj g3).1
        exact h (xor_u8' g4)
    · -- within the sum
      obtain ⟨j, rfl⟩ : ∃ j, k = B.length + j := ⟨k - B.length, by omega⟩
      have ea : alter (B ++ four (sumN B)) (B.length + j) one two = B ++ alter (four (sumN B)) j one two := by
        have g : ∀ i, (B ++ four (sumN B))[B.length + i]? = (four (sumN B))[i]? := fun i => by rw [List.getElem?_append_right (by omega)]; congr 1; omega
        unfold alter
        rw [show B.length + j + 1 = B.length + (j + 1) by omega]
        simp [List.getD_eq_getElem?_getD, List.set_append, g]
      rw [ea]
      have hj : j + 1 < (four (sumN B)).length := by rw [four_len]; omega
      obtain ⟨p, a, b, q, e, hp⟩ := list_two _ j hj
      refine open_bad _ _ (by rw [e, ← hp, alter_two]; have := congrArg List.length e; rw [four_len] at this; simp at this ⊢; omega) fun hc => ?_
      have hne : four (sumN B) ≠ alter (four (sumN B)) j one two := by
        intro hh
        rw [e, ← hp, alter_two] at hh
        have := List.append_cancel_left hh
        injection this with t1 t2
        injection t2 with t2 _
        rcases h with h | h
        · exact h (xor_u8' t1)
        · exact h (xor_u8' t2)
      apply hne
      have hal : (alter (four (sumN B)) j one two).length = 4 := by rw [e, ← hp, alter_two]; have := congrArg List.length e; rw [four_len] at this; simp at this ⊢; omega
      generalize alter (four (sumN B)) j one two = A4 at *
      match A4, hal with
      | [x, y, z, u], _ => rw [hc, four_of4]
end Go.Proofs.Ytfjaeohfigcciab

/- What runs are, in plain words: a run, when it is right, when two stand apart, what is covered. Nothing of a program is in here. -/
namespace Go.Proofs.Ytfjaeohfigcciab

structure Rn where
  (r lo hi : Int)
  deriving DecidableEq, Inhabited, Repr

/-- a run is right by itself -/
def rrB (x : Rn) : Bool := decide (x.r < 8 ∧ 1 ≤ x.lo ∧ x.lo ≤ x.hi)
/-- a pair is one of a run's -/
def covB (x : Rn) (p n : Int) : Bool := decide (x.r = p ∧ x.lo ≤ n ∧ n ≤ x.hi)
/-- y may stand behind x as a run of its own -/
def apB (x y : Rn) : Bool := decide (x.r < y.r ∨ (x.r = y.r ∧ x.hi + 1 < y.lo))
/-- within what the types hold -/
def Rn.ok (x : Rn) : Prop := (0 ≤ x.r ∧ x.r ≤ 255) ∧ (0 ≤ x.lo ∧ x.lo ≤ 4294967295) ∧ (0 ≤ x.hi ∧ x.hi ≤ 4294967295)

end Go.Proofs.Ytfjaeohfigcciab

