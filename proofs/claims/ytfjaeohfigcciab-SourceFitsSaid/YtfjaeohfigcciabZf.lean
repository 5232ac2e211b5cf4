/- Texts in one: WMem, WBits, WSums, WSame, WSeal, WOpenR, NRead, NRuns. -/
import Derived.Test.YtfjaeohfigcciabZa
import Derived.Test.YtfjaeohfigcciabZc
import Derived.Test.YtfjaeohfigcciabRows
import Derived.WalkKit
import Derived.WalkSpells
import Derived.WalkLawsBesides
import Derived.Below
import Derived.Laws.OwnMore
import Derived.Laws.AppendOwnNone
import Derived.Deep.Draws
import Derived.Sort.Grow
import Derived.Lib.Hide
import Derived.Lib.EndianBits
import Derived.Outline
import Derived.Laws.IdiomStrings
import Derived.Deep.QuietTactic
import Derived.BigQuiet
import Derived.Test.YtfjaeohfigcciabNMath
import Derived.Test.YtfjaeohfigcciabZe
/- When a value is a slice that reads as a list of bytes, and how that is carried from world to world; append of bytes. -/
namespace Go.Proofs.Ytfjaeohfigcciab
open Go.RowKit

/-- the cells of bytes -/
def encB (l : List UInt8) : List Value := l.map fun c => .int .u8 c.toNat
theorem encB_len (l : List UInt8) : (encB l).length = l.length := by simp [encB]
theorem encB_app (l m : List UInt8) : encB (l ++ m) = encB l ++ encB m := by simp [encB]
theorem encB_get (l : List UInt8) (j : Nat) (c : UInt8) (h : l[j]? = some c) : (encB l)[j]? = some (.int .u8 c.toNat) := by simp [encB, h]
theorem encB_one (l : List UInt8) : ∀ u ∈ encB l, u.oneCell' = true := by
  intro u hu
  simp only [encB, List.mem_map] at hu
  obtain ⟨c, _, rfl⟩ := hu
  rfl

/-- v is a slice whose elements are the bytes l, below block B -/
def Bs (w : World) (B : Nat) (v : Value) (l : List UInt8) : Prop :=
  ∃ A c, v = .slice A l.length c ∧ l.length ≤ c ∧ (A = none → c = 0) ∧ (l ≠ [] → ∃ b off, A = some ⟨b, off, none⟩ ∧ b < B ∧ ∀ j x, l[j]? = some x → w.cell? ⟨b, off + j, none⟩ = some (.int .u8 x.toNat))

theorem Bs.below {w w' : World} {B : Nat} {v : Value} {l : List UInt8} (h : Bs w B v l) (hb : Below B w w') : Bs w' B v l := by
  obtain ⟨A, c, hv, hlc, hn, hA⟩ := h
  refine ⟨A, c, hv, hlc, hn, fun hne => ?_⟩
  obtain ⟨b, off, rfl, hlt, hc⟩ := hA hne
  exact ⟨b, off, rfl, hlt, fun j x hj => (hb.cell (p := ⟨b, off + j, none⟩) hlt).trans (hc j x hj)⟩
theorem Bs.more {w : World} {B B' : Nat} {v : Value} {l : List UInt8} (h : Bs w B v l) (hB : B ≤ B') : Bs w B' v l := by
  obtain ⟨A, c, hv, hlc, hn, hA⟩ := h
  refine ⟨A, c, hv, hlc, hn, fun hne => ?_⟩
  obtain ⟨b, off, rfl, hlt, hc⟩ := hA hne
  exact ⟨b, off, rfl, by omega, hc⟩
theorem Bs.later {w w' : World} {v : Value} {l : List UInt8} (h : Bs w w.heap.size v l) (hb : Below w.heap.size w w') : Bs w' w'.heap.size v l := (h.below hb).more hb.size
theorem Bs.nil (w : World) (B : Nat) : Bs w B (.slice none 0 0) [] := ⟨none, 0, rfl, Nat.le_refl _, fun _ => rfl, fun h => absurd rfl h⟩
theorem Bs.drew {w : World} {B : Nat} {v : Value} {l : List UInt8} (h : Bs w B v l) (n : Nat) : Bs (w.drewN n) B v l := h

/-- v is a slice of the call's own, its elements the bytes l, at block base or behind it -/
def OwnB (w : World) (base : Nat) (v : Value) (l : List UInt8) : Prop := w.ownsRow base 5 1 v l.length (encB l)
theorem OwnB.nil (w : World) (base : Nat) : OwnB w base (.slice none 0 0) [] := w.ownsRow_nil base 5 1
theorem OwnB.alloc {w : World} {base : Nat} {v : Value} {l : List UInt8} (h : OwnB w base v l) (o : Obj) : OwnB (w.alloc o) base v l := World.ownsRow.alloc h o
theorem OwnB.mono {w : World} {base base' : Nat} {v : Value} {l : List UInt8} (h : OwnB w base v l) (hb : base' ≤ base) : OwnB w base' v l := by
  refine ⟨h.1, ?_⟩
  rcases h.2 with hn | ⟨g, cap, cur, hv, hb', r⟩
  · exact .inl hn
  · exact .inr ⟨g, cap, cur, hv, by omega, r⟩
theorem OwnB.below {w w' : World} {base : Nat} {v : Value} {l : List UInt8} (h : OwnB w base v l) (hb : Below w.heap.size w w') : OwnB w' base v l := by
  refine ⟨h.1, ?_⟩
  rcases h.2 with hn | ⟨g, cap, cur, hv, hb', hg, r⟩
  · exact .inl hn
  · exact .inr ⟨g, cap, cur, hv, hb', (hb.block g (Array.getElem?_eq_some_iff.1 hg).1).trans hg, r⟩
theorem OwnB.lt {w : World} {base : Nat} {v : Value} {l : List UInt8} (h : OwnB w base v l) : ∀ k, v.ownBlock = some k → base ≤ k ∧ k < w.heap.size := World.ownsRow.lt h
theorem OwnB.form {w : World} {base : Nat} {v : Value} {l : List UInt8} (h : OwnB w base v l) : ∃ A c, v = .slice A l.length c ∧ l.length ≤ c ∧ (A = none → c = 0) ∧ (l ≠ [] → ∃ g, A = some ⟨g, 0, none⟩ ∧ base ≤ g ∧ g < w.heap.size) := by
  rcases h.2 with ⟨hv, hn⟩ | ⟨g, cap, cur, hv, hb', hg, hcap, r⟩
  · refine ⟨none, 0, ?_, by omega, fun _ => rfl, fun hne => ?_⟩
    · rw [hv, hn]
    · exact absurd (List.length_eq_zero_iff.1 hn) hne
  · exact ⟨_, cap, hv, hcap, (fun h => by simp at h), fun _ => ⟨g, rfl, hb', (Array.getElem?_eq_some_iff.1 hg).1⟩⟩
theorem OwnB.cell {w : World} {base g c n : Nat} {l : List UInt8} (h : OwnB w base (.slice (some ⟨g, 0, none⟩) n c) l) (hn : n = l.length) {j : Nat} {x : UInt8} (hj : l[j]? = some x) : w.cell? ⟨g, j, none⟩ = some (.int .u8 x.toNat) := by
  have hl : j < l.length := (List.getElem?_eq_some_iff.1 hj).1
  subst hn
  exact (World.ownsRow.cellAt h j (by omega)).trans (encB_get l j x hj)
theorem OwnB.frozen {w : World} {base g c n : Nat} {l : List UInt8} (h : OwnB w base (.slice (some ⟨g, 0, none⟩) n c) l) (hn : n = l.length) (j : Nat) : w.frozen? ⟨g, j, none⟩ = false := by
  subst hn
  exact World.ownsRow.frozenAt h j
theorem OwnB.bs {w : World} {base : Nat} {v : Value} {l : List UInt8} (h : OwnB w base v l) : Bs w w.heap.size v l := by
  obtain ⟨A, c, rfl, hlc, hn, hA⟩ := h.form
  refine ⟨A, c, rfl, hlc, hn, fun hne => ?_⟩
  obtain ⟨g, rfl, _, hlt⟩ := hA hne
  exact ⟨g, 0, rfl, hlt, fun j x hj => by rw [Nat.zero_add]; exact h.cell rfl hj⟩

theorem info8 : (Try.prog.info? 5).map (fun i => (i.zero, i.size, i.bytes)) = some (some (.int .u8 0), 1, 1) := by kernel_rfl

/-- a block that an append grew lies behind what was there -/
theorem grown_belowB {W w w' : World} {B : Nat} {v : Value} {l : List UInt8} (hb : Below B W w) (ho : OwnB w B v l) (hg : w.grownBy w' v.ownBlock) (hB : B ≤ w.heap.size) : Below B W w' :=
  hb.grown hg hB (fun k hk => (ho.lt k hk).1)
/-- what an argument reads as, once more -/
theorem Bs.form {w : World} {B : Nat} {v : Value} {l : List UInt8} (h : Bs w B v l) : ∃ A c, v = .slice A l.length c ∧ l.length ≤ c := by
  obtain ⟨A, c, hv, hc, _⟩ := h
  exact ⟨A, c, hv, hc⟩
end Go.Proofs.Ytfjaeohfigcciab

/- Operations on bits as the walk spells them, at numbers that fit. -/
namespace Go.Proofs.Ytfjaeohfigcciab
open Go.RowKit

theorem xor32 (a b : Nat) (ha : a < 4294967296) (hb : b < 4294967296) : bits .xor .u32 (a : Int) (b : Int) = ((a ^^^ b : Nat) : Int) := by
  have hx : a ^^^ b < 2 ^ 32 := Nat.xor_lt_two_pow (by omega) (by omega)
  have h1 : (BitVec.ofInt 32 (a : Int)).toNat = a := by
    rw [BitVec.ofInt_natCast, BitVec.toNat_ofNat]; exact Nat.mod_eq_of_lt (by omega)
  have h2 : (BitVec.ofInt 32 (b : Int)).toNat = b := by
    rw [BitVec.ofInt_natCast, BitVec.toNat_ofNat]; exact Nat.mod_eq_of_lt (by omega)
  show IntKind.u32.wrap ((BitVec.ofInt 32 (a : Int) ^^^ BitVec.ofInt 32 (b : Int)).toNat : Int) = _
  rw [BitVec.toNat_xor, h1, h2, IntKind.wrap_u32]
  omega
theorem xor8 (a b : Nat) (ha : a < 256) (hb : b < 256) : bits .xor .u8 (a : Int) (b : Int) = ((a ^^^ b : Nat) : Int) := by
  have hx : a ^^^ b < 2 ^ 8 := Nat.xor_lt_two_pow (by omega) (by omega)
  have h1 : (BitVec.ofInt 8 (a : Int)).toNat = a := by
    rw [BitVec.ofInt_natCast, BitVec.toNat_ofNat]; exact Nat.mod_eq_of_lt (by omega)
  have h2 : (BitVec.ofInt 8 (b : Int)).toNat = b := by
    rw [BitVec.ofInt_natCast, BitVec.toNat_ofNat]; exact Nat.mod_eq_of_lt (by omega)
  show IntKind.u8.wrap ((BitVec.ofInt 8 (a : Int) ^^^ BitVec.ofInt 8 (b : Int)).toNat : Int) = _
  rw [BitVec.toNat_xor, h1, h2, IntKind.wrap_u8]
  omega
theorem and32_1 (a : Nat) (ha : a < 4294967296) : bits .and .u32 (a : Int) 1 = ((a % 2 : Nat) : Int) := by
  have h := bits_mask .u32 32 (by decide) wraps_u32 1 (by decide) (a : Int) (by omega) (by omega)
  simpa using h
/-- a high byte and a low one -/
theorem or_i64 (a b : Int) (ha : 0 ≤ a) (ha' : a < 256) (hb : 0 ≤ b) (hb' : b < 256) : bits .or .i64 (a * 256) b = a * 256 + b :=
  bits_join .i64 63 (by decide) (fun n h0 h1 => by rw [IntKind.wrap_i64]; omega) 8 _ _ (by omega) (by omega) (by omega) hb (by omega) (by omega)
theorem or32_16 (a b : Int) (ha : 0 ≤ a) (ha' : a < 256) (hb : 0 ≤ b) (hb' : b < 256) : bits .or .u32 (a * 16777216) (b * 65536) = a * 16777216 + b * 65536 :=
  bits_join .u32 32 (by decide) wraps_u32 24 _ _ (by omega) (by omega) (by omega) (by omega) (by omega) (by omega)
theorem or32_8 (q c : Int) (hq : 0 ≤ q) (hq' : q < 65536) (hc : 0 ≤ c) (hc' : c < 256) : bits .or .u32 (q * 65536) (c * 256) = q * 65536 + c * 256 :=
  bits_join .u32 32 (by decide) wraps_u32 16 _ _ (by omega) (by omega) (by omega) (by omega) (by omega) (by omega)
theorem or32_0 (q c : Int) (hq : 0 ≤ q) (hq' : q < 16777216) (hc : 0 ≤ c) (hc' : c < 256) : bits .or .u32 (q * 256) c = q * 256 + c :=
  bits_join .u32 32 (by decide) wraps_u32 8 _ _ (by omega) (by omega) (by omega) (by omega) (by omega) (by omega)
theorem ret_u32 {a b : Int} (h : a = b) : Ending.returned (.int .u32 a) = .returned (.int .u32 b) := by rw [h]

/-- a number that is a byte's -/
theorem to_byte {n : Int} (h : 0 ≤ n ∧ n ≤ 255) : ∃ o : UInt8, n = (o.toNat : Int) := by
  refine ⟨UInt8.ofNat n.toNat, ?_⟩
  rw [u8_nat (by omega)]
  omega

end Go.Proofs.Ytfjaeohfigcciab

/- The contracts of the code's Sum, and of the reference's: the sum of bytes. -/
namespace Go.Proofs.Ytfjaeohfigcciab
open Go.RowKit

theorem crc_take (l : List UInt8) (k : Nat) (s : Nat) (c : UInt8) (h : l[k]? = some c) : crcN s (l.take (k + 1)) = stepN (crcN s (l.take k)) c.toNat := by
  rw [List.take_add_one, h]
  exact crc_snoc _ _ _
theorem ones_xor (s : Nat) : s ^^^ 4294967295 = 4294967295 ^^^ s := Nat.xor_comm _ _

/-- a round of the reference's inner loop -/
theorem ref_even (s c : Nat) (h : s % 2 = c % 2) : ref1 (s, c) = (s / 2, c / 2) := by unfold ref1; rw [if_pos h]
theorem ref_odd (s c : Nat) (h : s % 2 ≠ c % 2) : ref1 (s, c) = ((s / 2) ^^^ 3988292384, c / 2) := by unfold ref1; rw [if_neg h]; rfl

end Go.Proofs.Ytfjaeohfigcciab

/- The contracts of the reference's four, Same and Seal. -/
namespace Go.Proofs.Ytfjaeohfigcciab
open Go.RowKit

theorem list_beq (l m : List UInt8) : (l == m) = decide (l = m) := by rw [Bool.eq_iff_iff]; simp

theorem four_get (s : Nat) (hs : s < 4294967296) : encB (four s) = [.int .u8 ((s / 16777216 : Nat) : Int), .int .u8 ((s / 65536 % 256 : Nat) : Int), .int .u8 ((s / 256 % 256 : Nat) : Int), .int .u8 ((s % 256 : Nat) : Int)] := by
  unfold encB four
  simp only [List.map_cons, List.map_nil]
  rw [u8_nat (by omega), u8_nat (by omega), u8_nat (by omega), u8_nat (by omega)]

/-- a slice of bytes, just built -/
theorem own_lit (w : World) (l : List UInt8) (cs : Array Value) (base : Nat) (hb : base ≤ w.heap.size) (hc : cs.toList = encB l) (hl : l.length ≤ 1000000) : OwnB (w.alloc (.cells cs 5)) base (.slice (some ⟨w.heap.size, 0, none⟩) l.length l.length) l := by
  have hs : cs.size = l.length := by rw [← Array.length_toList, hc, encB_len]
  have := World.ownsRow_lit (base := base) (e := 5) (size := 1) w cs l.length hb (by unfold maxLen; omega) (by omega)
  rw [hc] at this
  exact this

end Go.Proofs.Ytfjaeohfigcciab

/- The contract of the reference's Seal. -/
namespace Go.Proofs.Ytfjaeohfigcciab
open Go.RowKit

/-- the bytes l are in memory of the call's own -/
def PutB (w : World) (l : List UInt8) (e : Ending) (w' : World) : Prop := ∃ v, e = .returned v ∧ OwnB w' w.heap.size v l ∧ Below w.heap.size w w'

/-- how many, as two bytes -/
def hdOf (l : List UInt8) : List UInt8 := [UInt8.ofNat (l.length / 256), UInt8.ofNat (l.length % 256)]
theorem hd_enc (l : List UInt8) (h : l.length ≤ 10000) : encB (hdOf l) = [.int .u8 ((l.length : Int) / 256), .int .u8 ((l.length : Int) % 256)] := by
  unfold encB hdOf
  simp only [List.map_cons, List.map_nil]
  rw [u8_nat (by omega), u8_nat (by omega)]
  simp
theorem hd_body (l : List UInt8) : hdOf l ++ l = bodyOf l := rfl

end Go.Proofs.Ytfjaeohfigcciab

/- The contract of the reference's Open. -/
namespace Go.Proofs.Ytfjaeohfigcciab
open Go.RowKit

def codeX : Except Int (List UInt8) → Int
  | .ok _ => 0
  | .error c => c
def bytesX : Except Int (List UInt8) → List UInt8
  | .ok l => l
  | .error _ => []

theorem Bs.take {w : World} {B : Nat} {A : Option Addr} {n c : Nat} {l : List UInt8} (h : Bs w B (.slice A n c) l) (k : Nat) (hk : k ≤ l.length) : Bs w B (.slice A k c) (l.take k) := by
  obtain ⟨A', c', hv, hlc, hn, hA⟩ := h
  cases hv
  refine ⟨A, c, by rw [List.length_take, Nat.min_eq_left hk], by rw [List.length_take]; omega, hn, fun hne => ?_⟩
  obtain ⟨b, off, hb, hlt, hc⟩ := hA (by rintro rfl; simp at hne)
  refine ⟨b, off, hb, hlt, fun j x hj => hc j x ?_⟩
  rw [List.getElem?_take] at hj
  split at hj
  · exact hj
  · cases hj
theorem Bs.drop {w : World} {B b off : Nat} {n c : Nat} {l : List UInt8} (h : Bs w B (.slice (some ⟨b, off, none⟩) n c) l) (k : Nat) (hk : k ≤ l.length) : Bs w B (.slice (some ⟨b, off + k, none⟩) (n - k) (c - k)) (l.drop k) := by
  obtain ⟨A', c', hv, hlc, hn, hA⟩ := h
  cases hv
  refine ⟨_, _, by rw [List.length_drop], by rw [List.length_drop]; omega, (fun h => by simp at h), fun hne => ?_⟩
  obtain ⟨b', off', hb, hlt, hc⟩ := hA (by rintro rfl; simp at hne)
  cases hb
  refine ⟨b, off + k, rfl, hlt, fun j x hj => ?_⟩
  rw [Nat.add_assoc]
  exact hc (k + j) x (by rw [← hj, List.getElem?_drop])

theorem size_no1 (l : List UInt8) (h : l.length < 6) : openR l = .error 1 := by
  unfold openR; rw [if_neg]
  simp only [sizeB, decide_eq_true_eq]; omega
theorem size_no (l : List UInt8) (h : toldOf l + 6 ≠ l.length ∨ 4102 < l.length) : openR l = .error 1 := by
  unfold openR; rw [if_neg]
  simp only [sizeB, decide_eq_true_eq]; omega
theorem size_yes (l : List UInt8) (h1 : toldOf l + 6 = l.length) (h2 : l.length ≤ 4102) : openR l = if sumN (l.take (l.length - 4)) = of4 (l.drop (l.length - 4)) then .ok ((l.drop 2).take (l.length - 6)) else .error 2 := by
  unfold openR; rw [if_pos]
  simp only [sizeB, decide_eq_true_eq]; omega

theorem below_drewN (w : World) (n : Nat) : Below w.heap.size w (w.drewN n) := ⟨rfl, rfl, rfl, Nat.le_refl _, fun _ _ => rfl⟩
theorem bel_drewN {B : Nat} {a w : World} (h : Below B a w) (n : Nat) : Below B a (w.drewN n) := ⟨h.os, h.tape, h.output, h.size, h.block⟩
/-- what the reference's Open gives -/
def OpenPost (w : World) (r : Except Int (List UInt8)) (e : Ending) (w' : World) : Prop := ∃ v, e = .returned (.tuple #[v, .int .i64 (codeX r)]) ∧ Bs w' w'.heap.size v (bytesX r) ∧ Below w.heap.size w w'

theorem told_is {l : List UInt8} {x0 x1 : UInt8} (h0 : l[0]? = some x0) (h1 : l[1]? = some x1) : toldOf l = x0.toNat * 256 + x1.toNat := by
  match l, h0, h1 with
  | a :: b :: r, h0, h1 => simp at h0 h1; subst h0 h1; rfl

/-- what is opened, where the sizes are right -/
theorem open_at (l : List UInt8) (m : Nat) (hl : l.length = m + 4) (hm : m ≤ 4098) (ht : toldOf l + 6 = m + 4) :
    openR l = if sumN (l.take m) = of4 (l.drop m) then .ok ((l.drop 2).take (m - 2)) else .error 2 := by
  rw [size_yes l (by omega) (by omega), hl]
  rfl
theorem drop_eq {l : List UInt8} {m S : Nat} (hl : l.length = m + 4) (hS : S < 4294967296) (h : ∀ j, j < 4 → l[m + j]? = (four S)[j]?) : S = of4 (l.drop m) := by
  have e : l.drop m = four S := by
    apply List.ext_getElem?
    intro j
    rw [List.getElem?_drop]
    rcases Nat.lt_or_ge j 4 with hj | hj
    · exact h j hj
    · rw [List.getElem?_eq_none (by omega), List.getElem?_eq_none (by rw [four_len]; omega)]
  rw [e, of4_four S hS]
theorem drop_ne {l : List UInt8} {m S j : Nat} (hl : l.length = m + 4) (hne : l[m + j]? ≠ (four S)[j]?) : S ≠ of4 (l.drop m) := by
  intro h
  apply hne
  have hd : (l.drop m).length = 4 := by simp; omega
  have : l.drop m = four S := by
    rw [h]
    match l.drop m, hd with
    | [a, b, c, d], _ => rw [four_of4]
  rw [← this, List.getElem?_drop]

end Go.Proofs.Ytfjaeohfigcciab

/- The reader's contracts: a number, one within bounds. -/
namespace Go.Proofs.Ytfjaeohfigcciab
open Go.RowKit

theorem grown_of_below {w w' : World} (h : Below w.heap.size w w') (row : Option Nat) : w.grownBy w' row := ⟨h.os, h.tape, h.output, h.size, fun k hk _ => h.block k hk⟩
theorem grown_set {w w' : World} {g j : Nat} (h : w.grownBy w' (some g)) (v : Value) : w.grownBy (w'.setCell ⟨g, j, none⟩ v) (some g) :=
  ⟨h.os, h.tape, h.output, by simp [h.size], fun k hk hne => (heap_setCell_other w' ⟨g, j, none⟩ k v (fun e => hne (by simp [e]))).trans (h.block k hk hne)⟩
theorem num_no {b : List UInt8} {s : Rd} {n : Nat} (h : s.bad = true ∨ b.length < s.at_ + n) : rdNum b s n = (0, ⟨s.at_, true⟩) := if_pos h
theorem num_yes {b : List UInt8} {s : Rd} {n : Nat} (h : ¬ (s.bad = true ∨ b.length < s.at_ + n)) : rdNum b s n = (valOf ((b.drop s.at_).take n), ⟨s.at_ + n, false⟩) := if_neg h
theorem val_snoc (l : List UInt8) (c : UInt8) : valOf (l ++ [c]) = valOf l * 256 + c.toNat := by simp [valOf]
theorem val_take {b : List UInt8} {p k : Nat} {c : UInt8} (h : b[p + k]? = some c) : valOf ((b.drop p).take (k + 1)) = valOf ((b.drop p).take k) * 256 + c.toNat := by
  rw [List.take_add_one, List.getElem?_drop, h]
  exact val_snoc _ _
theorem val_small {b : List UInt8} {p k : Nat} (hk : k ≤ 3) : valOf ((b.drop p).take k) < 16777216 := by
  have h := val_lt ((b.drop p).take k)
  have hl : ((b.drop p).take k).length ≤ 3 := by simp; omega
  exact Nat.lt_of_lt_of_le h (Nat.le_trans (Nat.pow_le_pow_right (by decide) hl) (by decide))

theorem num_le {b : List UInt8} {s : Rd} {n : Nat} (h : s.at_ ≤ b.length) : (rdNum b s n).2.at_ ≤ b.length := by
  unfold rdNum
  split
  · exact h
  · rename_i hc; simp only [not_or] at hc; show s.at_ + n ≤ b.length; omega
theorem num_lt (b : List UInt8) (s : Rd) (n : Nat) : (rdNum b s n).1 < 256 ^ n := by
  unfold rdNum
  split
  · exact Nat.pow_pos (by decide)
  · have h := val_lt ((b.drop s.at_).take n)
    exact Nat.lt_of_lt_of_le h (Nat.pow_le_pow_right (by decide) (by simp; omega))
theorem Bs.grown {w w' : World} {g : Nat} {bv : Value} {b : List UInt8} (h : Bs w g bv b) (hg : w.grownBy w' (some g)) (hgl : g ≤ w.heap.size) : Bs w' g bv b := by
  obtain ⟨A, c, hv, hlc, hn, hA⟩ := h
  refine ⟨A, c, hv, hlc, hn, fun hne => ?_⟩
  obtain ⟨bb, off, rfl, hlt, hc⟩ := hA hne
  exact ⟨bb, off, rfl, hlt, fun j x hj => (World.cell?_of_block (a := ⟨bb, off + j, none⟩) (hg.block bb (by omega) (by simp; omega))).trans (hc j x hj)⟩
theorem grown_trans {w w1 w2 : World} {r : Option Nat} (h : w.grownBy w1 r) (k : w1.grownBy w2 r) : w.grownBy w2 r :=
  ⟨k.os.trans h.os, k.tape.trans h.tape, k.output.trans h.output, Nat.le_trans h.size k.size, fun i hi hne => (k.block i (Nat.lt_of_lt_of_le hi h.size) hne).trans (h.block i hi hne)⟩
theorem grown_below2 {w w1 w2 : World} {r : Option Nat} (h : w.grownBy w1 r) (k : Below w.heap.size w1 w2) : w.grownBy w2 r :=
  ⟨k.os.trans h.os, k.tape.trans h.tape, k.output.trans h.output, Nat.le_trans h.size k.size, fun i hi hne => (k.block i hi).trans (h.block i hi hne)⟩
theorem Own.grownOther {w w' : World} {base g : Nat} {v : Value} {zs : List Rn} (h : Own w base v zs) (hg : w.grownBy w' (some g)) (hlt : g < base) : Own w' base v zs := by
  refine ⟨h.1, ?_⟩
  rcases h.2 with hn | ⟨k, cap, cur, hv, hb', hk, r⟩
  · exact .inl hn
  · exact .inr ⟨k, cap, cur, hv, hb', (hg.block k (Array.getElem?_eq_some_iff.1 hk).1 (by simp; omega)).trans hk, r⟩
end Go.Proofs.Ytfjaeohfigcciab

/- The reader's contract for runs. -/
namespace Go.Proofs.Ytfjaeohfigcciab
open Go.RowKit

theorem runsN_stop (b : List UInt8) (n : Nat) (acc : List Rn) (s : Rd) (h : s.bad = true) : rdRunsN b n acc s = (acc, s) := by
  cases n with
  | zero => rfl
  | succ n => rw [rdRunsN, if_pos h]
theorem run_ok (b : List UInt8) (s : Rd) : (rdRun b s).1.ok := by
  have h1 := num_lt b s 1
  have h2 := num_lt b (rdNum b s 1).2 4
  have h3 := num_lt b (rdNum b (rdNum b s 1).2 4).2 4
  unfold rdRun Rn.ok
  simp only
  omega
theorem below_grownOwn {w w1 w2 : World} {g : Nat} {v : Value} {zs : List Rn} (h : w.grownBy w1 (some g)) (ho : Own w1 w.heap.size v zs) (k : w1.grownBy w2 v.ownBlock) : w.grownBy w2 (some g) := by
  refine ⟨k.os.trans h.os, k.tape.trans h.tape, k.output.trans h.output, Nat.le_trans h.size k.size, fun i hi hne => (k.block i (Nat.lt_of_lt_of_le hi h.size) ?_).trans (h.block i hi hne)⟩
  intro he
  have := (ho.lt i he.symm).1
  omega

end Go.Proofs.Ytfjaeohfigcciab

