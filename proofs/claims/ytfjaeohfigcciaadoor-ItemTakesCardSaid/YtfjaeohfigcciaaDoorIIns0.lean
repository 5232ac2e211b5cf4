/- What copy does to a row of entries: lemmas for slices.Insert. -/
import Derived.Test.YtfjaeohfigcciaaDoorIClone
import Derived.Laws.IdiomCopy
import Derived.Laws.Externs
import Derived.Lib.Overlaps
import Derived.Lib.JoinLaws
import Derived.Lib.AppendZerosOnto
import Derived.Laws.NewBlocks
namespace Go.Proofs.YtfjaeohfigcciaaDoor
open Go.RowKit

/-- copy of elements of k cells: all is read before anything is written -/
theorem run_copyK {P : Program} (w : World) (dT sT ty elem : TypeId) (k b o dLen dCap : Nat) (a : Addr) (sLen sCap : Nat) (cs : List Value)
    (hu : P.underlying dT = some (.slice elem)) (hs : (P.info? elem).map (·.size) = some k) (hn : cs.length = Nat.min sLen dLen * k)
    (hsrc : ∀ j v, cs[j]? = some v → w.cell? (a.add j) = some v) (hc : ∀ j, j < cs.length → (w.cell? ⟨b, o + j, none⟩).isSome = true) (hf : ∀ j, j < cs.length → w.frozen? ⟨b, o + j, none⟩ = false) (h1 : ∀ v ∈ cs, v.oneCell' = true) :
    (Builtin.copy_ #[dT, sT] ty #[.slice (some ⟨b, o, none⟩) dLen dCap, .slice (some a) sLen sCap]).run P w = .ok (goInt (Nat.min sLen dLen)) (w.setCells b o cs) := by
  have hl := run_loadCells_list (P := P) w a cs hsrc
  have hst := run_storeCells_cells (P := P) b o cs 0 w (by simpa using hc) (by simpa using hf) h1
  rw [hn] at hl
  cases hq : P.info? elem with
  | none => simp [hq] at hs
  | some i =>
    have hi : i.size = k := by simpa [hq] using hs
    simp [Builtin.copy_, run_underlying hu, Builtin.lenOf, Builtin.firstCells, sizeOf, typeInfo, hq, hi, hl, hst]

/-- cells laid over a list from a place on -/
def over (l : List Value) (o : Nat) (vs : List Value) : List Value := l.take o ++ vs ++ l.drop (o + vs.length)
theorem over_length {l : List Value} {o : Nat} {vs : List Value} (h : o + vs.length ≤ l.length) : (over l o vs).length = l.length := by
  simp only [over, List.length_append, List.length_take, List.length_drop]
  omega
theorem over_nil (l : List Value) (o : Nat) : over l o [] = l := by simp [over]
theorem over_cons {l : List Value} {o : Nat} {v : Value} {r : List Value} (h : o < l.length) : over (l.set o v) (o + 1) r = over l o (v :: r) := by
  simp only [over, List.length_cons]
  rw [List.drop_set_of_lt (by omega), show o + 1 + r.length = o + (r.length + 1) by omega]
  have : (l.set o v).take (o + 1) = l.take o ++ [v] := by
    rw [List.take_set, List.take_succ_eq_append_getElem h, List.set_append_right _ _ (by simp; omega)]
    simp [Nat.min_eq_left (Nat.le_of_lt h)]
  rw [this]
  simp

theorem heap_over (g : Nat) (e : TypeId) : ∀ (vs : List Value) (o : Nat) (w : World) (cur : Array Value), w.heap[g]? = some (.cells cur e (0, 0)) → o + vs.length ≤ cur.size →
    ∃ cur' : Array Value, (w.setCells g o vs).heap[g]? = some (.cells cur' e (0, 0)) ∧ cur'.toList = over cur.toList o vs
  | [], o, w, cur, h, _ => ⟨cur, h, (over_nil _ _).symm⟩
  | v :: r, o, w, cur, h, hb => by
    simp only [List.length_cons] at hb
    obtain ⟨cur', h1, h2⟩ := heap_over g e r (o + 1) (w.setCell ⟨g, o, none⟩ v) (cur.setIfInBounds o v) (heap_setCell_same w g o cur e v h) (by simp; omega)
    refine ⟨cur', h1, ?_⟩
    rw [h2, Array.toList_setIfInBounds, over_cons (by simp; omega)]

theorem below_setCells {B : Nat} {a : World} (g : Nat) (hg : B ≤ g) : ∀ (vs : List Value) (o : Nat) (w : World), Below B a w → Below B a (w.setCells g o vs)
  | [], _, _, h => h
  | v :: r, o, w, h => below_setCells g hg r (o + 1) (w.setCell ⟨g, o, none⟩ v) (h.setCell (p := ⟨g, o, none⟩) hg v)

/-- the list with one more entry -/
def insL (zs : List En) (i : Nat) (x : En) : List En := zs.take i ++ x :: zs.drop i
theorem insL_length (zs : List En) (i : Nat) (x : En) (hi : i ≤ zs.length) : (insL zs i x).length = zs.length + 1 := by
  simp only [insL, List.length_append, List.length_take, List.length_cons, List.length_drop]
  omega
theorem insL_flat (zs : List En) (i : Nat) (x : En) : flatE (insL zs i x) = flatE (zs.take i) ++ x.enc ++ flatE (zs.drop i) := by
  rw [insL, flatE_append, flatE_cons, List.append_assoc]
theorem insL_end (zs : List En) (x : En) : insL zs zs.length x = zs ++ [x] := by simp [insL]

/-- what was from i on moved up, then the new one laid in -/
theorem shift_list (L : List Value) (zs : List En) (i : Nat) (x : En) (hi : i < zs.length) (hL : (zs.length + 1) * 7 ≤ L.length) (ht : L.take (zs.length * 7) = flatE zs) :
    (over (over L ((i + 1) * 7) (flatE (zs.drop i))) (i * 7) x.enc).take ((zs.length + 1) * 7) = flatE (insL zs i x) := by
  have hdl : (flatE (zs.drop i)).length = (zs.length - i) * 7 := by rw [flatE_length, List.length_drop]
  have h1 : (over L ((i + 1) * 7) (flatE (zs.drop i))).take (i * 7) = flatE (zs.take i) := by
    rw [over, List.append_assoc, List.take_append_of_le_length (by rw [List.length_take]; omega), List.take_take, Nat.min_eq_left (by omega), flatE_take, ← ht, List.take_take, Nat.min_eq_left (by omega)]
  have h2 : (over L ((i + 1) * 7) (flatE (zs.drop i))).drop (i * 7 + x.enc.length) = flatE (zs.drop i) ++ L.drop ((i + 1) * 7 + (flatE (zs.drop i)).length) := by
    rw [enc_length, over, List.append_assoc, List.drop_append, List.drop_of_length_le (by rw [List.length_take]; omega), List.nil_append, List.length_take, show i * 7 + 7 - min ((i + 1) * 7) L.length = 0 by omega, List.drop_zero]
  rw [over, h1, h2, insL_flat, ← List.append_assoc, List.take_append_of_le_length]
  · rw [List.take_of_length_le]
    simp only [List.length_append, hdl, enc_length, flatE_length, List.length_take]
    omega
  · simp only [List.length_append, hdl, enc_length, flatE_length, List.length_take]
    omega

/-- the new one laid in, then what was from i on behind it -/
theorem grow_list (L : List Value) (zs : List En) (i : Nat) (x : En) (hi : i < zs.length) (hL : (zs.length + 1) * 7 ≤ L.length) (ht : L.take (i * 7) = flatE (zs.take i)) :
    (over (over L (i * 7) x.enc) ((i + 1) * 7) (flatE (zs.drop i))).take ((zs.length + 1) * 7) = flatE (insL zs i x) := by
  have hdl : (flatE (zs.drop i)).length = (zs.length - i) * 7 := by rw [flatE_length, List.length_drop]
  have htl : (flatE (zs.take i)).length = i * 7 := by rw [flatE_length, List.length_take]; omega
  have h1 : (over L (i * 7) x.enc).take ((i + 1) * 7) = flatE (zs.take i) ++ x.enc := by
    rw [over, ht, List.take_append_of_le_length (by simp [htl, enc_length]; omega), List.take_of_length_le (by simp [htl, enc_length]; omega)]
  rw [over, h1, insL_flat, List.take_append_of_le_length, List.take_of_length_le]
  · simp only [List.length_append, hdl, htl, enc_length]; omega
  · simp only [List.length_append, hdl, htl, enc_length]; omega
end Go.Proofs.YtfjaeohfigcciaaDoor
