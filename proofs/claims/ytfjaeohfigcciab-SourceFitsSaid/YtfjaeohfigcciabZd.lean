/- Texts in one: IPlace, IEApp, IClone, IIns0, IIns, IInsG, ITake, IMath. -/
import Derived.Test.YtfjaeohfigcciabZc
import Derived.Deep.LoopGhost
import Derived.Laws.AppendOwnNone
import Derived.Lib.Walk
import Derived.Lib.SliceRun
import Derived.Laws.IdiomCopy
import Derived.Laws.Externs
import Derived.Lib.Overlaps
import Derived.Lib.JoinLaws
import Derived.Lib.AppendZerosOnto
import Derived.Laws.NewBlocks
import Derived.Shelf.Spec.SlicesInsert
import Derived.Shelf.Spec.SlicesInsertGrow
/- The contracts of item.place and of slices.BinarySearchFunc below it: where an ID is, or would be, and whether it is there. -/
namespace Go.Proofs.Ytfjaeohfigcciab
open Go.RowKit

/-- how many entries stand ahead of an ID -/
def posE (zs : List En) (id : Int) : Nat := zs.countP fun x => decide (x.id < id)

theorem count_at (p : En → Bool) : ∀ (l : List En) (i : Nat), i ≤ l.length → (∀ t, t < i → p l[t]! = true) → (∀ t, i ≤ t → t < l.length → p l[t]! = false) → l.countP p = i
  | [], i, hi, _, _ => by simp at hi; simp [hi]
  | a :: r, 0, _, _, h2 => by
    rw [List.countP_eq_zero]
    intro x hx
    obtain ⟨t, ht, rfl⟩ := List.getElem_of_mem hx
    have := h2 t (Nat.zero_le _) ht
    rw [getElem!_pos (a :: r) t ht] at this
    simp [this]
  | a :: r, i + 1, hi, h1, h2 => by
    have ha : p a = true := by simpa using h1 0 (Nat.succ_pos _)
    rw [List.countP_cons_of_pos ha, count_at p r i (by simpa using hi) (fun t ht => by simpa using h1 (t + 1) (by omega)) (fun t h3 h4 => by simpa using h2 (t + 1) (by omega) (by simpa using h4))]

theorem icmp_neg (a b : Int) : icmpI a b < 0 ↔ a < b := by
  unfold icmpI
  split
  · simp [*]
  · split <;> simp [*]
theorem icmp_zero (a b : Int) : icmpI a b = 0 ↔ a = b := by
  unfold icmpI
  split
  · constructor <;> intro <;> omega
  · split
    · constructor <;> intro <;> omega
    · constructor <;> intro <;> omega

end Go.Proofs.Ytfjaeohfigcciab

/- append of entries onto a slice of the call's own; a slice of one entry. -/
namespace Go.Proofs.Ytfjaeohfigcciab
open Go.RowKit

theorem infoEnt : (Try.prog.info? 43).map (fun i => (i.zero, i.size, i.bytes)) = some (some (.agg #[.int .u8 0, .int .u8 0, .int .u32 0, .int .u32 0, .int .i64 0, .int .u8 0, .int .u32 0]), 7, 32) := by kernel_rfl

/-- append of entries, from whatever slice of entries -/
theorem append_ents {ops : Array Oper} {rest : List Oper} {o : Oper} {a : Act} {w : World} {Q : Exit → Act → World → Prop} (hgd : o.guard = none) (s x : Operand)
    (ho : o.op = .call { callee := .builtin .append, args := #[s, x], argTypes := #[24, 24] })
    (base : Nat) (v : Value) (zs : List En) (hs : a.eval s = v) (hown : EOwn w base v zs) (B : Nat) (v2 : Value) (ys : List En) (hx : a.eval x = v2) (hsl : ESl w B v2 ys)
    (hlen : zs.length + ys.length ≤ 10000) (hbase : base ≤ w.heap.size)
    (h : ∀ v' w', EOwn w' base v' (zs ++ ys) → w.grownBy w' v.ownBlock → wpList Try.prog ops Q rest (a.put o.dst v') w') : wpList Try.prog ops Q (o :: rest) a w := by
  obtain ⟨i0, hi, hz0, hz1, hz2⟩ := info_parts infoEnt
  obtain ⟨A, c, rfl, hn, hok, hA⟩ := hsl
  rcases A with _ | ad
  · have hy : ys = [] := by
      by_cases hne : ys = []
      · exact hne
      · obtain ⟨b, off, h, _⟩ := hA hne
        cases h
    subst hy
    obtain rfl := hn.1 rfl
    refine wpList_append_own_none hgd s x 24 ho base 43 i0 7 Try.underlying24 hi v zs.length (flatE zs) hs hown hx ?_
    have := h v w (by simpa using hown) ⟨rfl, rfl, rfl, Nat.le_refl _, fun _ _ _ => rfl⟩
    exact this
  · refine wpList_append_own w hgd s x 24 ho base 43 i0 _ 7 32 Try.underlying24 hi hz0 hz1 hz2 rfl (by decide) v zs.length (flatE zs) hs hown ad ys.length c (flatE ys) hx (flatE_length ys) ?_ (flatE_one_cell ys) (by unfold maxLen; omega) (by omega) hbase ?_
    · intro j u hu
      have hne : ys ≠ [] := by rintro rfl; simp [flatE] at hu
      obtain ⟨b, off, hbo, _, hc⟩ := hA hne
      cases hbo
      have e : ∀ m, (⟨b, off, none⟩ : Addr).add m = ⟨b, off + m, none⟩ := fun m => by unfold Addr.add; split <;> simp_all
      rw [e]
      exact flat_cells hc j u hu
    · intro v' w' h1 h2 _
      refine h v' w' ?_ h2
      unfold EOwn
      rw [flatE_append, List.length_append]
      exact h1

/-- a slice of the call's own comes back -/
def EOwnPost (w : World) (zs : List En) (e : Ending) (w' : World) : Prop := ∃ v, e = .returned v ∧ EOwn w' w.heap.size v zs ∧ Below w.heap.size w w'

theorem egrown_below {a w w' : World} {B : Nat} {v : Value} {zs : List En} {base : Nat} (h : Below B a w) (ho : EOwn w base v zs) (hg : w.grownBy w' v.ownBlock) (hB : B ≤ base) (hb : B ≤ w.heap.size) : Below B a w' :=
  h.grown hg hb (fun k hk => by have := ho.lt k hk; omega)

theorem one_esl (w : World) (x : En) (hx : x.ok) : ESl (w.alloc (.cells #[.int .u8 x.id, .int .u8 x.rep, .int .u32 x.seq, .int .u32 x.stamp, .int .i64 x.kind, .int .u8 x.cls, .int .u32 x.val] 43)) (w.heap.size + 1) (.slice (some ⟨w.heap.size, 0, none⟩) 1 1) [x] := by
  refine ⟨some ⟨w.heap.size, 0, none⟩, 1, rfl, ⟨(fun h => by simp at h), by simp⟩, by simpa using hx, fun _ => ⟨w.heap.size, 0, rfl, by omega, fun j y hj => ?_⟩⟩
  match j, hj with
  | 0, hj => simp at hj; subst hj; exact new_entry w x _
  | j + 1, hj => simp at hj

theorem one_esl' (w : World) (g : Nat) (id rep seq stamp kind cls val : Int) (hg : g = w.heap.size) (hx : En.ok ⟨id, rep, seq, stamp, kind, cls, val⟩) : ESl (w.alloc (.cells #[.int .u8 id, .int .u8 rep, .int .u32 seq, .int .u32 stamp, .int .i64 kind, .int .u8 cls, .int .u32 val] 43)) (g + 1) (.slice (some ⟨g, 0, none⟩) 1 1) [⟨id, rep, seq, stamp, kind, cls, val⟩] := by
  subst hg
  exact one_esl w ⟨id, rep, seq, stamp, kind, cls, val⟩ hx

end Go.Proofs.Ytfjaeohfigcciab

/- append of entries onto a slice of the call's own, and the contract of slices.Clone at entries. -/
namespace Go.Proofs.Ytfjaeohfigcciab
open Go.RowKit

end Go.Proofs.Ytfjaeohfigcciab

/- What copy does to a row of entries: lemmas for slices.Insert. -/
namespace Go.Proofs.Ytfjaeohfigcciab
open Go.RowKit

/-- copy of elements of k cells: all is read before anything is written -/
theorem run_copyK {P : Program} (w : World) (dT sT ty elem : TypeId) (k b o dLen dCap : Nat) (a : Addr) (sLen sCap : Nat) (cs : List Value)
    (hu : P.underlying dT = some (.slice elem)) (hs : (P.info? elem).map (·.size) = some k) (hn : cs.length = Nat.min sLen dLen * k)
    (hsrc : ∀ j v, cs[j]? = some v → w.cell? (a.add j) = some v) (hc : ∀ j, j < cs.length → (w.cell? ⟨b, o + j, none⟩).isSome = true) (hf : ∀ j, j < cs.length → w.frozen? ⟨b, o + j, none⟩ = false) (h1 : ∀ v ∈ cs, v.oneCell' = true) :
    (Builtin.copy_ #[dT, sT] ty #[.slice (some ⟨b, o, none⟩) dLen dCap, .slice (some a) sLen sCap]).run P w = .ok (goInt (Nat.min sLen dLen)) (w.setCells b o cs) := by
  have hl := run_loadCells_list (P := P) w a cs hsrc
  have hst := run_storeCells_cells (P := P) b o cs 0 w (by simpa using hc) (by simpa using hf) h1
  rw [hn] at hl
  cases hq : P.info? elem with
  | none => simp [hq] at hs
  | some i =>
    have hi : i.size = k := by simpa [hq] using hs
    simp [Builtin.copy_, run_underlying hu, Builtin.lenOf, Builtin.firstCells, sizeOf, typeInfo, hq, hi, hl, hst]

/-- cells laid over a list from a place on -/
def over (l : List Value) (o : Nat) (vs : List Value) : List Value := l.take o ++ vs ++ l.drop (o + vs.length)
theorem over_length {l : List Value} {o : Nat} {vs : List Value} (h : o + vs.length ≤ l.length) : (over l o vs).length = l.length := by
  simp only [over, List.length_append, List.length_take, List.length_drop]
  omega
theorem over_nil (l : List Value) (o : Nat) : over l o [] = l := by simp [over]
theorem over_cons {l : List Value} {o : Nat} {v : Value} {r : List Value} (h : o < l.length) : over (l.set o v) (o + 1) r = over l o (v :: r) := by
  simp only [over, List.length_cons]
  rw [List.drop_set_of_lt (by omega), show o + 1 + r.length = o + (r.length + 1) by omega]
  have : (l.set o v).take (o + 1) = l.take o ++ [v] := by
    rw [List.take_set, List.take_succ_eq_append_getElem h, List.set_append_right _ _ (by simp; omega)]
    simp [Nat.min_eq_left (Nat.le_of_lt h)]
  rw [this]
  simp

theorem heap_over (g : Nat) (e : TypeId) : ∀ (vs : List Value) (o : Nat) (w : World) (cur : Array Value), w.heap[g]? = some (.cells cur e (0, 0)) → o + vs.length ≤ cur.size →
    ∃ cur' : Array Value, (w.setCells g o vs).heap[g]? = some (.cells cur' e (0, 0)) ∧ cur'.toList = over cur.toList o vs
  | [], o, w, cur, h, _ => ⟨cur, h, (over_nil _ _).symm⟩
  | v :: r, o, w, cur, h, hb => by
    simp only [List.length_cons] at hb
    obtain ⟨cur', h1, h2⟩ := heap_over g e r (o + 1) (w.setCell ⟨g, o, none⟩ v) (cur.setIfInBounds o v) (heap_setCell_same w g o cur e v h) (by simp; omega)
    refine ⟨cur', h1, ?_⟩
    rw [h2, Array.toList_setIfInBounds, over_cons (by simp; omega)]

theorem below_setCells {B : Nat} {a : World} (g : Nat) (hg : B ≤ g) : ∀ (vs : List Value) (o : Nat) (w : World), Below B a w → Below B a (w.setCells g o vs)
  | [], _, _, h => h
  | v :: r, o, w, h => below_setCells g hg r (o + 1) (w.setCell ⟨g, o, none⟩ v) (h.setCell (p := ⟨g, o, none⟩) hg v)

/-- the list with one more entry -/
def insL (zs : List En) (i : Nat) (x : En) : List En := zs.take i ++ x :: zs.drop i
theorem insL_length (zs : List En) (i : Nat) (x : En) (hi : i ≤ zs.length) : (insL zs i x).length = zs.length + 1 := by
  simp only [insL, List.length_append, List.length_take, List.length_cons, List.length_drop]
  omega
theorem insL_flat (zs : List En) (i : Nat) (x : En) : flatE (insL zs i x) = flatE (zs.take i) ++ x.enc ++ flatE (zs.drop i) := by
  rw [insL, flatE_append, flatE_cons, List.append_assoc]
theorem insL_end (zs : List En) (x : En) : insL zs zs.length x = zs ++ [x] := by simp [insL]

/-- what was from i on moved up, then the new one laid in -/
theorem shift_list (L : List Value) (zs : List En) (i : Nat) (x : En) (hi : i < zs.length) (hL : (zs.length + 1) * 7 ≤ L.length) (ht : L.take (zs.length * 7) = flatE zs) :
    (over (over L ((i + 1) * 7) (flatE (zs.drop i))) (i * 7) x.enc).take ((zs.length + 1) * 7) = flatE (insL zs i x) := by
  have hdl : (flatE (zs.drop i)).length = (zs.length - i) * 7 := by rw [flatE_length, List.length_drop]
  have h1 : (over L ((i + 1) * 7) (flatE (zs.drop i))).take (i * 7) = flatE (zs.take i) := by
    rw [over, List.append_assoc, List.take_append_of_le_length (by rw [List.length_take]; omega), List.take_take, Nat.min_eq_left (by omega), flatE_take, ← ht, List.take_take, Nat.min_eq_left (by omega)]
  have h2 : (over L ((i + 1) * 7) (flatE (zs.drop i))).drop (i * 7 + x.enc.length) = flatE (zs.drop i) ++ L.drop ((i + 1) * 7 + (flatE (zs.drop i)).length) := by
    rw [enc_length, over, List.append_assoc, List.drop_append, List.drop_of_length_le (by rw [List.length_take]; omega), List.nil_append, List.length_take, show i * 7 + 7 - min ((i + 1) * 7) L.length = 0 by omega, List.drop_zero]
  rw [over, h1, h2, insL_flat, ← List.append_assoc, List.take_append_of_le_length]
  · rw [List.take_of_length_le]
    simp only [List.length_append, hdl, enc_length, flatE_length, List.length_take]
    omega
  · simp only [List.length_append, hdl, enc_length, flatE_length, List.length_take]
    omega

/-- the new one laid in, then what was from i on behind it -/
theorem grow_list (L : List Value) (zs : List En) (i : Nat) (x : En) (hi : i < zs.length) (hL : (zs.length + 1) * 7 ≤ L.length) (ht : L.take (i * 7) = flatE (zs.take i)) :
    (over (over L (i * 7) x.enc) ((i + 1) * 7) (flatE (zs.drop i))).take ((zs.length + 1) * 7) = flatE (insL zs i x) := by
  have hdl : (flatE (zs.drop i)).length = (zs.length - i) * 7 := by rw [flatE_length, List.length_drop]
  have htl : (flatE (zs.take i)).length = i * 7 := by rw [flatE_length, List.length_take]; omega
  have h1 : (over L (i * 7) x.enc).take ((i + 1) * 7) = flatE (zs.take i) ++ x.enc := by
    rw [over, ht, List.take_append_of_le_length (by simp [htl, enc_length]; omega), List.take_of_length_le (by simp [htl, enc_length]; omega)]
  rw [over, h1, insL_flat, List.take_append_of_le_length, List.take_of_length_le]
  · simp only [List.length_append, hdl, htl, enc_length]; omega
  · simp only [List.length_append, hdl, htl, enc_length]; omega
end Go.Proofs.Ytfjaeohfigcciab

/- The contract of slices.Insert of one entry into a slice of the call's own. -/
namespace Go.Proofs.Ytfjaeohfigcciab
open Go.RowKit Go.Lib

theorem sizeEnt : (Try.prog.info? 43).map (·.size) = some 7 := by kernel_rfl

/-- the slice of one entry, in a block of its own -/
structure OneNew (w : World) (vb : Nat) (x : En) : Prop where
  blk : w.heap[vb]? = some (.cells #[.int .u8 x.id, .int .u8 x.rep, .int .u32 x.seq, .int .u32 x.stamp, .int .i64 x.kind, .int .u8 x.cls, .int .u32 x.val] 43 (0, 0))

theorem OneNew.at {w : World} {vb : Nat} {x : En} (h : OneNew w vb x) : EnAt w vb 0 x := by
  have hc : ∀ i, w.cell? ⟨vb, i, none⟩ = x.enc[i]? := fun i => by
    rw [cell_of_row w vb i _ _ _ h.blk]
    simp [En.enc]
  intro i u hu
  rw [Nat.zero_add, hc i]
  exact hu
theorem OneNew.sl {w : World} {vb : Nat} {x : En} (h : OneNew w vb x) (hx : x.ok) : ESl w w.heap.size (.slice (some ⟨vb, 0, none⟩) 1 1) [x] := by
  refine ⟨some ⟨vb, 0, none⟩, 1, rfl, ⟨(fun h => by simp at h), by simp⟩, by simpa using hx, fun _ => ⟨vb, 0, rfl, (Array.getElem?_eq_some_iff.1 h.blk).1, fun j y hj => ?_⟩⟩
  match j, hj with
  | 0, hj => simp at hj; subst hj; exact h.at
  | j + 1, hj => simp at hj

/-- what is told of an insertion -/
def InsPost (w : World) (base : Nat) (zs : List En) (i : Nat) (x : En) (e : Ending) (w' : World) : Prop := ∃ v, e = .returned v ∧ EOwn w' base v (insL zs i x) ∧ Below base w w'

end Go.Proofs.Ytfjaeohfigcciab

/- The contract of slices.Insert of one entry into a slice of the call's own, where there is no room; and of all roads together. -/
namespace Go.Proofs.Ytfjaeohfigcciab
open Go.RowKit Go.Lib

end Go.Proofs.Ytfjaeohfigcciab

/- The contract of item.Take. -/
namespace Go.Proofs.Ytfjaeohfigcciab
open Go.RowKit

def takeL (zs : List En) (e : En) : List En :=
  if (decide (posE zs e.id < zs.length) && decide (zs[posE zs e.id]!.id = e.id)) = true then (if repB e zs[posE zs e.id]! = true then zs.set (posE zs e.id) e else zs) else insL zs (posE zs e.id) e

theorem posE_le (zs : List En) (id : Int) : posE zs id ≤ zs.length := List.countP_le_length

theorem right_step {zs : List En} (h : erightB zs = true) {j : Nat} (hj : j + 1 < zs.length) : zs[j]!.id < zs[j + 1]!.id := by
  simp only [erightB, List.all_eq_true, List.mem_range] at h
  have := h (j + 1) hj
  simp only [eokAt, Bool.and_eq_true, Bool.or_eq_true, decide_eq_true_eq, Nat.add_sub_cancel] at this
  rcases this.2 with h | h
  · omega
  · exact h
theorem right_le {zs : List En} (h : erightB zs = true) (a : Nat) : ∀ d, a + d < zs.length → zs[a]!.id ≤ zs[a + d]!.id
  | 0, _ => Int.le_refl _
  | d + 1, hd => by
    have h1 := right_le h a d (by omega)
    have h2 := right_step h (j := a + d) (by omega)
    rw [show a + (d + 1) = a + d + 1 by omega]
    omega
theorem right_mono {zs : List En} (h : erightB zs = true) (id : Int) : ∀ a b, a ≤ b → b < zs.length → zs[b]!.id < id → zs[a]!.id < id := fun a b hab hb hlt => by
  have := right_le h a (b - a) (by omega)
  rw [show a + (b - a) = b by omega] at this
  omega

theorem set_step (a : List Value) (l : List Value) (j k : Nat) (v : Value) (ha : a.length = 7) : (a ++ l).set ((j + 1) * 7 + k) v = a ++ l.set (j * 7 + k) v := by
  rw [List.set_append_right _ _ (by omega), ha, show (j + 1) * 7 + k - 7 = j * 7 + k by omega]
theorem flatE_set (zs : List En) (j : Nat) (x : En) (hj : j < zs.length) :
    (((((((flatE zs).set (j * 7) (.int .u8 x.id)).set (j * 7 + 1) (.int .u8 x.rep)).set (j * 7 + 2) (.int .u32 x.seq)).set (j * 7 + 3) (.int .u32 x.stamp)).set (j * 7 + 4) (.int .i64 x.kind)).set (j * 7 + 5) (.int .u8 x.cls)).set (j * 7 + 6) (.int .u32 x.val) = flatE (zs.set j x) := by
  induction zs generalizing j with
  | nil => simp at hj
  | cons y l ih =>
    match j, hj with
    | 0, _ => simp [flatE, En.enc]
    | j + 1, hj =>
      have := ih j (by simpa using hj)
      rw [List.set_cons_succ, flatE_cons, flatE_cons, ← this]
      have e0 := set_step y.enc (flatE l) j 0 (.int .u8 x.id) rfl
      simp only [Nat.add_zero] at e0
      rw [e0, set_step _ _ _ _ _ rfl, set_step _ _ _ _ _ rfl, set_step _ _ _ _ _ rfl, set_step _ _ _ _ _ rfl, set_step _ _ _ _ _ rfl, set_step _ _ _ _ _ rfl]

/-- the world with an entry stored at a place -/
def putEn (w : World) (g o : Nat) (x : En) : World := ((((((w.setCell ⟨g, o, none⟩ (.int .u8 x.id)).setCell ⟨g, o + 1, none⟩ (.int .u8 x.rep)).setCell ⟨g, o + 2, none⟩ (.int .u32 x.seq)).setCell ⟨g, o + 3, none⟩ (.int .u32 x.stamp)).setCell ⟨g, o + 4, none⟩ (.int .i64 x.kind)).setCell ⟨g, o + 5, none⟩ (.int .u8 x.cls)).setCell ⟨g, o + 6, none⟩ (.int .u32 x.val)

theorem EOwn.put {w : World} {base g c : Nat} {zs : List En} (h : EOwn w base (.slice (some ⟨g, 0, none⟩) zs.length c) zs) {j : Nat} (hj : j < zs.length) (x : En) (hb : base ≤ g) :
    EOwn (putEn w g (j * 7) x) base (.slice (some ⟨g, 0, none⟩) zs.length c) (zs.set j x) ∧ Below base w (putEn w g (j * 7) x) := by
  refine ⟨?_, ?_⟩
  · have a := ((((((((h : w.ownsRow _ _ _ _ _ _).stored (j * 7) (.int .u8 x.id)).1.stored (j * 7 + 1) (.int .u8 x.rep)).1.stored (j * 7 + 2) (.int .u32 x.seq)).1.stored (j * 7 + 3) (.int .u32 x.stamp)).1.stored (j * 7 + 4) (.int .i64 x.kind)).1.stored (j * 7 + 5) (.int .u8 x.cls)).1.stored (j * 7 + 6) (.int .u32 x.val)).1
    rw [flatE_set zs j x hj] at a
    unfold EOwn
    rw [List.length_set]
    exact a
  · exact (((((((Below.refl _ w).setCell (p := ⟨g, _, none⟩) hb _).setCell (p := ⟨g, _, none⟩) hb _).setCell (p := ⟨g, _, none⟩) hb _).setCell (p := ⟨g, _, none⟩) hb _).setCell (p := ⟨g, _, none⟩) hb _).setCell (p := ⟨g, _, none⟩) hb _).setCell (p := ⟨g, _, none⟩) hb _

theorem frozen_own {w : World} {base g c : Nat} {zs : List En} (h : EOwn w base (.slice (some ⟨g, 0, none⟩) zs.length c) zs) (j : Nat) : w.frozen? ⟨g, j, none⟩ = false := World.ownsRow.frozenAt h j

/-- entries, or a code, come back -/
def TakePost (w : World) (res : Option (List En)) (e : Ending) (w' : World) : Prop :=
  match res with
  | some l => ∃ v, e = .returned (.tuple #[v, .nilIface]) ∧ ESl w' w'.heap.size v l ∧ Below w.heap.size w w'
  | none => e = .returned (.tuple #[.slice none 0 0, .iface 60 (.int .i64 9)]) ∧ Below w.heap.size w w'

def takeR (zs : List En) (e : En) : Option (List En) := if erightB zs = true ∧ reB e = true then some (takeL zs e) else none

theorem takeL_ok {zs : List En} {e : En} (h : ∀ x ∈ zs, x.ok) (he : e.ok) : ∀ x ∈ takeL zs e, x.ok := by
  intro x hx
  unfold takeL at hx
  split at hx
  · split at hx
    · rcases List.mem_or_eq_of_mem_set hx with h1 | h1
      · exact h x h1
      · rw [h1]; exact he
    · exact h x hx
  · simp only [insL, List.mem_append, List.mem_cons] at hx
    rcases hx with h1 | h1 | h1
    · exact h x (List.mem_of_mem_take h1)
    · rw [h1]; exact he
    · exact h x (List.mem_of_mem_drop h1)

theorem oneNew_alloc (w : World) (x : En) : OneNew (w.alloc (.cells #[.int .u8 x.id, .int .u8 x.rep, .int .u32 x.seq, .int .u32 x.stamp, .int .i64 x.kind, .int .u8 x.cls, .int .u32 x.val] 43)) w.heap.size x := ⟨heap_alloc_new w _⟩

end Go.Proofs.Ytfjaeohfigcciab

/- What is held after entries were taken: versions by ID, and that the order of taking does not matter. Plain lists. -/
namespace Go.Proofs.Ytfjaeohfigcciab

abbrev Rise (zs : List En) : Prop := zs.Pairwise (fun a b => a.id < b.id)

theorem rise_of_right {zs : List En} (h : erightB zs = true) : Rise zs := by
  refine List.pairwise_iff_getElem.2 ?_
  intro i j hi hj hij
  have h1 := right_le h (i + 1) (j - (i + 1)) (by omega)
  have h2 := right_step h (j := i) (by omega)
  rw [show i + 1 + (j - (i + 1)) = j by omega] at h1
  rw [getElem!_pos zs i hi, getElem!_pos zs (i + 1) (by omega)] at h2
  rw [getElem!_pos zs (i + 1) (by omega), getElem!_pos zs j hj] at h1
  omega
theorem re_of_right {zs : List En} (h : erightB zs = true) : ∀ x ∈ zs, reB x = true := by
  intro x hx
  obtain ⟨i, hi, rfl⟩ := List.mem_iff_getElem.1 hx
  simp only [erightB, List.all_eq_true, List.mem_range] at h
  have := h i hi
  simp only [eokAt, Bool.and_eq_true] at this
  rw [getElem!_pos zs i hi] at this
  exact this.1
theorem right_of {zs : List En} (h : Rise zs) (hr : ∀ x ∈ zs, reB x = true) : erightB zs = true := by
  apply erightB_true
  intro j hj
  have h := List.pairwise_iff_getElem.1 h
  simp only [eokAt, Bool.and_eq_true, Bool.or_eq_true, decide_eq_true_eq]
  refine ⟨by rw [getElem!_pos zs j hj]; exact hr _ (List.getElem_mem hj), ?_⟩
  rcases Nat.eq_zero_or_pos j with h0 | h0
  · exact .inl h0
  · right
    rw [getElem!_pos zs j hj, getElem!_pos zs (j - 1) (by omega)]
    exact h (j - 1) j (by omega) hj (by omega)

def takeS : List En → En → List En
  | [], e => [e]
  | x :: r, e => if x.id < e.id then x :: takeS r e else if x.id = e.id then (if repB e x = true then e else x) :: r else e :: x :: r

theorem takeL_cons_lt {x e : En} {r : List En} (h : x.id < e.id) : takeL (x :: r) e = x :: takeL r e := by
  have hp : posE (x :: r) e.id = posE r e.id + 1 := by simp [posE, List.countP_cons, h]
  have hg : (x :: r)[posE r e.id + 1]! = r[posE r e.id]! := by simp
  unfold takeL
  rw [hp, hg, List.length_cons]
  rw [show decide (posE r e.id + 1 < r.length + 1) = decide (posE r e.id < r.length) by simp]
  split
  · split
    · rw [List.set_cons_succ]
    · rfl
  · simp [insL]
theorem takeL_cons_ge {x e : En} {r : List En} (h : ¬ x.id < e.id) (hr : ∀ y ∈ r, x.id < y.id) : takeL (x :: r) e = if x.id = e.id then (if repB e x = true then e else x) :: r else e :: x :: r := by
  have hp : posE (x :: r) e.id = 0 := by
    simp only [posE, List.countP_eq_zero, List.mem_cons, decide_eq_true_eq]
    rintro y (rfl | hy)
    · exact h
    · have := hr y hy; omega
  unfold takeL
  rw [hp]
  by_cases he : x.id = e.id
  · by_cases hb : repB e x = true
    · simp [he, hb]
    · simp [he, hb]
  · simp [he, insL]
theorem takeL_eq {zs : List En} (e : En) (h : Rise zs) : takeL zs e = takeS zs e := by
  induction zs with
  | nil => simp [takeL, takeS, posE, insL]
  | cons x r ih =>
    have h := List.pairwise_cons.1 h
    by_cases hlt : x.id < e.id
    · rw [takeL_cons_lt hlt, takeS, if_pos hlt, ih h.2]
    · rw [takeL_cons_ge hlt h.1, takeS, if_neg hlt]

theorem mem_takeS {zs : List En} {e y : En} (h : y ∈ takeS zs e) : y = e ∨ y ∈ zs := by
  induction zs with
  | nil => simp [takeS] at h; exact .inl h
  | cons x r ih =>
    unfold takeS at h
    split at h
    · rcases List.mem_cons.1 h with h1 | h1
      · exact .inr (by simp [h1])
      · rcases ih h1 with h2 | h2
        · exact .inl h2
        · exact .inr (by simp [h2])
    · split at h
      · rcases List.mem_cons.1 h with h1 | h1
        · split at h1
          · exact .inl h1
          · exact .inr (by simp [h1])
        · exact .inr (by simp [h1])
      · rcases List.mem_cons.1 h with h1 | h1
        · exact .inl h1
        · exact .inr h1
theorem takeS_rise {zs : List En} (e : En) (h : Rise zs) : Rise (takeS zs e) := by
  induction zs with
  | nil => simp [takeS, Rise]
  | cons x r ih =>
    have h' := List.pairwise_cons.1 h
    unfold takeS
    split
    · next hlt =>
      refine List.pairwise_cons.2 ⟨fun y hy => ?_, ih h'.2⟩
      rcases mem_takeS hy with h1 | h1
      · rw [h1]; exact hlt
      · exact h'.1 y h1
    · split
      · next hlt heq =>
        refine List.pairwise_cons.2 ⟨fun y hy => ?_, h'.2⟩
        have := h'.1 y hy
        split <;> omega
      · next hlt hne =>
        refine List.pairwise_cons.2 ⟨fun y hy => ?_, h⟩
        rcases List.mem_cons.1 hy with h1 | h1
        · rw [h1]; omega
        · have := h'.1 y h1; omega
theorem takeS_length (zs : List En) (e : En) : (takeS zs e).length ≤ zs.length + 1 := by
  induction zs with
  | nil => simp [takeS]
  | cons x r ih =>
    unfold takeS
    split
    · simp only [List.length_cons]; omega
    · split <;> simp
theorem right_take {zs : List En} {e : En} (h : erightB zs = true) (he : reB e = true) : erightB (takeL zs e) = true := by
  rw [takeL_eq e (rise_of_right h)]
  refine right_of (takeS_rise e (rise_of_right h)) fun x hx => ?_
  rcases mem_takeS hx with h1 | h1
  · rw [h1]; exact he
  · exact re_of_right h x h1

/-- the version that is held of an ID -/
def verAt : List En → Int → Option Vr
  | [], _ => none
  | x :: r, id => if x.id = id then some x.ver else verAt r id
theorem verAt_none {zs : List En} {id : Int} (h : ∀ y ∈ zs, id < y.id) : verAt zs id = none := by
  induction zs with
  | nil => rfl
  | cons x r ih =>
    have := h x (by simp)
    rw [verAt, if_neg (by omega), ih (fun y hy => h y (by simp [hy]))]
def mx : Option Vr → Vr → Vr
  | none, v => v
  | some u, v => if ltV u v = true then v else u
def stepV (o : Option Vr) (e : En) (id : Int) : Option Vr := if id = e.id then some (mx o e.ver) else o
theorem rep_ver (e x : En) : (if repB e x = true then e else x).ver = mx (some x.ver) e.ver := by
  unfold mx repB
  by_cases h : ltV x.ver e.ver = true
  · simp [h]
  · by_cases h2 : x.ver = e.ver
    · by_cases h3 : x.kind = 2 ∧ e.kind ≠ 2
      · simp [h2, h3, ltV_irrefl]
      · have : (decide (x.kind = 2) && decide (e.kind ≠ 2)) = false := by
          rw [Bool.eq_false_iff]; simp only [ne_eq, Bool.and_eq_true, decide_eq_true_eq]; exact h3
        rw [this]; simp [h2, ltV_irrefl]
    · simp [h, h2]
theorem rep_id (e x : En) (h : x.id = e.id) : (if repB e x = true then e else x).id = e.id := by split <;> simp [h]
theorem verAt_take {zs : List En} (e : En) (id : Int) (h : Rise zs) : verAt (takeS zs e) id = stepV (verAt zs id) e id := by
  induction zs with
  | nil =>
    simp only [takeS, verAt, stepV, mx]
    by_cases he : id = e.id
    · rw [if_pos he.symm, if_pos he]
    · rw [if_neg (fun h => he h.symm), if_neg he]
  | cons x r ih =>
    have h' := List.pairwise_cons.1 h
    unfold takeS
    by_cases hlt : x.id < e.id
    · rw [if_pos hlt, verAt, verAt, ih h'.2]
      by_cases hx : x.id = id
      · rw [if_pos hx, if_pos hx, stepV, if_neg (by omega)]
      · rw [if_neg hx, if_neg hx]
    · rw [if_neg hlt]
      by_cases he : x.id = e.id
      · rw [if_pos he, verAt, verAt, rep_id e x he, rep_ver]
        by_cases hx : e.id = id
        · rw [if_pos hx, if_pos (by omega), stepV, if_pos hx.symm]
        · rw [if_neg hx, if_neg (by omega), stepV, if_neg (fun h => hx h.symm)]
      · rw [if_neg he, verAt]
        by_cases hx : e.id = id
        · have hn : verAt (x :: r) id = none := verAt_none (fun y hy => by
            rcases List.mem_cons.1 hy with h1 | h1
            · rw [h1]; omega
            · have := h'.1 y h1; omega)
          rw [if_pos hx, hn, stepV, if_pos hx.symm, mx]
        · rw [if_neg hx, stepV, if_neg (fun h => hx h.symm)]

theorem mx_comm (o : Option Vr) (a b : Vr) : mx (some (mx o a)) b = mx (some (mx o b)) a := by
  cases o with
  | none =>
    simp only [mx]
    rcases ltV_total a b with h | h | h
    · simp [h, ltV_asymm h]
    · simp [h]
    · simp [h, ltV_asymm h]
  | some u =>
    simp only [mx]
    by_cases h1 : ltV u a = true
    · by_cases h2 : ltV u b = true
      · simp only [h1, h2, if_true]
        rcases ltV_total a b with h | h | h
        · simp [h, ltV_asymm h]
        · simp [h]
        · simp [h, ltV_asymm h]
      · have h3 : ltV a b = false := by
          by_cases h4 : ltV a b = true
          · exact absurd (ltV_trans h1 h4) h2
          · simpa using h4
        simp [h1, h2, h3]
    · by_cases h2 : ltV u b = true
      · have h3 : ltV b a = false := by
          by_cases h4 : ltV b a = true
          · exact absurd (ltV_trans h2 h4) h1
          · simpa using h4
        simp [h1, h2, h3]
      · simp [h1, h2]
theorem mx_idem (o : Option Vr) (a : Vr) : mx (some (mx o a)) a = mx o a := by
  cases o with
  | none => simp [mx, ltV_irrefl]
  | some u =>
    simp only [mx]
    by_cases h : ltV u a = true
    · simp [h, ltV_irrefl]
    · simp [h]
theorem step_comm (o : Option Vr) (a b : En) (id : Int) : stepV (stepV o a id) b id = stepV (stepV o b id) a id := by
  unfold stepV
  by_cases h1 : id = a.id
  · by_cases h2 : id = b.id
    · rw [if_pos h1, if_pos h2, if_pos h2, if_pos h1, mx_comm]
    · rw [if_pos h1, if_neg h2, if_neg h2, if_pos h1]
  · by_cases h2 : id = b.id
    · rw [if_neg h1, if_pos h2, if_neg h1]
    · rw [if_neg h1, if_neg h2, if_neg h1]
theorem step_idem (o : Option Vr) (a : En) (id : Int) : stepV (stepV o a id) a id = stepV o a id := by
  unfold stepV
  by_cases h1 : id = a.id
  · rw [if_pos h1, if_pos h1, mx_idem]
  · rw [if_neg h1, if_neg h1]
/-- what was held is not less than what is -/
theorem step_up {u : Vr} {o : Option Vr} (e : En) (id : Int) (h : ∃ v, o = some v ∧ ltV v u = false) : ∃ v, stepV o e id = some v ∧ ltV v u = false := by
  obtain ⟨v, rfl, hv⟩ := h
  unfold stepV
  split
  · refine ⟨_, rfl, ?_⟩
    simp only [mx]
    split
    · next h =>
      by_cases h2 : ltV e.ver u = true
      · have := ltV_trans h h2; rw [hv] at this; cases this
      · simpa using h2
    · exact hv
  · exact ⟨v, rfl, hv⟩

/-- lists that rise and hold the same versions are alike -/
theorem held_same : ∀ (xs ys : List En), Rise xs → Rise ys → (∀ id, verAt xs id = verAt ys id) → xs.map (fun x => (x.id, x.ver)) = ys.map (fun x => (x.id, x.ver))
  | [], [], _, _, _ => rfl
  | [], y :: ys, _, _, h => by have := h y.id; simp [verAt] at this
  | x :: xs, [], _, _, h => by have := h x.id; simp [verAt] at this
  | x :: xs, y :: ys, hx, hy, h => by
    have hx' := List.pairwise_cons.1 hx
    have hy' := List.pairwise_cons.1 hy
    have e1 : x.id = y.id := by
      rcases Int.lt_trichotomy x.id y.id with hl | hl | hl
      · have h1 := h x.id
        rw [verAt_none (zs := y :: ys) (fun z hz => by
          rcases List.mem_cons.1 hz with h2 | h2
          · rw [h2]; exact hl
          · have := hy'.1 z h2; omega)] at h1
        simp [verAt] at h1
      · exact hl
      · have h1 := h y.id
        rw [verAt_none (zs := x :: xs) (fun z hz => by
          rcases List.mem_cons.1 hz with h2 | h2
          · rw [h2]; exact hl
          · have := hx'.1 z h2; omega)] at h1
        simp [verAt] at h1
    have e2 : x.ver = y.ver := by
      have h1 := h x.id
      rw [verAt, if_pos rfl, verAt, if_pos e1.symm] at h1
      exact Option.some.inj h1
    have e3 := held_same xs ys hx'.2 hy'.2 (fun id => by
      by_cases hi : x.id = id
      · rw [verAt_none (fun z hz => by have := hx'.1 z hz; omega), verAt_none (fun z hz => by have := hy'.1 z hz; omega)]
      · have h1 := h id
        rw [verAt, if_neg hi, verAt, if_neg (by omega)] at h1
        exact h1)
    rw [List.map_cons, List.map_cons, e1, e2, e3]

theorem verAt_mem {zs : List En} (h : Rise zs) {x : En} (hx : x ∈ zs) : verAt zs x.id = some x.ver := by
  induction zs with
  | nil => cases hx
  | cons y r ih =>
    have h' := List.pairwise_cons.1 h
    rcases List.mem_cons.1 hx with h1 | h1
    · rw [h1, verAt, if_pos rfl]
    · have := h'.1 x h1
      rw [verAt, if_neg (by omega), ih h'.2 h1]

/-- four entries taken, one behind the other -/
def take4 (zs : List En) (a b c d : En) : List En := takeL (takeL (takeL (takeL zs a) b) c) d
theorem take4_ver {zs : List En} (h : erightB zs = true) {a b c d : En} (ha : reB a = true) (hb : reB b = true) (hc : reB c = true) (id : Int) :
    verAt (take4 zs a b c d) id = stepV (stepV (stepV (stepV (verAt zs id) a id) b id) c id) d id := by
  have r0 := rise_of_right h
  have r1 := rise_of_right (right_take h ha)
  have r2 := rise_of_right (right_take (right_take h ha) hb)
  have r3 := rise_of_right (right_take (right_take (right_take h ha) hb) hc)
  unfold take4
  rw [takeL_eq d r3, verAt_take d id r3, takeL_eq c r2, verAt_take c id r2, takeL_eq b r1, verAt_take b id r1, takeL_eq a r0, verAt_take a id r0]
end Go.Proofs.Ytfjaeohfigcciab

