/- append of entries onto a slice of the call's own, and the contract of slices.Clone at entries. -/
import Derived.Test.YtfjaeohfigcciaaDoorIPlace
import Derived.Laws.AppendOwnNone
import Derived.Lib.Walk
import Derived.Lib.SliceRun
namespace Go.Proofs.YtfjaeohfigcciaaDoor
open Go.RowKit

theorem infoEnt : (Tryd.prog.info? 42).map (fun i => (i.zero, i.size, i.bytes)) = some (some (.agg #[.int .u8 0, .int .u8 0, .int .u32 0, .int .u32 0, .int .i64 0, .int .u8 0, .int .u32 0]), 7, 32) := by kernel_rfl

/-- append of entries, from whatever slice of entries -/
theorem append_ents {ops : Array Oper} {rest : List Oper} {o : Oper} {a : Act} {w : World} {Q : Exit → Act → World → Prop} (hgd : o.guard = none) (s x : Operand)
    (ho : o.op = .call { callee := .builtin .append, args := #[s, x], argTypes := #[38, 38] })
    (base : Nat) (v : Value) (zs : List En) (hs : a.eval s = v) (hown : EOwn w base v zs) (B : Nat) (v2 : Value) (ys : List En) (hx : a.eval x = v2) (hsl : ESl w B v2 ys)
    (hlen : zs.length + ys.length ≤ 10000) (hbase : base ≤ w.heap.size)
    (h : ∀ v' w', EOwn w' base v' (zs ++ ys) → w.grownBy w' v.ownBlock → wpList Tryd.prog ops Q rest (a.put o.dst v') w') : wpList Tryd.prog ops Q (o :: rest) a w := by
  obtain ⟨i0, hi, hz0, hz1, hz2⟩ := info_parts infoEnt
  obtain ⟨A, c, rfl, hn, hok, hA⟩ := hsl
  rcases A with _ | ad
  · have hy : ys = [] := by
      by_cases hne : ys = []
      · exact hne
      · obtain ⟨b, off, h, _⟩ := hA hne
        cases h
    subst hy
    obtain rfl := hn rfl
    refine wpList_append_own_none hgd s x 38 ho base 42 i0 7 Tryd.underlying38 hi v zs.length (flatE zs) hs hown hx ?_
    have := h v w (by simpa using hown) ⟨rfl, rfl, rfl, Nat.le_refl _, fun _ _ _ => rfl⟩
    exact this
  · refine wpList_append_own w hgd s x 38 ho base 42 i0 _ 7 32 Tryd.underlying38 hi hz0 hz1 hz2 rfl (by decide) v zs.length (flatE zs) hs hown ad ys.length c (flatE ys) hx (flatE_length ys) ?_ (flatE_one_cell ys) (by unfold maxLen; omega) (by omega) hbase ?_
    · intro j u hu
      have hne : ys ≠ [] := by rintro rfl; simp [flatE] at hu
      obtain ⟨b, off, hbo, _, hc⟩ := hA hne
      cases hbo
      have e : ∀ m, (⟨b, off, none⟩ : Addr).add m = ⟨b, off + m, none⟩ := fun m => by unfold Addr.add; split <;> simp_all
      rw [e]
      exact flat_cells hc j u hu
    · intro v' w' h1 h2 _
      refine h v' w' ?_ h2
      unfold EOwn
      rw [flatE_append, List.length_append]
      exact h1

/-- a slice of the call's own comes back -/
def EOwnPost (w : World) (zs : List En) (e : Ending) (w' : World) : Prop := ∃ v, e = .returned v ∧ EOwn w' w.heap.size v zs ∧ Below w.heap.size w w'

theorem egrown_below {a w w' : World} {B : Nat} {v : Value} {zs : List En} {base : Nat} (h : Below B a w) (ho : EOwn w base v zs) (hg : w.grownBy w' v.ownBlock) (hB : B ≤ base) (hb : B ≤ w.heap.size) : Below B a w' :=
  h.grown hg hb (fun k hk => by have := ho.lt k hk; omega)

set_option maxRecDepth 100000 in
set_option maxHeartbeats 1000000 in
theorem Clone_any (v : Value) (zs : List En) (w : World) (h : ESl w w.heap.size v zs) (hl : zs.length ≤ 10000) : Calls Tryd.prog 41 #[v] w (EOwnPost w zs) := by
  have q22 : ∀ (w : World) (a : Option Addr) (n c n' c' : Nat), (binOp .eql 38 (.slice a n c) (.slice none n' c')).run Tryd.prog w = .ok (.bool a.isNone) w := fun w a n c n' c' => Lib.run_eql_slice_nil w _ _ a n c n' c' Tryd.underlying38
  have HS := Lib.hid h
  obtain ⟨A, c, rfl, hn, hok, hA⟩ := h
  rcases A with _ | ad
  · have hy : zs = [] := by
      by_cases hne : zs = []
      · exact hne
      · obtain ⟨b, off, h, _⟩ := hA hne
        cases h
    subst hy
    obtain rfl := hn rfl
    clear hn hok hA
    go_enter Tryd.func41, Tryd.ntmps41
    go_wp2
    go_ret
    exact ⟨_, rfl, EOwn.nil _ _, Below.refl _ _⟩
  · have HA := Lib.hid hA; clear hA hn hok
    have hown : EOwn (w.alloc (.cells #[] 42)) w.heap.size (.slice (some ⟨w.heap.size, 0, none⟩) 0 0) [] := World.ownsRow_made w #[] 0 (Nat.le_refl _) (Nat.zero_le _) (by simp)
    have HO := Lib.hid hown; clear hown
    have HAL := Lib.hid (al1 w (.cells #[] 42))
    go_enter Tryd.func41, Tryd.ntmps41
    go_wp2_with (at_builtin; (refine append_ents rfl _ _ rfl w.heap.size _ [] rfl HO.out _ _ zs rfl (HS.out.below HAL.out) (by simp; omega) (by simp) ?_); intro v1 w1 ho1 hg1)
    rw [List.nil_append] at ho1
    have HO1 := Lib.hid ho1; clear ho1
    have HG1 := Lib.hid hg1; clear hg1
    go_wp2
    go_ret
    exact ⟨v1, rfl, HO1.out, egrown_below HAL.out HO.out HG1.out (Nat.le_refl _) (by simp)⟩
end Go.Proofs.YtfjaeohfigcciaaDoor
