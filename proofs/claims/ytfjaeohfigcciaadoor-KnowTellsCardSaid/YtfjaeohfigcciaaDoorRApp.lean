/- append onto a slice of runs that is the call's own; a block that grew. -/
import Derived.Test.YtfjaeohfigcciaaDoorMem
import Derived.Test.YtfjaeohfigcciaaDoorRows
import Derived.WalkKit
import Derived.Laws.AppendOwnNone
import Derived.Lib.Hide
namespace Go.Proofs.YtfjaeohfigcciaaDoor
open Go.RowKit Go.Sort

theorem infoRun : (Tryd.prog.info? 51).map (fun i => (i.zero, i.size, i.bytes)) = some (some (.agg #[.int .u8 0, .int .u32 0, .int .u32 0]), 3, 12) := by kernel_rfl

/-- append of runs, from whatever slice of runs -/
theorem append_runs {ops : Array Oper} {rest : List Oper} {o : Oper} {a : Act} {w : World} {Q : Exit → Act → World → Prop} (hgd : o.guard = none) (s x : Operand)
    (ho : o.op = .call { callee := .builtin .append, args := #[s, x], argTypes := #[22, 22] })
    (base : Nat) (v : Value) (zs : List Rn) (hs : a.eval s = v) (hown : Own w base v zs) (B : Nat) (v2 : Value) (ys : List Rn) (hx : a.eval x = v2) (hsl : Sl w B v2 ys)
    (hlen : zs.length + ys.length ≤ 10000) (hbase : base ≤ w.heap.size)
    (h : ∀ v' w', Own w' base v' (zs ++ ys) → w.grownBy w' v.ownBlock → wpList Tryd.prog ops Q rest (a.put o.dst v') w') : wpList Tryd.prog ops Q (o :: rest) a w := by
  obtain ⟨i0, hi, hz0, hz1, hz2⟩ := info_parts infoRun
  obtain ⟨A, c, rfl, hn, hok, hA⟩ := hsl
  rcases A with _ | ad
  · have hy : ys = [] := by
      by_cases hne : ys = []
      · exact hne
      · obtain ⟨b, off, h, _⟩ := hA hne
        cases h
    subst hy
    obtain rfl := hn rfl
    refine wpList_append_own_none hgd s x 22 ho base 51 i0 3 Tryd.underlying22 hi v zs.length (flat zs) hs hown hx ?_
    have := h v w (by simpa using hown) ⟨rfl, rfl, rfl, Nat.le_refl _, fun _ _ _ => rfl⟩
    exact this
  · refine wpList_append_own w hgd s x 22 ho base 51 i0 _ 3 12 Tryd.underlying22 hi hz0 hz1 hz2 rfl (by decide) v zs.length (flat zs) hs hown ad ys.length c (flat ys) hx (flat_length ys) ?_ (flat_one_cell ys) (by unfold maxLen; omega) (by omega) hbase ?_
    · intro j u hu
      have hjl : j < ys.length * 3 := by
        have := (List.getElem?_eq_some_iff.1 hu).1
        rw [flat_length] at this
        exact this
      have hne : ys ≠ [] := by rintro rfl; simp at hjl
      obtain ⟨b, off, hbo, _, hc⟩ := hA hne
      cases hbo
      have hj3 : j / 3 < ys.length := by omega
      have hg := flat_get ys (j / 3) (j % 3) ys[j / 3] (List.getElem?_eq_getElem hj3) (by omega)
      rw [show j / 3 * 3 + j % 3 = j by omega, hu] at hg
      obtain ⟨q0, q1, q2⟩ := hc (j / 3) _ (List.getElem?_eq_getElem hj3)
      generalize ys[j / 3] = y at hg q0 q1 q2
      have e : ∀ m, (⟨b, off, none⟩ : Addr).add m = ⟨b, off + m, none⟩ := fun m => by unfold Addr.add; split <;> simp_all
      rw [e]
      have h3 : j % 3 = 0 ∨ j % 3 = 1 ∨ j % 3 = 2 := by omega
      rcases h3 with h3 | h3 | h3
      · rw [h3] at hg; simp [Rn.enc] at hg; subst hg
        rw [show off + j = off + j / 3 * 3 by omega]; exact q0
      · rw [h3] at hg; simp [Rn.enc] at hg; subst hg
        rw [show off + j = off + j / 3 * 3 + 1 by omega]; exact q1
      · rw [h3] at hg; simp [Rn.enc] at hg; subst hg
        rw [show off + j = off + j / 3 * 3 + 2 by omega]; exact q2
    · intro v' w' h1 h2 _
      refine h v' w' ?_ h2
      unfold Own
      rw [flat_append, List.length_append]
      exact h1

/-- a slice of one run, just built -/
theorem one_sl (w : World) (g : Nat) (r lo hi : Int) (hg : g = w.heap.size) (hx : Rn.ok ⟨r, lo, hi⟩) : Sl (w.alloc (.cells #[.int .u8 r, .int .u32 lo, .int .u32 hi] 51)) (g + 1) (.slice (some ⟨g, 0, none⟩) 1 1) [⟨r, lo, hi⟩] := by
  subst hg
  refine ⟨some ⟨w.heap.size, 0, none⟩, 1, rfl, (fun h => by simp at h), by simpa using hx, fun _ => ⟨w.heap.size, 0, rfl, by omega, fun j y hj => ?_⟩⟩
  match j, hj with
  | 0, hj => simp at hj; subst hj; exact ⟨by simp, by simp, by simp⟩
  | j + 1, hj => simp at hj

end Go.Proofs.YtfjaeohfigcciaaDoor

