/- An argument that is a slice of runs, read as a list of runs. -/
import Derived.Test.YtfjaeohfigcciaaDoorMem
import Derived.Test.YtfjaeohfigcciaaDoorRows
import Derived.WalkKit
import Derived.ProofKit
import Derived.OpenShut
import Derived.ChangeOld
import Derived.Deep.Slices
import Derived.Deep.Fields
namespace Go.Proofs.YtfjaeohfigcciaaDoor
open Go.ChangeShapes Go.WideShapes Go.RowKit Go.Deep

theorem cellsRun : Tryd.prog.cellsOf 51 = 3 := by kernel_rfl
theorem cells8 : Tryd.prog.cellsOf 5 = 1 := by kernel_rfl
theorem cells32 : Tryd.prog.cellsOf 23 = 1 := by kernel_rfl

theorem u8_bounds {n : Int} (h : (Lit.int .u8 n).wf = true) : 0 ≤ n ∧ n ≤ 255 := by
  have h1 : IntKind.u8.min = 0 := rfl
  have h2 : IntKind.u8.max = 255 := rfl
  simp [Lit.wf, h1, h2] at h
  omega
theorem u32_bounds {n : Int} (h : (Lit.int .u32 n).wf = true) : 0 ≤ n ∧ n ≤ 4294967295 := by
  have h1 : IntKind.u32.min = 0 := rfl
  have h2 : IntKind.u32.max = 4294967295 := rfl
  simp [Lit.wf, h1, h2] at h
  omega

theorem choose_runs {P : Nat → Rn → Prop} : ∀ n : Nat, (∀ i, i < n → ∃ x, P i x) → ∃ l : List Rn, l.length = n ∧ ∀ i x, l[i]? = some x → P i x
  | 0, _ => ⟨[], rfl, fun i x h => by simp at h⟩
  | n + 1, h => by
    obtain ⟨l, hl, hp⟩ := choose_runs n fun i hi => h i (by omega)
    obtain ⟨x, hx⟩ := h n (by omega)
    refine ⟨l ++ [x], by simp [hl], fun i y hy => ?_⟩
    rcases Nat.lt_or_ge i n with hi | hi
    · exact hp i y (by rwa [List.getElem?_append_left (by omega)] at hy)
    · rw [List.getElem?_append_right (by omega)] at hy
      have : i - l.length = 0 := by
        rcases Nat.eq_zero_or_pos (i - l.length) with h0 | h0
        · exact h0
        · rw [List.getElem?_eq_none (by simp; omega)] at hy; cases hy
      rw [this] at hy
      simp at hy
      subst hy
      obtain rfl : i = n := by omega
      exact hx

set_option maxRecDepth 100000 in
theorem open_runs {H : Type} {enc : TypeId × Value → H} {W : World} {spare : Nat → Bool} {held : Bool} {fuel : Nat} {a : Option Addr} {len cap : Nat} {x : DataW H × List MemPlace}
    (h : DataW.trod enc Tryd.prog W 0 spare held fuel 22 [.slice a len cap] = some x) : ∃ zs : List Rn, zs.length ≤ 9223372036854775807 ∧ Sl W W.heap.size (.slice a len cap) zs := by
  rcases open_slice Tryd.underlying22 h with ⟨hcs, _⟩ | ⟨ad, len', cap', m, n, D, Pl, hcs, _, hl, hm, hmm, _, hi⟩
  · simp at hcs
    obtain ⟨rfl, rfl, rfl⟩ := hcs
    exact ⟨[], by simp, Sl.nil _ _⟩
  · simp at hcs
    obtain ⟨rfl, rfl, rfl⟩ := hcs
    have hlm : len ≤ m := by rw [hmm]; split <;> omega
    have each : ∀ i, i < len → ∃ y : Rn, y.ok ∧ W.cell? (ad.add (i * 3)) = some (.int .u8 y.r) ∧ W.cell? (ad.add (i * 3 + 1)) = some (.int .u32 y.lo) ∧ W.cell? (ad.add (i * 3 + 2)) = some (.int .u32 y.hi) := by
      intro i hil
      obtain ⟨cs', h1, h2⟩ := hi i (by omega)
      rw [cellsRun] at h1
      obtain ⟨_, hlen, hat⟩ := World.cells?_some h1
      obtain ⟨xs, k, _, _, _, hxl, hf⟩ := DataW.trod_struct Tryd.underlying51 h2
      match xs, hxl, cs', hlen with
      | [y0, y1, y2], _, [v0, v1, v2], _ =>
        have g0 := hf 0 _ rfl
        have g1 := hf 1 _ rfl
        have g2 := hf 2 _ rfl
        simp [cells8, cells32] at g0 g1 g2
        obtain ⟨r, e0, _, w0⟩ := DataW.trod_int Tryd.underlying5 g0
        obtain ⟨lo, e1, _, w1⟩ := DataW.trod_int Tryd.underlying23 g1
        obtain ⟨hi', e2, _, w2⟩ := DataW.trod_int Tryd.underlying23 g2
        simp at e0 e1 e2
        subst e0 e1 e2
        have c0 := hat 0 (by omega)
        have c1 := hat 1 (by omega)
        have c2 := hat 2 (by omega)
        rw [Go.Deep.add_add] at c0 c1 c2
        exact ⟨⟨r, lo, hi'⟩, ⟨u8_bounds w0, u32_bounds w1, u32_bounds w2⟩, by simpa using c0, by simpa using c1, by simpa using c2⟩
    obtain ⟨zs, hz, hp⟩ := choose_runs len each
    refine ⟨zs, by unfold maxLen at hm; omega, some ad, cap, by rw [hz], (fun h => by simp at h), fun y hy => ?_, fun hne => ?_⟩
    · obtain ⟨i, hi', rfl⟩ := List.mem_iff_getElem.1 hy
      exact (hp i _ (List.getElem?_eq_getElem hi')).1
    · have h0 : 0 < zs.length := List.length_pos_iff.2 hne
      have hc0 := (hp 0 _ (List.getElem?_eq_getElem h0)).2.1
      obtain ⟨b, off, spot⟩ := ad
      have hspot : spot = none := by simpa [Addr.add] using World.cell?_spot hc0
      subst hspot
      have e : ∀ k, (⟨b, off, none⟩ : Addr).add k = ⟨b, off + k, none⟩ := fun k => by unfold Addr.add; split <;> simp_all
      refine ⟨b, off, rfl, ?_, fun j y hj => ?_⟩
      · have := World.block_lt_of_cell? W _ hc0
        simpa [e] using this
      · obtain ⟨_, q0, q1, q2⟩ := hp j y hj
        rw [e] at q0 q1 q2
        exact ⟨q0, q1, q2⟩
end Go.Proofs.YtfjaeohfigcciaaDoor

