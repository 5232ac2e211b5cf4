/- Arguments that are versions, entries, slices and arrays of entries, read as such. -/
import Derived.Test.YtfjaeohfigcciaaDoorIEntry
import Derived.ProofKit
import Derived.OpenShut
import Derived.ChangeOld
import Derived.Deep.Slices
import Derived.Deep.Fields
namespace Go.Proofs.YtfjaeohfigcciaaDoor
open Go.ChangeShapes Go.WideShapes Go.RowKit Go.Deep

theorem icellsEnt : Tryd.prog.cellsOf 42 = 7 := by kernel_rfl
theorem icellsVer : Tryd.prog.cellsOf 40 = 3 := by kernel_rfl
theorem icells8 : Tryd.prog.cellsOf 5 = 1 := by kernel_rfl
theorem icells32 : Tryd.prog.cellsOf 23 = 1 := by kernel_rfl
theorem icellsInt : Tryd.prog.cellsOf 3 = 1 := by kernel_rfl

theorem iu8_bounds {n : Int} (h : (Lit.int .u8 n).wf = true) : 0 ≤ n ∧ n ≤ 255 := by
  have h1 : IntKind.u8.min = 0 := rfl
  have h2 : IntKind.u8.max = 255 := rfl
  simp [Lit.wf, h1, h2] at h
  omega
theorem iu32_bounds {n : Int} (h : (Lit.int .u32 n).wf = true) : 0 ≤ n ∧ n ≤ 4294967295 := by
  have h1 : IntKind.u32.min = 0 := rfl
  have h2 : IntKind.u32.max = 4294967295 := rfl
  simp [Lit.wf, h1, h2] at h
  omega
theorem ii64_bounds {n : Int} (h : (Lit.int .i64 n).wf = true) : -9223372036854775808 ≤ n ∧ n ≤ 9223372036854775807 := by
  have h1 : IntKind.i64.min = -9223372036854775808 := rfl
  have h2 : IntKind.i64.max = 9223372036854775807 := rfl
  simp [Lit.wf, h1, h2] at h
  omega

section
variable {H : Type} {enc : TypeId × Value → H} {W : World} {spare : Nat → Bool} {held : Bool}

set_option maxRecDepth 100000 in
theorem trod_ver {fuel : Nat} {cs : List Value} {x : DataW H × List MemPlace} (h : DataW.trod enc Tryd.prog W 0 spare held fuel 40 cs = some x) : ∃ y : Vr, cs = [.int .u8 y.rep, .int .u32 y.seq, .int .u32 y.stamp] ∧ y.ok := by
  obtain ⟨xs, k, _, _, hlen, hxl, hf⟩ := DataW.trod_struct Tryd.underlying40 h
  rw [icellsVer] at hlen
  match xs, hxl, cs, hlen with
  | [y0, y1, y2], _, [v0, v1, v2], _ =>
    have g0 := hf 0 _ rfl
    have g1 := hf 1 _ rfl
    have g2 := hf 2 _ rfl
    simp [icells8, icells32] at g0 g1 g2
    obtain ⟨r, e0, _, w0⟩ := DataW.trod_int Tryd.underlying5 g0
    obtain ⟨q, e1, _, w1⟩ := DataW.trod_int Tryd.underlying23 g1
    obtain ⟨t, e2, _, w2⟩ := DataW.trod_int Tryd.underlying23 g2
    simp at e0 e1 e2
    subst e0 e1 e2
    exact ⟨⟨r, q, t⟩, rfl, iu8_bounds w0, iu32_bounds w1, iu32_bounds w2⟩

set_option maxRecDepth 100000 in
theorem trod_ent {fuel : Nat} {cs : List Value} {x : DataW H × List MemPlace} (h : DataW.trod enc Tryd.prog W 0 spare held fuel 42 cs = some x) : ∃ y : En, cs = y.enc ∧ y.ok := by
  obtain ⟨xs, k, _, _, hlen, hxl, hf⟩ := DataW.trod_struct Tryd.underlying42 h
  rw [icellsEnt] at hlen
  match xs, hxl, cs, hlen with
  | [y0, y1, y2, y3, y4], _, [v0, v1, v2, v3, v4, v5, v6], _ =>
    have g0 := hf 0 _ rfl
    have g1 := hf 1 _ rfl
    have g2 := hf 2 _ rfl
    have g3 := hf 3 _ rfl
    have g4 := hf 4 _ rfl
    simp [icells8, icells32, icellsVer, icellsInt] at g0 g1 g2 g3 g4
    obtain ⟨r, e0, _, w0⟩ := DataW.trod_int Tryd.underlying5 g0
    obtain ⟨y, e1, w1⟩ := trod_ver g1
    obtain ⟨kd, e2, _, w2⟩ := DataW.trod_int Tryd.underlying3 g2
    obtain ⟨cl, e3, _, w3⟩ := DataW.trod_int Tryd.underlying5 g3
    obtain ⟨vl, e4, _, w4⟩ := DataW.trod_int Tryd.underlying23 g4
    simp at e0 e1 e2 e3 e4
    obtain ⟨rfl, rfl, rfl⟩ := e1
    subst e0 e2 e3 e4
    exact ⟨⟨r, y.rep, y.seq, y.stamp, kd, cl, vl⟩, rfl, iu8_bounds w0, w1, ii64_bounds w2, iu8_bounds w3, iu32_bounds w4⟩

set_option maxRecDepth 100000 in
theorem open_ver {base : Nat} {v : Value} {d : DataW H} {p : List MemPlace} (hv : Value.okWide Tryd.prog W .any base 40 v) (h : DataW.Trod enc Tryd.prog W 0 spare held 40 v d p) : ∃ y : Vr, v = .agg #[.int .u8 y.rep, .int .u32 y.seq, .int .u32 y.stamp] ∧ y.ok := by
  obtain ⟨cs, rfl, hsz⟩ := okWide_struct Tryd.underlying40 hv
  obtain ⟨fuel, hf⟩ := h
  obtain ⟨y, e, hy⟩ := trod_ver hf
  refine ⟨y, ?_, hy⟩
  obtain ⟨l⟩ := cs
  simp [Value.cells] at e
  subst e
  rfl
set_option maxRecDepth 100000 in
theorem open_ent {base : Nat} {v : Value} {d : DataW H} {p : List MemPlace} (hv : Value.okWide Tryd.prog W .any base 42 v) (h : DataW.Trod enc Tryd.prog W 0 spare held 42 v d p) : ∃ y : En, v = y.agg ∧ y.ok := by
  obtain ⟨cs, rfl, hsz⟩ := okWide_struct Tryd.underlying42 hv
  obtain ⟨fuel, hf⟩ := h
  obtain ⟨y, e, hy⟩ := trod_ent hf
  refine ⟨y, ?_, hy⟩
  obtain ⟨l⟩ := cs
  simp [Value.cells, En.enc] at e
  subst e
  rfl

theorem choose_ents {P : Nat → En → Prop} : ∀ n : Nat, (∀ i, i < n → ∃ x, P i x) → ∃ l : List En, l.length = n ∧ ∀ i x, l[i]? = some x → P i x
  | 0, _ => ⟨[], rfl, fun i x h => by simp at h⟩
  | n + 1, h => by
    obtain ⟨l, hl, hp⟩ := choose_ents n fun i hi => h i (by omega)
    obtain ⟨x, hx⟩ := h n (by omega)
    refine ⟨l ++ [x], by simp [hl], fun i y hy => ?_⟩
    rcases Nat.lt_or_ge i n with hi | hi
    · exact hp i y (by rwa [List.getElem?_append_left (by omega)] at hy)
    · rw [List.getElem?_append_right (by omega)] at hy
      have : i - l.length = 0 := by
        rcases Nat.eq_zero_or_pos (i - l.length) with h0 | h0
        · exact h0
        · rw [List.getElem?_eq_none (by simp; omega)] at hy; cases hy
      rw [this] at hy
      simp at hy
      subst hy
      obtain rfl : i = n := by omega
      exact hx

set_option maxRecDepth 100000 in
theorem open_ents {fuel : Nat} {a : Option Addr} {len cap : Nat} {x : DataW H × List MemPlace}
    (h : DataW.trod enc Tryd.prog W 0 spare held fuel 38 [.slice a len cap] = some x) : ∃ zs : List En, zs.length ≤ 9223372036854775807 ∧ ESl W W.heap.size (.slice a len cap) zs := by
  rcases open_slice Tryd.underlying38 h with ⟨hcs, _⟩ | ⟨ad, len', cap', m, n, D, Pl, hcs, _, hl, hm, hmm, _, hi⟩
  · simp at hcs
    obtain ⟨rfl, rfl, rfl⟩ := hcs
    exact ⟨[], by simp, ESl.nil _ _⟩
  · simp at hcs
    obtain ⟨rfl, rfl, rfl⟩ := hcs
    have hlm : len ≤ m := by rw [hmm]; split <;> omega
    have each : ∀ i, i < len → ∃ y : En, y.ok ∧ ∀ j u, y.enc[j]? = some u → W.cell? (ad.add (i * 7 + j)) = some u := by
      intro i hil
      obtain ⟨cs', h1, h2⟩ := hi i (by omega)
      rw [icellsEnt] at h1
      obtain ⟨_, hlen, hat⟩ := World.cells?_some h1
      obtain ⟨y, rfl, hy⟩ := trod_ent h2
      refine ⟨y, hy, fun j u hu => ?_⟩
      have hj : j < 7 := by have := (List.getElem?_eq_some_iff.1 hu).1; rwa [enc_length] at this
      have c := hat j hj
      rw [Go.Deep.add_add] at c
      rw [c, hu]
    obtain ⟨zs, hz, hp⟩ := choose_ents len each
    refine ⟨zs, by unfold maxLen at hm; omega, some ad, cap, by rw [hz], (fun h => by simp at h), fun y hy => ?_, fun hne => ?_⟩
    · obtain ⟨i, hi', rfl⟩ := List.mem_iff_getElem.1 hy
      exact (hp i _ (List.getElem?_eq_getElem hi')).1
    · have h0 : 0 < zs.length := List.length_pos_iff.2 hne
      have hc0 := (hp 0 _ (List.getElem?_eq_getElem h0)).2 0 _ rfl
      obtain ⟨b, off, spot⟩ := ad
      have hspot : spot = none := by simpa [Addr.add] using World.cell?_spot hc0
      subst hspot
      have e : ∀ k, (⟨b, off, none⟩ : Addr).add k = ⟨b, off + k, none⟩ := fun k => by unfold Addr.add; split <;> simp_all
      refine ⟨b, off, rfl, ?_, fun j y hj i u hu => ?_⟩
      · have := World.block_lt_of_cell? W _ hc0
        simpa [e] using this
      · have := (hp j y hj).2 i u hu
        rw [e] at this
        rw [Nat.add_assoc]
        exact this
end
end Go.Proofs.YtfjaeohfigcciaaDoor
