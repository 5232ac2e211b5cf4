/- Texts in one: Open, IOpen, NOpen, PMem. -/
import Derived.Test.YtfjaeohfigcciabZb
import Derived.Test.YtfjaeohfigcciabRows
import Derived.WalkKit
import Derived.ProofKit
import Derived.OpenShut
import Derived.ChangeOld
import Derived.Deep.Slices
import Derived.Deep.Fields
import Derived.Test.YtfjaeohfigcciabZc
import Derived.Test.YtfjaeohfigcciabZg
import Derived.Test.YtfjaeohfigcciabPRep
/- An argument that is a slice of runs, read as a list of runs. -/
namespace Go.Proofs.Ytfjaeohfigcciab
open Go.ChangeShapes Go.WideShapes Go.RowKit Go.Deep

theorem cellsRun : Try.prog.cellsOf 49 = 3 := by kernel_rfl
theorem cells8 : Try.prog.cellsOf 5 = 1 := by kernel_rfl
theorem cells32 : Try.prog.cellsOf 22 = 1 := by kernel_rfl

theorem u8_bounds {n : Int} (h : (Lit.int .u8 n).wf = true) : 0 ≤ n ∧ n ≤ 255 := by
  have h1 : IntKind.u8.min = 0 := rfl
  have h2 : IntKind.u8.max = 255 := rfl
  simp [Lit.wf, h1, h2] at h
  omega
theorem u32_bounds {n : Int} (h : (Lit.int .u32 n).wf = true) : 0 ≤ n ∧ n ≤ 4294967295 := by
  have h1 : IntKind.u32.min = 0 := rfl
  have h2 : IntKind.u32.max = 4294967295 := rfl
  simp [Lit.wf, h1, h2] at h
  omega

theorem choose_runs {P : Nat → Rn → Prop} : ∀ n : Nat, (∀ i, i < n → ∃ x, P i x) → ∃ l : List Rn, l.length = n ∧ ∀ i x, l[i]? = some x → P i x
  | 0, _ => ⟨[], rfl, fun i x h => by simp at h⟩
  | n + 1, h => by
    obtain ⟨l, hl, hp⟩ := choose_runs n fun i hi => h i (by omega)
    obtain ⟨x, hx⟩ := h n (by omega)
    refine ⟨l ++ [x], by simp [hl], fun i y hy => ?_⟩
    rcases Nat.lt_or_ge i n with hi | hi
    · exact hp i y (by rwa [List.getElem?_append_left (by omega)] at hy)
    · rw [List.getElem?_append_right (by omega)] at hy
      have : i - l.length = 0 := by
        rcases Nat.eq_zero_or_pos (i - l.length) with h0 | h0
        · exact h0
        · rw [List.getElem?_eq_none (by simp; omega)] at hy; cases hy
      rw [this] at hy
      simp at hy
      subst hy
      obtain rfl : i = n := by omega
      exact hx

set_option maxRecDepth 100000 in
theorem open_runs {H : Type} {enc : TypeId × Value → H} {W : World} {spare : Nat → Bool} {held : Bool} {fuel : Nat} {a : Option Addr} {len cap : Nat} {x : DataW H × List MemPlace}
    (h : DataW.trod enc Try.prog W 0 spare held fuel 23 [.slice a len cap] = some x) : ∃ zs : List Rn, zs.length ≤ 9223372036854775807 ∧ Sl W W.heap.size (.slice a len cap) zs := by
  rcases open_slice Try.underlying23 h with ⟨hcs, _⟩ | ⟨ad, len', cap', m, n, D, Pl, hcs, _, hl, hm, hmm, _, hi⟩
  · simp at hcs
    obtain ⟨rfl, rfl, rfl⟩ := hcs
    exact ⟨[], by simp, Sl.nil _ _⟩
  · simp at hcs
    obtain ⟨rfl, rfl, rfl⟩ := hcs
    have hlm : len ≤ m := by rw [hmm]; split <;> omega
    have each : ∀ i, i < len → ∃ y : Rn, y.ok ∧ W.cell? (ad.add (i * 3)) = some (.int .u8 y.r) ∧ W.cell? (ad.add (i * 3 + 1)) = some (.int .u32 y.lo) ∧ W.cell? (ad.add (i * 3 + 2)) = some (.int .u32 y.hi) := by
      intro i hil
      obtain ⟨cs', h1, h2⟩ := hi i (by omega)
      rw [cellsRun] at h1
      obtain ⟨_, hlen, hat⟩ := World.cells?_some h1
      obtain ⟨xs, k, _, _, _, hxl, hf⟩ := DataW.trod_struct Try.underlying49 h2
      match xs, hxl, cs', hlen with
      | [y0, y1, y2], _, [v0, v1, v2], _ =>
        have g0 := hf 0 _ rfl
        have g1 := hf 1 _ rfl
        have g2 := hf 2 _ rfl
        simp [cells8, cells32] at g0 g1 g2
        obtain ⟨r, e0, _, w0⟩ := DataW.trod_int Try.underlying5 g0
        obtain ⟨lo, e1, _, w1⟩ := DataW.trod_int Try.underlying22 g1
        obtain ⟨hi', e2, _, w2⟩ := DataW.trod_int Try.underlying22 g2
        simp at e0 e1 e2
        subst e0 e1 e2
        have c0 := hat 0 (by omega)
        have c1 := hat 1 (by omega)
        have c2 := hat 2 (by omega)
        rw [Go.Deep.add_add] at c0 c1 c2
        exact ⟨⟨r, lo, hi'⟩, ⟨u8_bounds w0, u32_bounds w1, u32_bounds w2⟩, by simpa using c0, by simpa using c1, by simpa using c2⟩
    obtain ⟨zs, hz, hp⟩ := choose_runs len each
    refine ⟨zs, by unfold maxLen at hm; omega, some ad, cap, by rw [hz], (fun h => by simp at h), fun y hy => ?_, fun hne => ?_⟩
    · obtain ⟨i, hi', rfl⟩ := List.mem_iff_getElem.1 hy
      exact (hp i _ (List.getElem?_eq_getElem hi')).1
    · have h0 : 0 < zs.length := List.length_pos_iff.2 hne
      have hc0 := (hp 0 _ (List.getElem?_eq_getElem h0)).2.1
      obtain ⟨b, off, spot⟩ := ad
      have hspot : spot = none := by simpa [Addr.add] using World.cell?_spot hc0
      subst hspot
      have e : ∀ k, (⟨b, off, none⟩ : Addr).add k = ⟨b, off + k, none⟩ := fun k => by unfold Addr.add; split <;> simp_all
      refine ⟨b, off, rfl, ?_, fun j y hj => ?_⟩
      · have := World.block_lt_of_cell? W _ hc0
        simpa [e] using this
      · obtain ⟨_, q0, q1, q2⟩ := hp j y hj
        rw [e] at q0 q1 q2
        exact ⟨q0, q1, q2⟩
end Go.Proofs.Ytfjaeohfigcciab

/- Arguments that are versions, entries, slices and arrays of entries, read as such. -/
namespace Go.Proofs.Ytfjaeohfigcciab
open Go.ChangeShapes Go.WideShapes Go.RowKit Go.Deep

theorem icellsEnt : Try.prog.cellsOf 43 = 7 := by kernel_rfl
theorem icellsVer : Try.prog.cellsOf 41 = 3 := by kernel_rfl
theorem icells8 : Try.prog.cellsOf 5 = 1 := by kernel_rfl
theorem icells32 : Try.prog.cellsOf 22 = 1 := by kernel_rfl
theorem icellsInt : Try.prog.cellsOf 3 = 1 := by kernel_rfl

theorem iu8_bounds {n : Int} (h : (Lit.int .u8 n).wf = true) : 0 ≤ n ∧ n ≤ 255 := by
  have h1 : IntKind.u8.min = 0 := rfl
  have h2 : IntKind.u8.max = 255 := rfl
  simp [Lit.wf, h1, h2] at h
  omega
theorem iu32_bounds {n : Int} (h : (Lit.int .u32 n).wf = true) : 0 ≤ n ∧ n ≤ 4294967295 := by
  have h1 : IntKind.u32.min = 0 := rfl
  have h2 : IntKind.u32.max = 4294967295 := rfl
  simp [Lit.wf, h1, h2] at h
  omega
theorem ii64_bounds {n : Int} (h : (Lit.int .i64 n).wf = true) : -9223372036854775808 ≤ n ∧ n ≤ 9223372036854775807 := by
  have h1 : IntKind.i64.min = -9223372036854775808 := rfl
  have h2 : IntKind.i64.max = 9223372036854775807 := rfl
  simp [Lit.wf, h1, h2] at h
  omega

section
variable {H : Type} {enc : TypeId × Value → H} {W : World} {spare : Nat → Bool} {held : Bool}

set_option maxRecDepth 100000 in
theorem trod_ver {fuel : Nat} {cs : List Value} {x : DataW H × List MemPlace} (h : DataW.trod enc Try.prog W 0 spare held fuel 41 cs = some x) : ∃ y : Vr, cs = [.int .u8 y.rep, .int .u32 y.seq, .int .u32 y.stamp] ∧ y.ok := by
  obtain ⟨xs, k, _, _, hlen, hxl, hf⟩ := DataW.trod_struct Try.underlying41 h
  rw [icellsVer] at hlen
  match xs, hxl, cs, hlen with
  | [y0, y1, y2], _, [v0, v1, v2], _ =>
    have g0 := hf 0 _ rfl
    have g1 := hf 1 _ rfl
    have g2 := hf 2 _ rfl
    simp [icells8, icells32] at g0 g1 g2
    obtain ⟨r, e0, _, w0⟩ := DataW.trod_int Try.underlying5 g0
    obtain ⟨q, e1, _, w1⟩ := DataW.trod_int Try.underlying22 g1
    obtain ⟨t, e2, _, w2⟩ := DataW.trod_int Try.underlying22 g2
    simp at e0 e1 e2
    subst e0 e1 e2
    exact ⟨⟨r, q, t⟩, rfl, iu8_bounds w0, iu32_bounds w1, iu32_bounds w2⟩

set_option maxRecDepth 100000 in
theorem trod_ent {fuel : Nat} {cs : List Value} {x : DataW H × List MemPlace} (h : DataW.trod enc Try.prog W 0 spare held fuel 43 cs = some x) : ∃ y : En, cs = y.enc ∧ y.ok := by
  obtain ⟨xs, k, _, _, hlen, hxl, hf⟩ := DataW.trod_struct Try.underlying43 h
  rw [icellsEnt] at hlen
  match xs, hxl, cs, hlen with
  | [y0, y1, y2, y3, y4], _, [v0, v1, v2, v3, v4, v5, v6], _ =>
    have g0 := hf 0 _ rfl
    have g1 := hf 1 _ rfl
    have g2 := hf 2 _ rfl
    have g3 := hf 3 _ rfl
    have g4 := hf 4 _ rfl
    simp [icells8, icells32, icellsVer, icellsInt] at g0 g1 g2 g3 g4
    obtain ⟨r, e0, _, w0⟩ := DataW.trod_int Try.underlying5 g0
    obtain ⟨y, e1, w1⟩ := trod_ver g1
    obtain ⟨kd, e2, _, w2⟩ := DataW.trod_int Try.underlying3 g2
    obtain ⟨cl, e3, _, w3⟩ := DataW.trod_int Try.underlying5 g3
    obtain ⟨vl, e4, _, w4⟩ := DataW.trod_int Try.underlying22 g4
    simp at e0 e1 e2 e3 e4
    obtain ⟨rfl, rfl, rfl⟩ := e1
    subst e0 e2 e3 e4
    exact ⟨⟨r, y.rep, y.seq, y.stamp, kd, cl, vl⟩, rfl, iu8_bounds w0, w1, ii64_bounds w2, iu8_bounds w3, iu32_bounds w4⟩

set_option maxRecDepth 100000 in
theorem open_ver {base : Nat} {v : Value} {d : DataW H} {p : List MemPlace} (hv : Value.okWide Try.prog W .any base 41 v) (h : DataW.Trod enc Try.prog W 0 spare held 41 v d p) : ∃ y : Vr, v = .agg #[.int .u8 y.rep, .int .u32 y.seq, .int .u32 y.stamp] ∧ y.ok := by
  obtain ⟨cs, rfl, hsz⟩ := okWide_struct Try.underlying41 hv
  obtain ⟨fuel, hf⟩ := h
  obtain ⟨y, e, hy⟩ := trod_ver hf
  refine ⟨y, ?_, hy⟩
  obtain ⟨l⟩ := cs
  simp [Value.cells] at e
  subst e
  rfl
set_option maxRecDepth 100000 in
theorem open_ent {base : Nat} {v : Value} {d : DataW H} {p : List MemPlace} (hv : Value.okWide Try.prog W .any base 43 v) (h : DataW.Trod enc Try.prog W 0 spare held 43 v d p) : ∃ y : En, v = y.agg ∧ y.ok := by
  obtain ⟨cs, rfl, hsz⟩ := okWide_struct Try.underlying43 hv
  obtain ⟨fuel, hf⟩ := h
  obtain ⟨y, e, hy⟩ := trod_ent hf
  refine ⟨y, ?_, hy⟩
  obtain ⟨l⟩ := cs
  simp [Value.cells, En.enc] at e
  subst e
  rfl

theorem choose_ents {P : Nat → En → Prop} : ∀ n : Nat, (∀ i, i < n → ∃ x, P i x) → ∃ l : List En, l.length = n ∧ ∀ i x, l[i]? = some x → P i x
  | 0, _ => ⟨[], rfl, fun i x h => by simp at h⟩
  | n + 1, h => by
    obtain ⟨l, hl, hp⟩ := choose_ents n fun i hi => h i (by omega)
    obtain ⟨x, hx⟩ := h n (by omega)
    refine ⟨l ++ [x], by simp [hl], fun i y hy => ?_⟩
    rcases Nat.lt_or_ge i n with hi | hi
    · exact hp i y (by rwa [List.getElem?_append_left (by omega)] at hy)
    · rw [List.getElem?_append_right (by omega)] at hy
      have : i - l.length = 0 := by
        rcases Nat.eq_zero_or_pos (i - l.length) with h0 | h0
        · exact h0
        · rw [List.getElem?_eq_none (by simp; omega)] at hy; cases hy
      rw [this] at hy
      simp at hy
      subst hy
      obtain rfl : i = n := by omega
      exact hx

set_option maxRecDepth 100000 in
theorem open_ents {fuel : Nat} {a : Option Addr} {len cap : Nat} {x : DataW H × List MemPlace}
    (h : DataW.trod enc Try.prog W 0 spare held fuel 24 [.slice a len cap] = some x) : ∃ zs : List En, zs.length ≤ 9223372036854775807 ∧ ESl W W.heap.size (.slice a len cap) zs := by
  rcases open_slice Try.underlying24 h with ⟨hcs, _⟩ | ⟨ad, len', cap', m, n, D, Pl, hcs, _, hl, hm, hmm, _, hi⟩
  · simp at hcs
    obtain ⟨rfl, rfl, rfl⟩ := hcs
    exact ⟨[], by simp, ESl.nil _ _⟩
  · simp at hcs
    obtain ⟨rfl, rfl, rfl⟩ := hcs
    have hlm : len ≤ m := by rw [hmm]; split <;> omega
    have each : ∀ i, i < len → ∃ y : En, y.ok ∧ ∀ j u, y.enc[j]? = some u → W.cell? (ad.add (i * 7 + j)) = some u := by
      intro i hil
      obtain ⟨cs', h1, h2⟩ := hi i (by omega)
      rw [icellsEnt] at h1
      obtain ⟨_, hlen, hat⟩ := World.cells?_some h1
      obtain ⟨y, rfl, hy⟩ := trod_ent h2
      refine ⟨y, hy, fun j u hu => ?_⟩
      have hj : j < 7 := by have := (List.getElem?_eq_some_iff.1 hu).1; rwa [enc_length] at this
      have c := hat j hj
      rw [Go.Deep.add_add] at c
      rw [c, hu]
    obtain ⟨zs, hz, hp⟩ := choose_ents len each
    refine ⟨zs, by unfold maxLen at hm; omega, some ad, cap, by rw [hz], ⟨(fun h => by simp at h), by rw [hz]; exact hl⟩, fun y hy => ?_, fun hne => ?_⟩
    · obtain ⟨i, hi', rfl⟩ := List.mem_iff_getElem.1 hy
      exact (hp i _ (List.getElem?_eq_getElem hi')).1
    · have h0 : 0 < zs.length := List.length_pos_iff.2 hne
      have hc0 := (hp 0 _ (List.getElem?_eq_getElem h0)).2 0 _ rfl
      obtain ⟨b, off, spot⟩ := ad
      have hspot : spot = none := by simpa [Addr.add] using World.cell?_spot hc0
      subst hspot
      have e : ∀ k, (⟨b, off, none⟩ : Addr).add k = ⟨b, off + k, none⟩ := fun k => by unfold Addr.add; split <;> simp_all
      refine ⟨b, off, rfl, ?_, fun j y hj i u hu => ?_⟩
      · have := World.block_lt_of_cell? W _ hc0
        simpa [e] using this
      · have := (hp j y hj).2 i u hu
        rw [e] at this
        rw [Nat.add_assoc]
        exact this
end
end Go.Proofs.Ytfjaeohfigcciab

/- An argument that is a note, read as one. -/
namespace Go.Proofs.Ytfjaeohfigcciab
open Go.ChangeShapes Go.WideShapes Go.RowKit Go.Deep

theorem ncellsNote : Try.prog.cellsOf 30 = 12 := by kernel_rfl
theorem ncellsRuns : Try.prog.cellsOf 23 = 1 := by kernel_rfl
theorem ncellsEnts : Try.prog.cellsOf 24 = 1 := by kernel_rfl
theorem ncellsBool : Try.prog.cellsOf 4 = 1 := by kernel_rfl

section
variable {H : Type} {enc : TypeId × Value → H} {W : World} {spare : Nat → Bool} {held : Bool}

theorem open_runs1 {fuel : Nat} {v : Value} {x : DataW H × List MemPlace} (h : DataW.trod enc Try.prog W 0 spare held fuel 23 [v] = some x) : ∃ zs : List Rn, zs.length ≤ 9223372036854775807 ∧ Sl W W.heap.size v zs := by
  rcases open_slice Try.underlying23 h with ⟨hcs, _⟩ | ⟨ad, len', cap', m, n, D, Pl, hcs, _, hl, hm, hmm, _, hi⟩
  · simp at hcs
    subst hcs
    exact open_runs h
  · simp at hcs
    subst hcs
    exact open_runs h
theorem open_ents1 {fuel : Nat} {v : Value} {x : DataW H × List MemPlace} (h : DataW.trod enc Try.prog W 0 spare held fuel 24 [v] = some x) : ∃ zs : List En, zs.length ≤ 9223372036854775807 ∧ ESl W W.heap.size v zs := by
  rcases open_slice Try.underlying24 h with ⟨hcs, _⟩ | ⟨ad, len', cap', m, n, D, Pl, hcs, _, hl, hm, hmm, _, hi⟩
  · simp at hcs
    subst hcs
    exact open_ents h
  · simp at hcs
    subst hcs
    exact open_ents h

def noteZero : Value := .agg ((⟨0, 0, 0, 0, 0, 0, [], 0, [], 0, false, []⟩ : Nt).cells (.slice none 0 0) (.slice none 0 0) (.slice none 0 0))

set_option maxRecDepth 100000 in
theorem open_note {base : Nat} {v : Value} {d : DataW H} {p : List MemPlace} (hv : Value.okWide Try.prog W .any base 30 v) (h : DataW.Trod enc Try.prog W 0 spare held 30 v d p) :
    ∃ y : Nt, NtV W W.heap.size v y ∧ y.know.length ≤ 9223372036854775807 ∧ y.ents.length ≤ 9223372036854775807 ∧ y.offer.length ≤ 9223372036854775807 := by
  obtain ⟨cs, rfl, hsz⟩ := okWide_struct Try.underlying30 hv
  obtain ⟨fuel, hf⟩ := h
  obtain ⟨xs, k, _, _, hlen, hxl, hf⟩ := DataW.trod_struct Try.underlying30 hf
  rw [ncellsNote] at hlen
  obtain ⟨cs⟩ := cs
  simp only [Value.cells] at hlen hf
  match xs, hxl, cs, hlen with
  | [y0, y1, y2, y3, y4, y5, y6, y7, y8, y9, y10, y11], _, [v0, v1, v2, v3, v4, v5, v6, v7, v8, v9, v10, v11], _ =>
    have g0 := hf 0 _ rfl
    have g1 := hf 1 _ rfl
    have g2 := hf 2 _ rfl
    have g3 := hf 3 _ rfl
    have g4 := hf 4 _ rfl
    have g5 := hf 5 _ rfl
    have g6 := hf 6 _ rfl
    have g7 := hf 7 _ rfl
    have g8 := hf 8 _ rfl
    have g9 := hf 9 _ rfl
    have g10 := hf 10 _ rfl
    have g11 := hf 11 _ rfl
    clear hf
    simp [icells8, icells32, icellsInt, ncellsRuns, ncellsEnts, ncellsBool] at g0 g1 g2 g3 g4 g5 g6 g7 g8 g9 g10 g11
    obtain ⟨x0, e0, _, w0⟩ := DataW.trod_int Try.underlying3 g0
    obtain ⟨x1, e1, _, w1⟩ := DataW.trod_int Try.underlying5 g1
    obtain ⟨x2, e2, _, w2⟩ := DataW.trod_int Try.underlying5 g2
    obtain ⟨x3, e3, _, w3⟩ := DataW.trod_int Try.underlying22 g3
    obtain ⟨x4, e4, _, w4⟩ := DataW.trod_int Try.underlying5 g4
    obtain ⟨x5, e5, _, w5⟩ := DataW.trod_int Try.underlying5 g5
    obtain ⟨z6, l6, s6⟩ := open_runs1 g6
    obtain ⟨x7, e7, _, w7⟩ := DataW.trod_int Try.underlying22 g7
    obtain ⟨z8, l8, s8⟩ := open_ents1 g8
    obtain ⟨x9, e9, _, w9⟩ := DataW.trod_int Try.underlying5 g9
    obtain ⟨x10, e10, _⟩ := DataW.trod_bool Try.underlying4 g10
    obtain ⟨z11, l11, s11⟩ := open_runs1 g11
    simp at e0 e1 e2 e3 e4 e5 e7 e9 e10
    subst e0 e1 e2 e3 e4 e5 e7 e9 e10
    have o6 : ∀ x ∈ z6, x.ok := by obtain ⟨_, _, _, _, h, _⟩ := s6; exact h
    have o8 : ∀ x ∈ z8, x.ok := by obtain ⟨_, _, _, _, h, _⟩ := s8; exact h
    have o11 : ∀ x ∈ z11, x.ok := by obtain ⟨_, _, _, _, h, _⟩ := s11; exact h
    exact ⟨⟨x0, x1, x2, x3, x4, x5, z6, x7, z8, x9, x10, z11⟩, ⟨_, _, _, rfl, s6, s8, s11, ii64_bounds w0, iu8_bounds w1, iu8_bounds w2, iu32_bounds w3, iu8_bounds w4, iu8_bounds w5, o6, iu32_bounds w7, o8, iu8_bounds w9, o11⟩, l6, l8, l11⟩
end
end Go.Proofs.Ytfjaeohfigcciab

/- A replica as a value; an argument that is a replica, read as one. -/
namespace Go.Proofs.Ytfjaeohfigcciab
open Go.ChangeShapes Go.WideShapes Go.RowKit Go.Deep

/-- the cells of a replica whose lists are those values -/
def Rp.cells (r : Rp) (vk vh vo : Value) : Array Value := #[.int .u8 r.rep, .int .u8 r.flt, .int .u32 r.epoch, .int .u32 r.seq, vk, vh, .bool r.ses.on, .int .u32 r.ses.num, .int .u8 r.ses.src, .int .u8 r.ses.cur, .int .u32 r.ses.epoch, vo, .int .u32 r.ses.last]
/-- a value is a replica -/
def RpV (w : World) (B : Nat) (v : Value) (r : Rp) : Prop := ∃ vk vh vo, v = .agg (r.cells vk vh vo) ∧ Sl w B vk r.know ∧ ESl w B vh r.held ∧ Sl w B vo r.ses.offer ∧ r.ok
theorem RpV.below {w w' : World} {B : Nat} {v : Value} {r : Rp} (h : RpV w B v r) (hb : Below B w w') : RpV w' B v r := by
  obtain ⟨vk, ve, vo, hv, h1, h2, h3, ho⟩ := h
  exact ⟨vk, ve, vo, hv, h1.below hb, h2.below hb, h3.below hb, ho⟩
theorem RpV.more {w : World} {B B' : Nat} {v : Value} {r : Rp} (h : RpV w B v r) (hB : B ≤ B') : RpV w B' v r := by
  obtain ⟨vk, ve, vo, hv, h1, h2, h3, ho⟩ := h
  exact ⟨vk, ve, vo, hv, h1.more hB, h2.more hB, h3.more hB, ho⟩
theorem RpV.later {w w' : World} {v : Value} {r : Rp} (h : RpV w w.heap.size v r) (hb : Below w.heap.size w w') : RpV w' w'.heap.size v r := (h.below hb).more hb.size

theorem pcellsRep : Try.prog.cellsOf 28 = 13 := by kernel_rfl
theorem pcellsSes : Try.prog.cellsOf 26 = 7 := by kernel_rfl

def repZero : Value := .agg ((⟨0, 0, 0, 0, [], [], ⟨false, 0, 0, 0, 0, [], 0⟩⟩ : Rp).cells (.slice none 0 0) (.slice none 0 0) (.slice none 0 0))

section
variable {H : Type} {enc : TypeId × Value → H} {W : World} {spare : Nat → Bool} {held : Bool}

set_option maxRecDepth 100000 in
theorem trod_ses {fuel : Nat} {cs : List Value} {x : DataW H × List MemPlace} (h : DataW.trod enc Try.prog W 0 spare held fuel 26 cs = some x) :
    ∃ (s : Ss) (vo : Value), cs = [.bool s.on, .int .u32 s.num, .int .u8 s.src, .int .u8 s.cur, .int .u32 s.epoch, vo, .int .u32 s.last] ∧ Sl W W.heap.size vo s.offer ∧ s.offer.length ≤ 9223372036854775807 ∧ s.ok := by
  obtain ⟨xs, k, _, _, hlen, hxl, hf⟩ := DataW.trod_struct Try.underlying26 h
  rw [pcellsSes] at hlen
  match xs, hxl, cs, hlen with
  | [y0, y1, y2, y3, y4, y5, y6], _, [v0, v1, v2, v3, v4, v5, v6], _ =>
    have g0 := hf 0 _ rfl
    have g1 := hf 1 _ rfl
    have g2 := hf 2 _ rfl
    have g3 := hf 3 _ rfl
    have g4 := hf 4 _ rfl
    have g5 := hf 5 _ rfl
    have g6 := hf 6 _ rfl
    clear hf
    simp [icells8, icells32, icellsInt, ncellsRuns, ncellsEnts, ncellsBool] at g0 g1 g2 g3 g4 g5 g6
    obtain ⟨x0, e0, _⟩ := DataW.trod_bool Try.underlying4 g0
    obtain ⟨x1, e1, _, w1⟩ := DataW.trod_int Try.underlying22 g1
    obtain ⟨x2, e2, _, w2⟩ := DataW.trod_int Try.underlying5 g2
    obtain ⟨x3, e3, _, w3⟩ := DataW.trod_int Try.underlying5 g3
    obtain ⟨x4, e4, _, w4⟩ := DataW.trod_int Try.underlying22 g4
    obtain ⟨z5, l5, s5⟩ := open_runs1 g5
    obtain ⟨x6, e6, _, w6⟩ := DataW.trod_int Try.underlying22 g6
    simp at e0 e1 e2 e3 e4 e6
    subst e0 e1 e2 e3 e4 e6
    have o5 : ∀ x ∈ z5, x.ok := by obtain ⟨_, _, _, _, h, _⟩ := s5; exact h
    exact ⟨⟨x0, x1, x2, x3, x4, z5, x6⟩, v5, rfl, s5, l5, iu32_bounds w1, iu8_bounds w2, iu8_bounds w3, iu32_bounds w4, o5, iu32_bounds w6⟩

set_option maxRecDepth 100000 in
theorem open_rep {base : Nat} {v : Value} {d : DataW H} {p : List MemPlace} (hv : Value.okWide Try.prog W .any base 28 v) (h : DataW.Trod enc Try.prog W 0 spare held 28 v d p) :
    ∃ y : Rp, RpV W W.heap.size v y ∧ y.know.length ≤ 9223372036854775807 ∧ y.held.length ≤ 9223372036854775807 ∧ y.ses.offer.length ≤ 9223372036854775807 := by
  obtain ⟨cs, rfl, hsz⟩ := okWide_struct Try.underlying28 hv
  obtain ⟨fuel, hf⟩ := h
  obtain ⟨xs, k, _, _, hlen, hxl, hf⟩ := DataW.trod_struct Try.underlying28 hf
  rw [pcellsRep] at hlen
  obtain ⟨cs⟩ := cs
  simp only [Value.cells] at hlen hf
  match xs, hxl, cs, hlen with
  | [y0, y1, y2, y3, y4, y5, y6], _, [v0, v1, v2, v3, v4, v5, v6, v7, v8, v9, v10, v11, v12], _ =>
    have g0 := hf 0 _ rfl
    have g1 := hf 1 _ rfl
    have g2 := hf 2 _ rfl
    have g3 := hf 3 _ rfl
    have g4 := hf 4 _ rfl
    have g5 := hf 5 _ rfl
    have g6 := hf 6 _ rfl
    clear hf
    simp [icells8, icells32, icellsInt, ncellsRuns, ncellsEnts, ncellsBool, pcellsSes] at g0 g1 g2 g3 g4 g5 g6
    obtain ⟨x0, e0, _, w0⟩ := DataW.trod_int Try.underlying5 g0
    obtain ⟨x1, e1, _, w1⟩ := DataW.trod_int Try.underlying5 g1
    obtain ⟨x2, e2, _, w2⟩ := DataW.trod_int Try.underlying22 g2
    obtain ⟨x3, e3, _, w3⟩ := DataW.trod_int Try.underlying22 g3
    obtain ⟨z4, l4, s4⟩ := open_runs1 g4
    obtain ⟨z5, l5, s5⟩ := open_ents1 g5
    obtain ⟨s, vo, e6, so, lo, ok6⟩ := trod_ses g6
    simp at e0 e1 e2 e3 e6
    subst e0 e1 e2 e3
    obtain ⟨rfl, rfl, rfl, rfl, rfl, rfl, rfl⟩ := e6
    have o4 : ∀ x ∈ z4, x.ok := by obtain ⟨_, _, _, _, h, _⟩ := s4; exact h
    have o5 : ∀ x ∈ z5, x.ok := by obtain ⟨_, _, _, _, h, _⟩ := s5; exact h
    exact ⟨⟨x0, x1, x2, x3, z4, z5, s⟩, ⟨_, _, _, rfl, s4, s5, so, iu8_bounds w0, iu8_bounds w1, iu32_bounds w2, iu32_bounds w3, o4, o5, ok6⟩, l4, l5, lo⟩
end
end Go.Proofs.Ytfjaeohfigcciab

