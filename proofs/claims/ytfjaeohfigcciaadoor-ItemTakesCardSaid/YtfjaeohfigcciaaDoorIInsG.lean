/- The contract of slices.Insert of one entry into a slice of the call's own, where there is no room; and of all roads together. -/
import Derived.Test.YtfjaeohfigcciaaDoorIIns
import Derived.Shelf.Spec.SlicesInsertGrow
namespace Go.Proofs.YtfjaeohfigcciaaDoor
open Go.RowKit Go.Lib

set_option maxRecDepth 100000 in
set_option maxHeartbeats 4000000 in
theorem Insert_grow (g c i : Nat) (zs : List En) (vb base : Nat) (x : En) (w : World) (h : EOwn w base (.slice (some ⟨g, 0, none⟩) zs.length c) zs) (hb : base ≤ w.heap.size) (h1 : OneNew w vb x) (hl : zs.length ≤ 9000) (hi : i < zs.length) (hroom : c < zs.length + 1) :
    Calls Tryd.prog 43 #[.slice (some ⟨g, 0, none⟩) zs.length c, .int .i64 i, .slice (some ⟨vb, 0, none⟩) 1 1] w (InsPost w base zs i x) := by
  obtain ⟨hfl, hrest⟩ := h
  rcases hrest with ⟨hv', hz⟩ | ⟨g', cap, cur, hv', hbg, hg, hcap, hcm, hcs, htake⟩
  · cases hv'
  cases hv'
  have hsz := sizeEnt
  obtain ⟨i0, hi0, hz0, hzs, hzb⟩ := info_parts infoEnt
  obtain ⟨z, hzz⟩ : ∃ z : Value, z = .agg #[.int .u8 0, .int .u8 0, .int .u32 0, .int .u32 0, .int .i64 0, .int .u8 0, .int .u32 0] := ⟨_, rfl⟩
  rw [← hzz] at hz0
  have hzc : z.cells.size = 7 := by rw [hzz]; rfl
  clear hzz
  have hgw : g < w.heap.size := (Array.getElem?_eq_some_iff.1 hg).1
  have hvw : vb < w.heap.size := (Array.getElem?_eq_some_iff.1 h1.blk).1
  have hrd : ∀ j u, (flatE zs)[j]? = some u → w.cell? ⟨g, j, none⟩ = some u := fun j u hu => by
    have hjl := (List.getElem?_eq_some_iff.1 hu).1
    rw [flatE_length] at hjl
    rw [← htake, List.getElem?_take, if_pos hjl] at hu
    rw [cell_of_row w g j _ _ _ hg]
    simpa using hu
  have hdl : (flatE (zs.drop i)).length = (zs.length - i) * 7 := by rw [flatE_length, List.length_drop]
  have htl : (flatE (zs.take i)).length = i * 7 := by rw [flatE_length, List.length_take]; omega
  have hkk : (zs.length : Int) + 1 - (i : Int) = ((zs.length + 1 - i : Nat) : Int) := by omega
  have hik : i + (zs.length + 1 - i) = zs.length + 1 := by omega
  have hold : (Builtin.firstCells i0.size i (.slice (some ⟨g, 0, none⟩) i c)).run Tryd.prog w.drew = .ok (flatE (zs.take i)).toArray w.drew := by
    rw [hzs]
    exact run_firstCells_some w.drew 7 i ⟨g, 0, none⟩ i c (flatE (zs.take i)) htl (fun j v hj => by
      rw [Addr.add_lit, Nat.zero_add]
      rw [flatE_take, List.getElem?_take] at hj
      split at hj
      · exact hrd j v hj
      · cases hj)
  obtain ⟨G, hG⟩ : ∃ G, G = grownCap w (zs.length + 1) c 42 := ⟨_, rfl⟩
  obtain ⟨ROW, hROW⟩ : ∃ ROW : Array Value, ROW = (flatE (zs.take i)).toArray ++ Builtin.zeroCells z.cells (zs.length + 1 - i) ++ Builtin.zeroCells z.cells (G - (zs.length + 1)) := ⟨_, rfl⟩
  have hGn : zs.length + 1 ≤ G := by rw [hG]; exact grownCap_ge w _ _ _
  have hGm : G ≤ maxLen := by rw [hG]; exact grownCap_le_maxLen w (zs.length + 1) c 42 (by unfold maxLen; omega)
  have hRs : ROW.size = G * 7 := by
    rw [hROW]
    simp only [Array.size_append, List.size_toArray, size_zeroCells, htl, hzc]
    omega
  have hRt : ROW.toList.take (i * 7) = flatE (zs.take i) := by
    rw [hROW]
    simp only [Array.toList_append, List.append_assoc]
    rw [List.take_append_of_le_length (by simp [htl]), List.take_of_length_le (by simp [htl])]
  obtain ⟨W1, hW1⟩ : ∃ W1, W1 = w.drew.alloc (.cells ROW 42) := ⟨_, rfl⟩
  have hrz : ∀ ty, (Builtin.append_ #[38, 3] ty #[.slice (some ⟨g, 0, none⟩) i c, .int .i64 ((zs.length : Int) + 1 - (i : Int))]).run Tryd.prog w = .ok (.slice (some ⟨w.heap.size, 0, none⟩) (zs.length + 1) G) W1 := fun ty => by
    have h := Lib.run_append_grow_zeros w 38 3 ty 42 i0 z .i64 .i64 Tryd.underlying38 Tryd.underlying3 hi0 hz0 (some ⟨g, 0, none⟩) i c (flatE (zs.take i)) hold (zs.length + 1 - i) (by omega) (by omega) (by omega) (by omega) (by rw [hzb]; omega) (by rw [hzb, hik]; exact growslice_fits hroom (by omega))
    rw [hik] at h
    rw [hkk, hW1, hROW, hG]
    exact h
  have hbl1 : w.drew.heap.size = w.heap.size := rfl
  have hblk : W1.heap[w.heap.size]? = some (.cells ROW 42 (0, 0)) := by rw [hW1]; exact heap_alloc_new w.drew _
  have hbel : Below w.heap.size w W1 := by rw [hW1]; exact ((Below.refl _ w).drew).alloc (by rw [hbl1]; exact Nat.le_refl _) _
  have hN : ∀ j, j < ROW.size → (W1.cell? ⟨w.heap.size, j, none⟩).isSome = true := fun j hj => by rw [cell_of_row W1 _ j _ _ _ hblk, Array.getElem?_eq_getElem hj]; rfl
  have hNf : ∀ j, W1.frozen? ⟨w.heap.size, j, none⟩ = false := fun j => frozen_of_row W1 _ j _ _ hblk
  clear hW1 hROW hG hold
  have hcpA : ∀ ty dc, (Builtin.copy_ #[38, 38] ty #[.slice (some ⟨w.heap.size, i * 7, none⟩) (zs.length + 1 - i) dc, .slice (some ⟨vb, 0, none⟩) 1 1]).run Tryd.prog W1 = .ok (goInt 1) (W1.setCells w.heap.size (i * 7) x.enc) := fun ty dc => by
    have := run_copyK (P := Tryd.prog) W1 38 38 ty 42 7 w.heap.size (i * 7) (zs.length + 1 - i) dc ⟨vb, 0, none⟩ 1 1 x.enc Tryd.underlying38 hsz (by rw [enc_length]; show _ = min _ _ * 7; omega)
      (fun j v hj => by rw [Addr.add_lit]; exact (h1.at.keep hbel hvw) j v hj)
      (fun j hj => by rw [enc_length] at hj; exact hN _ (by omega)) (fun j hj => hNf _) (by have := flatE_one_cell [x]; rwa [flatE_one] at this)
    rw [show Nat.min 1 (zs.length + 1 - i) = 1 by show min _ _ = _; omega] at this
    exact this
  obtain ⟨W2, hW2⟩ : ∃ W2, W2 = W1.setCells w.heap.size (i * 7) x.enc := ⟨_, rfl⟩
  have hcpB : ∀ ty dc sc, (Builtin.copy_ #[38, 38] ty #[.slice (some ⟨w.heap.size, (i + 1) * 7, none⟩) (zs.length - i) dc, .slice (some ⟨g, i * 7, none⟩) (zs.length - i) sc]).run Tryd.prog W2.drew = .ok (goInt (zs.length - i : Nat)) (W2.drew.setCells w.heap.size ((i + 1) * 7) (flatE (zs.drop i))) := fun ty dc sc => by
    have := run_copyK (P := Tryd.prog) W2.drew 38 38 ty 42 7 w.heap.size ((i + 1) * 7) (zs.length - i) dc ⟨g, i * 7, none⟩ (zs.length - i) sc (flatE (zs.drop i)) Tryd.underlying38 hsz (by rw [hdl]; show _ = min _ _ * 7; omega)
      (fun j v hj => by
        rw [Addr.add_lit, show W2.drew.cell? ⟨g, i * 7 + j, none⟩ = W2.cell? ⟨g, i * 7 + j, none⟩ from rfl, hW2, World.cell?_setCells_out _ _ _ _ _ (fun h _ => absurd h (by show g ≠ w.heap.size; omega)), hbel.cell (p := ⟨g, i * 7 + j, none⟩) hgw]
        refine hrd (i * 7 + j) v ?_
        rw [flatE_drop, List.getElem?_drop] at hj
        exact hj)
      (fun j hj => by
        rw [show W2.drew.cell? ⟨w.heap.size, (i + 1) * 7 + j, none⟩ = W2.cell? ⟨w.heap.size, (i + 1) * 7 + j, none⟩ from rfl, hW2]
        exact isSome_setCells _ _ _ _ (fun t ht => hN _ (by rw [enc_length] at ht; omega)) _ (hN _ (by omega)))
      (fun j hj => by rw [show W2.drew.frozen? ⟨w.heap.size, (i + 1) * 7 + j, none⟩ = W2.frozen? ⟨w.heap.size, (i + 1) * 7 + j, none⟩ from rfl, hW2, World.frozen?_setCells]; exact hNf _) (flatE_one_cell _)
    rw [show Nat.min (zs.length - i) (zs.length - i) = zs.length - i by show min _ _ = _; omega] at this
    exact this
  have HFE : Hid (InsPost w base zs i x (.returned (.slice (some ⟨w.heap.size, 0, none⟩) (zs.length + 1) G)) (W2.drew.setCells w.heap.size ((i + 1) * 7) (flatE (zs.drop i)))) := by
    refine Lib.hid ⟨_, rfl, ?_, ?_⟩
    · obtain ⟨c1, e1, l1⟩ := heap_over w.heap.size 42 x.enc (i * 7) W1 ROW hblk (by rw [enc_length]; omega)
      have s1 : c1.size = ROW.size := by
        have := congrArg List.length l1
        rw [over_length (by rw [enc_length]; simp; omega)] at this
        simpa using this
      rw [← hW2] at e1
      obtain ⟨c2, e2, l2⟩ := heap_over w.heap.size 42 (flatE (zs.drop i)) ((i + 1) * 7) W2.drew c1 e1 (by rw [hdl]; omega)
      have s2 : c2.size = ROW.size := by
        have := congrArg List.length l2
        rw [over_length (by rw [hdl]; simp; omega)] at this
        simp at this
        omega
      refine ⟨by rw [flatE_length], .inr ⟨w.heap.size, G, c2, by rw [insL_length _ _ _ (by omega)], hb, e2, by rw [insL_length _ _ _ (by omega)]; omega, hGm, by rw [s2, hRs], ?_⟩⟩
      rw [insL_length _ _ _ (by omega), l2, l1]
      exact grow_list ROW.toList zs i x hi (by simp; omega) hRt
    · rw [hW2]
      exact below_setCells _ hb _ _ _ ((below_setCells _ hb _ _ _ (hbel.mono hb)).drew)
  rw [← hW2] at hcpA
  clear hW2
  obtain ⟨W3, hW3⟩ : ∃ W3, W3 = W2.drew.setCells w.heap.size ((i + 1) * 7) (flatE (zs.drop i)) := ⟨_, rfl⟩
  rw [← hW3] at HFE hcpB
  clear hW3
  have HCB := Lib.hid hcpB; clear hcpB
  have HRZ := Lib.hid hrz; clear hrz
  have hb2 : ¬ (c = i + 1 ∧ False) := by simp
  have hb4 : ¬ (c = i) := by omega
  have hGi : ¬ (G = i) := by omega
  have hGim : ¬ (G = i + 1) := by omega
  have hz2 : ¬ ((i : Int) = (zs.length : Int)) := by omega
  have hz3 : (c : Int) < (zs.length : Int) + 1 := by omega
  have hw1 : IntKind.i64.wrap ((i : Int) + 1) = (i : Int) + 1 := IntWalk.i64_in _ (by omega)
  have htn : ((i : Int) + 1).toNat = i + 1 := by omega
  have hc63 : c ≤ 9223372036854775807 := by unfold maxLen at hcm; omega
  have hG63 : G ≤ 9223372036854775807 := by unfold maxLen at hGm; omega
  have hb1 : (0 : Int) ≤ (i : Int) + 1 := by omega
  have hin : i ≤ zs.length := by omega
  have hic : i ≤ c := by omega
  have hb3 : (i : Int) ≤ (zs.length : Int) + 1 := by omega
  clear hdl hrd hNf hN hsz hg hcs htake hfl hcap h1 hb2 hblk hbl1 hRs hRt hzc hzb hzs hz0 hi0 hkk hik htl hcm hGm
  go_enter Tryd.func43, Tryd.ntmps43
  go_wp2_with (at_builtin; refine Lib.wpList_append_run _ rfl _ _ _ _ rfl _ _ rfl rfl _ _ (HRZ.out _) ?_)
  have hcpB := HCB.out
  clear hcpA
  go_region_law (refine step_copy_runI rfl _ _ 38 38 rfl (.slice (some ⟨w.heap.size, (i + 1) * 7, none⟩) (zs.length - i) (G - (i + 1))) (.slice (some ⟨g, i * 7, none⟩) (zs.length - i) (c - i)) (by simp [Act.eval, Act.put]) (by simp [Act.eval, Act.put]) (hcpB _ _ _) ?_)
  all_goals
    clear hcpB
    go_wp2
    go_ret
    exact HFE.out

theorem Insert_any (v : Value) (zs : List En) (i vb base : Nat) (x : En) (w : World) (h : EOwn w base v zs) (hb : base ≤ w.heap.size) (h1 : OneNew w vb x) (hne : v.ownBlock ≠ some vb) (hx : x.ok) (hl : zs.length ≤ 9000) (hi : i ≤ zs.length) :
    Calls Tryd.prog 43 #[v, .int .i64 i, .slice (some ⟨vb, 0, none⟩) 1 1] w (InsPost w base zs i x) := by
  rcases Nat.lt_or_ge i zs.length with hlt | hge
  · obtain ⟨A, c, rfl, hn, hA⟩ := h.form
    obtain ⟨g, rfl, _, _⟩ := hA (by intro h; simp [h] at hlt)
    have hvg : vb ≠ g := fun e => hne (by simp [Value.ownBlock, e])
    rcases Nat.lt_or_ge c (zs.length + 1) with hc | hc
    · exact Insert_grow g c i zs vb base x w h hb h1 hl hlt hc
    · exact Insert_shift g c i zs vb base x w h hb h1 hvg hl hlt hc
  · obtain rfl : i = zs.length := by omega
    exact Insert_end v zs vb base x w h hb h1 hx hl
end Go.Proofs.YtfjaeohfigcciaaDoor
