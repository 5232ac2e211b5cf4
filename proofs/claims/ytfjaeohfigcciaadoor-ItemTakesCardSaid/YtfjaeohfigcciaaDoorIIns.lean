/- The contract of slices.Insert of one entry into a slice of the call's own. -/
import Derived.Test.YtfjaeohfigcciaaDoorIIns0
import Derived.Shelf.Spec.SlicesInsert
namespace Go.Proofs.YtfjaeohfigcciaaDoor
open Go.RowKit Go.Lib

theorem sizeEnt : (Tryd.prog.info? 42).map (·.size) = some 7 := by kernel_rfl

/-- the slice of one entry, in a block of its own -/
structure OneNew (w : World) (vb : Nat) (x : En) : Prop where
  blk : w.heap[vb]? = some (.cells #[.int .u8 x.id, .int .u8 x.rep, .int .u32 x.seq, .int .u32 x.stamp, .int .i64 x.kind, .int .u8 x.cls, .int .u32 x.val] 42 (0, 0))

theorem OneNew.at {w : World} {vb : Nat} {x : En} (h : OneNew w vb x) : EnAt w vb 0 x := by
  have hc : ∀ i, w.cell? ⟨vb, i, none⟩ = x.enc[i]? := fun i => by
    rw [cell_of_row w vb i _ _ _ h.blk]
    simp [En.enc]
  intro i u hu
  rw [Nat.zero_add, hc i]
  exact hu
theorem OneNew.sl {w : World} {vb : Nat} {x : En} (h : OneNew w vb x) (hx : x.ok) : ESl w w.heap.size (.slice (some ⟨vb, 0, none⟩) 1 1) [x] := by
  refine ⟨some ⟨vb, 0, none⟩, 1, rfl, (fun h => by simp at h), by simpa using hx, fun _ => ⟨vb, 0, rfl, (Array.getElem?_eq_some_iff.1 h.blk).1, fun j y hj => ?_⟩⟩
  match j, hj with
  | 0, hj => simp at hj; subst hj; exact h.at
  | j + 1, hj => simp at hj

/-- what is told of an insertion -/
def InsPost (w : World) (base : Nat) (zs : List En) (i : Nat) (x : En) (e : Ending) (w' : World) : Prop := ∃ v, e = .returned v ∧ EOwn w' base v (insL zs i x) ∧ Below base w w'

set_option maxRecDepth 100000 in
set_option maxHeartbeats 2000000 in
theorem Insert_end (v : Value) (zs : List En) (vb base : Nat) (x : En) (w : World) (h : EOwn w base v zs) (hb : base ≤ w.heap.size) (h1 : OneNew w vb x) (hx : x.ok) (hl : zs.length ≤ 9000) :
    Calls Tryd.prog 43 #[v, .int .i64 zs.length, .slice (some ⟨vb, 0, none⟩) 1 1] w (InsPost w base zs zs.length x) := by
  have HO := Lib.hid h
  have HS := Lib.hid (h1.sl hx)
  obtain ⟨A, c, hv, hn, hA⟩ := h.form
  have hnc : zs.length ≤ c := by
    rcases h.2 with ⟨hv', hz⟩ | ⟨g, cap, cur, hv', _, _, hcap, _⟩
    · omega
    · rw [hv] at hv'; cases hv'; exact hcap
  subst hv
  clear hA hn h h1 hx
  by_cases hcn : c = zs.length
  · subst hcn
    go_enter Tryd.func43, Tryd.ntmps43
    go_wp2_with (at_builtin; (refine append_ents rfl _ _ rfl base _ zs rfl HO.out _ _ [x] rfl HS.out (by simp; omega) hb ?_); intro v1 w1 ho1 hg1)
    have HO1 := Lib.hid ho1; clear ho1
    have HG1 := Lib.hid hg1; clear hg1
    go_wp2
    go_ret
    exact ⟨v1, rfl, by rw [insL_end]; exact HO1.out, egrown_below (Below.refl _ _) HO.out HG1.out (Nat.le_refl _) hb⟩
  · have hcn' : ¬ (c = zs.length) := hcn
    go_enter Tryd.func43, Tryd.ntmps43
    go_wp2_with (at_builtin; (refine append_ents rfl _ _ rfl base _ zs rfl HO.out _ _ [x] rfl HS.out (by simp; omega) hb ?_); intro v1 w1 ho1 hg1)
    have HO1 := Lib.hid ho1; clear ho1
    have HG1 := Lib.hid hg1; clear hg1
    go_wp2
    go_ret
    exact ⟨v1, rfl, by rw [insL_end]; exact HO1.out, egrown_below (Below.refl _ _) HO.out HG1.out (Nat.le_refl _) hb⟩

set_option maxRecDepth 100000 in
set_option maxHeartbeats 4000000 in
theorem Insert_shift (g c i : Nat) (zs : List En) (vb base : Nat) (x : En) (w : World) (h : EOwn w base (.slice (some ⟨g, 0, none⟩) zs.length c) zs) (hb : base ≤ w.heap.size) (h1 : OneNew w vb x) (hne : vb ≠ g) (hl : zs.length ≤ 9000) (hi : i < zs.length) (hroom : zs.length + 1 ≤ c) :
    Calls Tryd.prog 43 #[.slice (some ⟨g, 0, none⟩) zs.length c, .int .i64 i, .slice (some ⟨vb, 0, none⟩) 1 1] w (InsPost w base zs i x) := by
  obtain ⟨hfl, hrest⟩ := h
  rcases hrest with ⟨hv', hz⟩ | ⟨g', cap, cur, hv', hbg, hg, hcap, hcm, hcs, htake⟩
  · cases hv'
  cases hv'
  have hsz := sizeEnt
  have HFE : Hid (InsPost w base zs i x (.returned (.slice (some ⟨g, 0, none⟩) (zs.length + 1) c)) ((w.drew.setCells g ((i + 1) * 7) (flatE (zs.drop i))).setCells g (i * 7) x.enc)) := by
    refine Lib.hid ⟨_, rfl, ?_, ?_⟩
    · obtain ⟨c1, e1, l1⟩ := heap_over g 42 (flatE (zs.drop i)) ((i + 1) * 7) w.drew cur hg (by rw [flatE_length, List.length_drop]; omega)
      have s1 : c1.size = cur.size := by
        have := congrArg List.length l1
        rw [over_length (by rw [flatE_length, List.length_drop]; simp; omega)] at this
        simpa using this
      obtain ⟨c2, e2, l2⟩ := heap_over g 42 x.enc (i * 7) _ c1 e1 (by rw [enc_length]; omega)
      have s2 : c2.size = cur.size := by
        have := congrArg List.length l2
        rw [over_length (by rw [enc_length]; simp; omega)] at this
        simp at this
        omega
      refine ⟨by rw [flatE_length], .inr ⟨g, c, c2, by rw [insL_length _ _ _ (by omega)], hbg, e2, by rw [insL_length _ _ _ (by omega)]; omega, hcm, by rw [s2, hcs], ?_⟩⟩
      rw [insL_length _ _ _ (by omega), l2, l1]
      exact shift_list cur.toList zs i x hi (by simp; omega) htake
    · exact below_setCells g hbg _ _ _ (below_setCells g hbg _ _ _ ((Below.refl _ w).drew))
  have hov : ∀ lb cb, (callFunc 63 #[.slice (some ⟨vb, 0, none⟩) 1 1, .slice (some ⟨g, (i + 1) * 7, none⟩) lb cb]).run Tryd.prog w = .ok (.value (.bool false)) w := fun lb cb => by
    rw [run_callFunc_extern Tryd.func63 (by kernel_rfl) (by kernel_rfl) (by kernel_rfl) (e := Extern.SlicesOverlaps.overlaps #[38, 38] #[4]) (by kernel_rfl),
      Lib.run_overlaps_apart w 38 4 42 Tryd.underlying38 7 Tryd.sizeOf42 ⟨vb, 0, none⟩ ⟨g, (i + 1) * 7, none⟩ 1 1 lb cb hne 42 42 7 cur.size (by simp [World.shape?, h1.blk]) (by simp [World.shape?, hg]) (by omega) (frozen_of_row w vb 0 _ _ h1.blk) (frozen_of_row w vb 7 _ _ h1.blk)]
    rfl
  have hcs' : ∀ j, j < cur.size → (w.drew.cell? ⟨g, j, none⟩).isSome = true := fun j hj => by
    rw [show w.drew.cell? ⟨g, j, none⟩ = w.cell? ⟨g, j, none⟩ from rfl, cell_of_row w g j _ _ _ hg, Array.getElem?_eq_getElem hj]; rfl
  have hfz : ∀ j, w.drew.frozen? ⟨g, j, none⟩ = false := fun j => frozen_of_row w g j _ _ hg
  have hrd : ∀ j u, (flatE zs)[j]? = some u → w.cell? ⟨g, j, none⟩ = some u := fun j u hu => by
    have hjl := (List.getElem?_eq_some_iff.1 hu).1
    rw [flatE_length] at hjl
    rw [← htake, List.getElem?_take, if_pos hjl] at hu
    rw [cell_of_row w g j _ _ _ hg]
    simpa using hu
  have hdl : (flatE (zs.drop i)).length = (zs.length - i) * 7 := by rw [flatE_length, List.length_drop]
  have hcp1 : ∀ ty dc sc, (Builtin.copy_ #[38, 38] ty #[.slice (some ⟨g, (i + 1) * 7, none⟩) (zs.length - i) dc, .slice (some ⟨g, i * 7, none⟩) (zs.length + 1 - i) sc]).run Tryd.prog w.drew = .ok (goInt (zs.length - i : Nat)) (w.drew.setCells g ((i + 1) * 7) (flatE (zs.drop i))) := fun ty dc sc => by
    have := run_copyK (P := Tryd.prog) w.drew 38 38 ty 42 7 g ((i + 1) * 7) (zs.length - i) dc ⟨g, i * 7, none⟩ (zs.length + 1 - i) sc (flatE (zs.drop i)) Tryd.underlying38 hsz (by rw [hdl]; show _ = min _ _ * 7; omega)
      (fun j v hj => by
        rw [Addr.add_lit]
        refine hrd (i * 7 + j) v ?_
        rw [flatE_drop, List.getElem?_drop] at hj
        exact hj)
      (fun j hj => hcs' _ (by omega)) (fun j hj => hfz _) (flatE_one_cell _)
    rw [show Nat.min (zs.length + 1 - i) (zs.length - i) = zs.length - i by show min _ _ = _; omega] at this
    exact this
  obtain ⟨W1, hW1⟩ : ∃ W1, W1 = w.drew.setCells g ((i + 1) * 7) (flatE (zs.drop i)) := ⟨_, rfl⟩
  have hcp2 : ∀ (W : World), (∀ a, W.cell? a = W1.cell? a) → (∀ a, W.frozen? a = W1.frozen? a) → ∀ ty dc, (Builtin.copy_ #[38, 38] ty #[.slice (some ⟨g, i * 7, none⟩) (zs.length + 1 - i) dc, .slice (some ⟨vb, 0, none⟩) 1 1]).run Tryd.prog W = .ok (goInt 1) (W.setCells g (i * 7) x.enc) := fun W hWc hWf ty dc => by
    have := run_copyK (P := Tryd.prog) W 38 38 ty 42 7 g (i * 7) (zs.length + 1 - i) dc ⟨vb, 0, none⟩ 1 1 x.enc Tryd.underlying38 hsz (by rw [enc_length]; show _ = min _ _ * 7; omega)
      (fun j v hj => by
        rw [Addr.add_lit, hWc, hW1, World.cell?_setCells_out g _ _ _ _ (fun h _ => absurd h hne)]
        exact h1.at j v hj)
      (fun j hj => by
        rw [enc_length] at hj
        rw [hWc, hW1]
        exact isSome_setCells g _ _ _ (fun t ht => hcs' _ (by omega)) _ (hcs' _ (by omega)))
      (fun j hj => by rw [hWf, hW1, World.frozen?_setCells]; exact hfz _) (by have := flatE_one_cell [x]; rwa [flatE_one] at this)
    rw [show Nat.min 1 (zs.length + 1 - i) = 1 by show min _ _ = _; omega] at this
    exact this
  rw [← hW1] at hcp1 HFE
  have hcp3 := hcp2 W1 (fun _ => rfl) (fun _ => rfl)
  clear hcp2 hW1
  have HCP3 := Lib.hid hcp3; clear hcp3
  have HIH := Lib.hid hi
  have hb2 : ¬ (c = i + 1) := by omega
  have hb4 : ¬ (c = i) := by omega
  have hz2 : ¬ ((i : Int) = (zs.length : Int)) := by omega
  have hw1 : IntKind.i64.wrap ((i : Int) + 1) = (i : Int) + 1 := IntWalk.i64_in _ (by omega)
  have htn : ((i : Int) + 1).toNat = i + 1 := by omega
  have hc63 : c ≤ 9223372036854775807 := by unfold maxLen at hcm; omega
  have hb1 : (0 : Int) ≤ (i : Int) + 1 := by omega
  have hin : i ≤ zs.length := by omega
  have hb3 : (i : Int) ≤ (zs.length : Int) + 1 := by omega
  clear hdl hrd hfz hcs' hsz hg hcs htake hfl hcap h1
  go_enter Tryd.func43, Tryd.ntmps43
  go_wp2_with (simp only [hov])
  go_region_law (refine step_copy_runI rfl _ _ 38 38 rfl (.slice (some ⟨g, (i + 1) * 7, none⟩) (zs.length - i) (c - (i + 1))) (.slice (some ⟨g, i * 7, none⟩) (zs.length + 1 - i) (c - i)) (by simp [Act.eval, Act.put]) (by simp [Act.eval, Act.put]) (hcp1 _ _ _) ?_)
  all_goals
    have hcp3 := HCP3.out
    clear hcp1 hov
    go_wp2
    go_ret
    exact HFE.out
end Go.Proofs.YtfjaeohfigcciaaDoor
