/- The contract of know.inOrder: the runs of both lists, in order. -/
import Derived.Test.YtfjaeohfigcciaaDoorConcat
import Derived.Test.YtfjaeohfigcciaaDoorMath
import Derived.Shelf.SlSortCmp.NoneTotal
namespace Go.Proofs.YtfjaeohfigcciaaDoor
open Go.RowKit Go.Sort Go.Shelf

def ltR (x y : Rn) : Prop := x.r < y.r ∨ (x.r = y.r ∧ x.lo < y.lo)
instance : DecidableRel ltR := fun x y => by unfold ltR; infer_instance
theorem lt_cmpR (x y : Rn) : ltOf cmpR x y = decide (ltR x y) := by
  unfold ltOf cmpR cmpI ltR
  by_cases h : x.r = y.r
  · simp only [h, if_true]
    by_cases h1 : x.lo < y.lo
    · simp [h1]
    · by_cases h2 : y.lo < x.lo <;> simp [h1, h2]
  · simp only [h, if_false]
    by_cases h1 : x.r < y.r
    · simp [h1]
    · by_cases h2 : y.r < x.r <;> simp [h1, h2]
theorem lt_iff (x y : Rn) : ltOf cmpR x y = true ↔ x.r < y.r ∨ (x.r = y.r ∧ x.lo < y.lo) := by
  rw [lt_cmpR, decide_eq_true_iff]; exact Iff.rfl
theorem nlt_iff (x y : Rn) : ltOf cmpR x y = false ↔ ¬ (x.r < y.r ∨ (x.r = y.r ∧ x.lo < y.lo)) := by
  rw [← Bool.not_eq_true, lt_iff]
theorem swoR : SWO (ltOf cmpR) where
  irrefl x := by rw [nlt_iff]; omega
  trans x y z h1 h2 := by
    rw [lt_iff] at h1 h2 ⊢
    omega
  ntrans x y z h1 h2 := by
    rw [nlt_iff] at h1 h2 ⊢
    omega

theorem cmpLaysR (blk off size : Nat) (w : World) : CmpLays Tryd.prog 56 #[] Rn.enc 3 cmpR blk off size w := fun _ _ _ _ x y =>
  (ordC_any x.r x.lo x.hi y.r y.lo y.hi _).mono fun _ _ ⟨he, hw⟩ => ⟨he, 0, _, hw.trans ((alloc_eq_grow _ _).trans ((congrArg (fun u => grow u _) (alloc_eq_grow _ _)).trans (grow_grow _ _ _)))⟩

theorem enc_get (x : Rn) (c : Nat) (hc : c < 3) : ∃ u, x.enc[c]? = some u ∧ x.enc[c]! = u := by
  match c, hc with
  | 0, _ => exact ⟨_, rfl, rfl⟩
  | 1, _ => exact ⟨_, rfl, rfl⟩
  | 2, _ => exact ⟨_, rfl, rfl⟩

theorem Own.holds {w : World} {base g c n : Nat} {zs : List Rn} (h : Own w base (.slice (some ⟨g, 0, none⟩) n c) zs) (hn : n = zs.length) : HoldsK Rn.enc 3 w g 0 zs.toArray := by
  intro t ht
  rw [size_flatK] at ht
  simp only [List.size_toArray] at ht
  refine ⟨?_, h.frozen hn _⟩
  rw [get_flatK _ _ _ t (by simpa using ht)]
  have hj : t / 3 < zs.length := by omega
  have hc := World.ownsRow.cellAt (by subst hn; exact h) t (by omega)
  have hg := flat_get zs (t / 3) (t % 3) zs[t / 3] (List.getElem?_eq_getElem hj) (by omega)
  rw [show t / 3 * 3 + t % 3 = t by omega] at hg
  obtain ⟨u, hu1, hu2⟩ := enc_get zs[t / 3] (t % 3) (by omega)
  rw [Nat.zero_add, hc, hg, hu1]
  have hz : zs.toArray[t / 3]! = zs[t / 3] := by simp [hj]
  rw [hz, hu2]
  rfl

theorem HoldsK.run {w : World} {g : Nat} {d : Array Rn} (h : HoldsK Rn.enc 3 w g 0 d) {j : Nat} {x : Rn} (hj : d.toList[j]? = some x) : RnAt w g (0 + j * 3) x := by
  have hlt : j < d.size := by have := (List.getElem?_eq_some_iff.1 hj).1; simpa using this
  have hx : d[j]! = x := by
    rw [Array.getElem?_toList] at hj
    simp [Array.getElem!_eq_getD, Array.getD_eq_getD_getElem?, hj]
  have h0 := (h.cell hlt (c := 0) (by omega)).1
  have h1 := (h.cell hlt (c := 1) (by omega)).1
  have h2 := (h.cell hlt (c := 2) (by omega)).1
  rw [hx] at h0 h1 h2
  exact ⟨h0, h1, h2⟩

theorem below_sortWorld {B : Nat} (w : World) (g n : Nat) (d : Array Rn) (os : Array Obj) (hB : B ≤ g) (hw : B ≤ w.heap.size) : Below B w (sortWorldK Rn.enc 3 w g 0 n d os) := by
  refine ⟨rfl, rfl, rfl, ?_, fun i hi => ?_⟩
  · simp [sortWorldK, putRowK]
  · show ((putRowK Rn.enc 3 (Sort.ahead w n) g 0 d).heap ++ os)[i]? = w.heap[i]?
    rw [Array.getElem?_append_left (by simp [putRowK]; omega)]
    simp only [putRowK, putRow, mapBlock, Array.getElem?_modify]
    rw [if_neg (by omega)]
    rfl

/-- slices.SortFunc on a slice of the call's own -/
theorem Sort_any (v : Value) (zs : List Rn) (w : World) (base : Nat) (h : Own w base v zs) (hok : ∀ x ∈ zs, x.ok) (hl : zs.length ≤ 1000) (hB : base ≤ w.heap.size) :
    Calls Tryd.prog 55 #[v, .func (.func 56) #[] #[]] w fun e w' => e = .returned (.tuple #[]) ∧ ∃ l : List Rn, l.Perm zs ∧ Ordered l ∧ Sl w' w'.heap.size v l ∧ Below base w w' := by
  obtain ⟨A, n, c, rfl, hn, hcz, hA⟩ := h.form'
  by_cases hne : zs = []
  · subst hne
    obtain rfl : n = 0 := hn
    refine (AnyF.slices_SortFunc_none Tryd.lSort A c _ w).mono fun e w' ⟨he, hw⟩ => ?_
    subst hw
    exact ⟨he, [], List.Perm.refl _, List.Pairwise.nil, h.sl hok, Below.refl _ _⟩
  · obtain ⟨g, rfl, hg1, hg2⟩ := hA hne
    have eg : ∀ args w, (callFunc 56 args).run Tryd.prog w = .ok (.enter 56 args) w := enters_of Tryd.func56 (by kernel_rfl) rfl
    have hH := h.holds hn
    have hcon := AnyQ.slices_SortFunc Tryd.lSort 3 Tryd.isAgg51 Tryd.sizeOf51 Rn.enc (fun _ => rfl) (fun x u hu => by simp [Rn.enc] at hu; rcases hu with rfl | rfl | rfl <;> rfl) cmpR swoR 56 #[] g 0 c zs.toArray w eg (cmpLaysR g 0 _ w) hH hg2 (by simp; omega)
    rw [List.size_toArray, ← hn] at hcon
    refine hcon.mono fun e w' ⟨he, d', q, os, hp, hs, hw⟩ => ⟨he, d'.toList, ?_, ?_, ?_, ?_⟩
    · obtain ⟨h1, _, h3⟩ := hp
      have h1' : d'.size = n := by rw [h1]; simp [hn]
      have e1 : (d'.extract 0 n).toList = d'.toList := by rw [← h1']; simp
      have e2 : (zs.toArray.extract 0 n).toList = zs := by rw [hn]; simp
      rw [e1, e2] at h3
      exact h3
    · have h1 : d'.size = n := by have := hp.1; simp at this; omega
      refine List.pairwise_iff_getElem.2 fun i j hi hj hij => ?_
      rw [Array.length_toList] at hi hj
      have := hs i j (Nat.zero_le _) hij (by omega)
      rw [nlt_iff] at this
      simp only [getElem!_pos d' i hi, getElem!_pos d' j hj] at this
      simpa using this
    · have h1 : d'.size = n := by have := hp.1; simp at this; omega
      have hperm : d'.toList.Perm zs := by
        obtain ⟨h1, _, h3⟩ := hp
        have h1' : d'.size = n := by rw [h1]; simp [hn]
        have e1 : (d'.extract 0 n).toList = d'.toList := by rw [← h1']; simp
        have e2 : (zs.toArray.extract 0 n).toList = zs := by rw [hn]; simp
        rw [e1, e2] at h3
        exact h3
      have hHd : HoldsK Rn.enc 3 w' g 0 d' := by
        rw [hw]
        exact holdsK_grow _ _ _ _ _ _ _ (by simp [putRowK]; exact hg2) (holdsK_putRowK _ _ _ _ _ zs.toArray d' (holdsK_ahead _ _ _ _ _ _ _ hH) (by simp; omega))
      refine ⟨_, c, by rw [Array.length_toList, h1], (fun h => by simp at h), fun x hx => hok x (hperm.mem_iff.1 hx), fun _ => ⟨g, 0, rfl, ?_, fun j x hj => HoldsK.run hHd hj⟩⟩
      rw [hw]; simp [sortWorldK, putRowK]; omega
    · rw [hw]; exact below_sortWorld w g q d' os hg1 hB
end Go.Proofs.YtfjaeohfigcciaaDoor

