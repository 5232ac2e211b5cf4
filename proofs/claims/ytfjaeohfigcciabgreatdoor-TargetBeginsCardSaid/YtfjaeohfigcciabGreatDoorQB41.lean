/- Texts in one: NSame. -/
import Derived.Test.YtfjaeohfigcciabGreatDoorQB08
import Derived.Test.YtfjaeohfigcciabGreatDoorQB20
import Derived.Test.YtfjaeohfigcciabGreatDoorQB15
set_option linter.unusedVariables false
set_option linter.unusedSimpArgs false
set_option linter.unusedSectionVars false
set_option linter.unnecessarySimpa false
namespace Go.Proofs.YtfjaeohfigcciabGreatDoor
open Go.RowKit

set_option maxHeartbeats 8000000 in
set_option maxRecDepth 100000 in
theorem q4Same_eq (v1 v2 : Value) (n : Nt) (w : World) (hv1 : NtV w w.heap.size v1 n) (hv2 : NtV w w.heap.size v2 n) (h1 : n.know.length ≤ 1000) (h2 : n.ents.length ≤ 1000) (h3 : n.offer.length ≤ 1000) :
    Calls Tryz.prog 13 #[v1, v2] w fun e w' => e = .returned (.bool true) ∧ Below w.heap.size w w' := by
  obtain ⟨ak, ae, ao, rfl, hk, he, ho, _⟩ := hv1
  obtain ⟨bk, be, bo, rfl, gk, ge, go, _⟩ := hv2
  unfold Nt.cells
  have s1 := fun w1 (hb : Below w.heap.size w w1) => Same_any ak bk n.know n.know w1 ((hk.below hb).more hb.size) ((gk.below hb).more hb.size) h1 h1
  have s2 := fun w1 (hb : Below w.heap.size w w1) => rSame_yes ae be n.ents w1 ((he.below hb).more hb.size) ((ge.below hb).more hb.size) (by omega)
  have s3 := fun w1 (hb : Below w.heap.size w w1) => Same_any ao bo n.offer n.offer w1 ((ho.below hb).more hb.size) ((go.below hb).more hb.size) h3 h3
  rw [decide_eq_true rfl] at s1 s3
  have S1 := Lib.hid s1; clear s1
  have S2 := Lib.hid s2; clear s2
  have S3 := Lib.hid s3; clear s3
  have TR : ∀ w1 w2 : World, Below w.heap.size w w1 → Below w1.heap.size w1 w2 → Below w.heap.size w w2 := fun _ _ h1 h2 => h1.trans (h2.mono h1.size)
  have TR := Lib.hid TR
  clear hk he ho gk ge go
  have hd : (n.done == n.done) = true := by simp
  go_enter Tryz.func13, Tryz.ntmps13
  go_wp2_with fail
  refine (S1.out _ (al2 w _ _)).mono ?_
  rintro e w1 ⟨rfl, hb1⟩
  have a7 := (hb1.cell (p := ⟨w.heap.size, 7, none⟩) (by simp; omega)).trans ((World.cell?_alloc_lt _ _ ⟨w.heap.size, 7, none⟩ (by simp)).trans (World.cell?_alloc_mark w _ 30 (0, 0) 7))
  have a8 := (hb1.cell (p := ⟨w.heap.size, 8, none⟩) (by simp; omega)).trans ((World.cell?_alloc_lt _ _ ⟨w.heap.size, 8, none⟩ (by simp)).trans (World.cell?_alloc_mark w _ 30 (0, 0) 8))
  have a9 := (hb1.cell (p := ⟨w.heap.size, 9, none⟩) (by simp; omega)).trans ((World.cell?_alloc_lt _ _ ⟨w.heap.size, 9, none⟩ (by simp)).trans (World.cell?_alloc_mark w _ 30 (0, 0) 9))
  have a10 := (hb1.cell (p := ⟨w.heap.size, 10, none⟩) (by simp; omega)).trans ((World.cell?_alloc_lt _ _ ⟨w.heap.size, 10, none⟩ (by simp)).trans (World.cell?_alloc_mark w _ 30 (0, 0) 10))
  have a11 := (hb1.cell (p := ⟨w.heap.size, 11, none⟩) (by simp; omega)).trans ((World.cell?_alloc_lt _ _ ⟨w.heap.size, 11, none⟩ (by simp)).trans (World.cell?_alloc_mark w _ 30 (0, 0) 11))
  have b7 := (hb1.cell (p := ⟨w.heap.size + 1, 7, none⟩) (by simp)).trans (World.cell?_alloc_at _ _ _ _ (by simp))
  have b8 := (hb1.cell (p := ⟨w.heap.size + 1, 8, none⟩) (by simp)).trans (World.cell?_alloc_at _ _ _ _ (by simp))
  have b9 := (hb1.cell (p := ⟨w.heap.size + 1, 9, none⟩) (by simp)).trans (World.cell?_alloc_at _ _ _ _ (by simp))
  have b10 := (hb1.cell (p := ⟨w.heap.size + 1, 10, none⟩) (by simp)).trans (World.cell?_alloc_at _ _ _ _ (by simp))
  have b11 := (hb1.cell (p := ⟨w.heap.size + 1, 11, none⟩) (by simp)).trans (World.cell?_alloc_at _ _ _ _ (by simp))
  have hz1 : w.heap.size + 1 < w1.heap.size := by have := hb1.size; simp at this; omega
  simp at a7 a8 a9 a10 a11 b7 b8 b9 b10 b11
  have HB1 := Lib.hid ((al2 w _ _).trans (hb1.mono (by simp; omega))); clear hb1
  go_wp2_with fail
  refine (S2.out _ HB1.out).mono ?_
  rintro e w2 ⟨rfl, hb2⟩
  have c9 := (hb2.cell (p := ⟨w.heap.size, 9, none⟩) (by simp; omega)).trans a9
  have c10 := (hb2.cell (p := ⟨w.heap.size, 10, none⟩) (by simp; omega)).trans a10
  have c11 := (hb2.cell (p := ⟨w.heap.size, 11, none⟩) (by simp; omega)).trans a11
  have d9 := (hb2.cell (p := ⟨w.heap.size + 1, 9, none⟩) hz1).trans b9
  have d10 := (hb2.cell (p := ⟨w.heap.size + 1, 10, none⟩) hz1).trans b10
  have d11 := (hb2.cell (p := ⟨w.heap.size + 1, 11, none⟩) hz1).trans b11
  have HB2 := Lib.hid (TR.out _ _ HB1.out hb2); clear hb2 a7 a8 a9 a10 a11 b7 b8 b9 b10 b11
  go_wp2_with fail
  refine (S3.out _ HB2.out).mono ?_
  rintro e w3 ⟨rfl, hb3⟩
  have HB3 := Lib.hid (TR.out _ _ HB2.out hb3); clear hb3
  go_wp2_with fail
  go_ret
  exact ⟨rfl, HB3.out⟩
end Go.Proofs.YtfjaeohfigcciabGreatDoor

