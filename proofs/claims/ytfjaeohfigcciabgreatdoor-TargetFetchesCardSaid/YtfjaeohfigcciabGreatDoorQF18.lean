/- Texts in one: PCode4. -/
import Derived.Test.YtfjaeohfigcciabGreatDoorQF17
set_option linter.unusedVariables false
set_option linter.unusedSimpArgs false
set_option linter.unusedSectionVars false
set_option linter.unnecessarySimpa false
namespace Go.Proofs.YtfjaeohfigcciabGreatDoor
open Go.RowKit

set_option maxHeartbeats 8000000 in
set_option maxRecDepth 100000 in
theorem prightSession_off (v : Value) (r : Rp) (w : World) (hv : RpV w w.heap.size v r) (hon : r.ses.on = false) :
    Calls Tryz.prog 51 #[v] w fun e w' => e = .returned (.bool (rsesB r)) ∧ Below w.heap.size w w' := by
  obtain ⟨vk, vh, vo, rfl, ik, ih, io, iok⟩ := hv
  obtain ⟨Ao, co, rfl, _⟩ := io
  clear ik ih iok
  have HP := Lib.hid (show rsesB r = ((r.ses.num == 0) && ((r.ses.src == 0) && ((r.ses.cur == 0) && ((r.ses.epoch == 0) && ((r.ses.offer.length : Int) == 0))))) by unfold rsesB; rw [hon]; rfl)
  unfold Rp.cells
  rw [hon]
  clear hon
  generalize rsesB r = P at HP ⊢
  obtain ⟨q1, hq1⟩ : ∃ q : Bool, (r.ses.num == 0) = q := ⟨_, rfl⟩
  obtain ⟨q2, hq2⟩ : ∃ q : Bool, (r.ses.src == 0) = q := ⟨_, rfl⟩
  obtain ⟨q3, hq3⟩ : ∃ q : Bool, (r.ses.cur == 0) = q := ⟨_, rfl⟩
  obtain ⟨q4, hq4⟩ : ∃ q : Bool, (r.ses.epoch == 0) = q := ⟨_, rfl⟩
  obtain ⟨q5, hq5⟩ : ∃ q : Bool, ((r.ses.offer.length : Int) == 0) = q := ⟨_, rfl⟩
  rw [hq1, hq2, hq3, hq4, hq5] at HP
  cases q1
  case false =>
    go_enter Tryz.func51, Tryz.ntmps51
    go_wp2_with fail
    go_ret
    exact ⟨by rw [HP.out]; rfl, al2 _ _ _⟩
  cases q2
  case false =>
    go_enter Tryz.func51, Tryz.ntmps51
    go_wp2_with fail
    go_ret
    exact ⟨by rw [HP.out]; rfl, al2 _ _ _⟩
  cases q3
  case false =>
    go_enter Tryz.func51, Tryz.ntmps51
    go_wp2_with fail
    go_ret
    exact ⟨by rw [HP.out]; rfl, al2 _ _ _⟩
  cases q4
  case false =>
    go_enter Tryz.func51, Tryz.ntmps51
    go_wp2_with fail
    go_ret
    exact ⟨by rw [HP.out]; rfl, al2 _ _ _⟩
  cases q5
  · skip
    go_enter Tryz.func51, Tryz.ntmps51
    go_wp2_with fail
    go_ret
    exact ⟨by rw [HP.out]; rfl, al2 _ _ _⟩
  · skip
    go_enter Tryz.func51, Tryz.ntmps51
    go_wp2_with fail
    go_ret
    exact ⟨by rw [HP.out]; rfl, al2 _ _ _⟩
set_option maxHeartbeats 16000000 in
set_option maxRecDepth 100000 in
theorem prightSession_on (v : Value) (r : Rp) (w : World) (hv : RpV w w.heap.size v r) (hl : r.ses.offer.length ≤ 1000) (hon : r.ses.on = true) :
    Calls Tryz.prog 51 #[v] w fun e w' => e = .returned (.bool (rsesB r)) ∧ Below w.heap.size w w' := by
  obtain ⟨vk, vh, vo, rfl, ik, ih, io, iok⟩ := hv
  have io2 := io
  obtain ⟨Ao, co, rfl, _⟩ := io2
  have HB := Lib.hid ((RBox.start ik ih io iok).up (al1 _ (.cells (r.ses.cells (.slice Ao r.ses.offer.length co)) 26)))
  have NC := Lib.hid (fun w1 (hb : Below ((w.alloc (.cells (r.cells vk vh (.slice Ao r.ses.offer.length co)) 28)).alloc (.cells (r.ses.cells (.slice Ao r.ses.offer.length co)) 26)).heap.size ((w.alloc (.cells (r.cells vk vh (.slice Ao r.ses.offer.length co)) 28)).alloc (.cells (r.ses.cells (.slice Ao r.ses.offer.length co)) 26)) w1) (j : Nat) (u : Value) (hu : (r.ses.cells (.slice Ao r.ses.offer.length co))[j]? = some u) => (show w1.cell? ⟨w.heap.size + 1, j, none⟩ = some u by have hbx := box_cells (w := (w.alloc (.cells (r.cells vk vh (.slice Ao r.ses.offer.length co)) 28))) (w1 := w1) (cs := r.ses.cells (.slice Ao r.ses.offer.length co)) (t := 26) hb j u hu; simpa using hbx))
  clear ik ih io iok
  have r1 := fun w1 (hb : Below ((w.alloc (.cells (r.cells vk vh (.slice Ao r.ses.offer.length co)) 28)).alloc (.cells (r.ses.cells (.slice Ao r.ses.offer.length co)) 26)).heap.size ((w.alloc (.cells (r.cells vk vh (.slice Ao r.ses.offer.length co)) 28)).alloc (.cells (r.ses.cells (.slice Ao r.ses.offer.length co)) 26)) w1) => prightRuns_any _ (.slice Ao r.ses.offer.length co) r r.ses.offer w1 (HB.out.val hb) ((HB.out.of.below (HB.out.trans hb)).more (HB.out.trans hb).size) hl
  have r2 := fun w1 (hb : Below ((w.alloc (.cells (r.cells vk vh (.slice Ao r.ses.offer.length co)) 28)).alloc (.cells (r.ses.cells (.slice Ao r.ses.offer.length co)) 26)).heap.size ((w.alloc (.cells (r.cells vk vh (.slice Ao r.ses.offer.length co)) 28)).alloc (.cells (r.ses.cells (.slice Ao r.ses.offer.length co)) 26)) w1) => patFirst_any (.slice Ao r.ses.offer.length co) r.ses w1 ((HB.out.of.below (HB.out.trans hb)).more (HB.out.trans hb).size)
  have HP := Lib.hid (show rsesB r = (decide (1 ≤ r.ses.num) && (decide (r.ses.num ≤ r.ses.last) && (decide (r.ses.src < 8) && ((r.ses.src != r.rep) && (decide (r.ses.cur < 64) && (rrunsB r r.ses.offer && ((r.ses.cur != 0) || firstS r.ses))))))) by unfold rsesB; rw [if_pos hon])
  generalize rsesB r = P at HP ⊢
  generalize rrunsB r r.ses.offer = b1 at HP r1
  generalize firstS r.ses = b2 at HP r2
  unfold Rp.cells at HB NC r1 r2 ⊢
  unfold Ss.cells at HB NC r1 r2
  rw [hon] at HB NC r1 r2 ⊢
  clear hon
  have R1 := Lib.hid r1; clear r1
  have R2 := Lib.hid r2; clear r2
  obtain ⟨q1, hq1⟩ : ∃ q : Bool, decide (1 ≤ r.ses.num) = q := ⟨_, rfl⟩
  obtain ⟨q2, hq2⟩ : ∃ q : Bool, decide (r.ses.num ≤ r.ses.last) = q := ⟨_, rfl⟩
  obtain ⟨q3, hq3⟩ : ∃ q : Bool, decide (r.ses.src < 8) = q := ⟨_, rfl⟩
  obtain ⟨q4, hq4⟩ : ∃ q : Bool, (r.ses.src != r.rep) = q := ⟨_, rfl⟩
  obtain ⟨q5, hq5⟩ : ∃ q : Bool, decide (r.ses.cur < 64) = q := ⟨_, rfl⟩
  obtain ⟨q6, hq6⟩ : ∃ q : Bool, (r.ses.cur != 0) = q := ⟨_, rfl⟩
  rw [hq1, hq2, hq3, hq4, hq5, hq6] at HP
  cases q1
  case false =>
    go_enter Tryz.func51, Tryz.ntmps51
    go_wp2_with fail
    go_ret
    exact ⟨by rw [HP.out]; rfl, HB.out.trans (Below.refl _ _)⟩
  cases q2
  case false =>
    go_enter Tryz.func51, Tryz.ntmps51
    go_wp2_with fail
    go_ret
    exact ⟨by rw [HP.out]; rfl, HB.out.trans (Below.refl _ _)⟩
  cases q3
  case false =>
    go_enter Tryz.func51, Tryz.ntmps51
    go_wp2_with fail
    go_ret
    exact ⟨by rw [HP.out]; rfl, HB.out.trans (Below.refl _ _)⟩
  cases q4
  case false =>
    go_enter Tryz.func51, Tryz.ntmps51
    go_wp2_with fail
    go_ret
    exact ⟨by rw [HP.out]; rfl, HB.out.trans (Below.refl _ _)⟩
  cases q5
  case false =>
    go_enter Tryz.func51, Tryz.ntmps51
    go_wp2_with fail
    go_ret
    exact ⟨by rw [HP.out]; rfl, HB.out.trans (Below.refl _ _)⟩
  cases b1
  case false =>
    go_enter Tryz.func51, Tryz.ntmps51
    go_wp2_with fail
    refine (R1.out _ (Below.refl _ _)).mono ?_
    rintro e w1 ⟨rfl, hb1⟩
    have m0 := NC.out w1 hb1 0 _ rfl
    have m1 := NC.out w1 hb1 1 _ rfl
    have m2 := NC.out w1 hb1 2 _ rfl
    have m3 := NC.out w1 hb1 3 _ rfl
    have m4 := NC.out w1 hb1 4 _ rfl
    have m5 := NC.out w1 hb1 5 _ rfl
    have m6 := NC.out w1 hb1 6 _ rfl
    have HB1 := Lib.hid hb1; clear hb1
    go_wp2_with fail
    go_ret
    exact ⟨by rw [HP.out]; rfl, HB.out.trans HB1.out⟩
  cases q6
  case true =>
    go_enter Tryz.func51, Tryz.ntmps51
    go_wp2_with fail
    refine (R1.out _ (Below.refl _ _)).mono ?_
    rintro e w1 ⟨rfl, hb1⟩
    have m0 := NC.out w1 hb1 0 _ rfl
    have m1 := NC.out w1 hb1 1 _ rfl
    have m2 := NC.out w1 hb1 2 _ rfl
    have m3 := NC.out w1 hb1 3 _ rfl
    have m4 := NC.out w1 hb1 4 _ rfl
    have m5 := NC.out w1 hb1 5 _ rfl
    have m6 := NC.out w1 hb1 6 _ rfl
    have HB1 := Lib.hid hb1; clear hb1
    go_wp2_with fail
    go_ret
    exact ⟨by rw [HP.out]; rfl, HB.out.trans HB1.out⟩
  go_enter Tryz.func51, Tryz.ntmps51
  go_wp2_with fail
  refine (R1.out _ (Below.refl _ _)).mono ?_
  rintro e w1 ⟨rfl, hb1⟩
  have m0 := NC.out w1 hb1 0 _ rfl
  have m1 := NC.out w1 hb1 1 _ rfl
  have m2 := NC.out w1 hb1 2 _ rfl
  have m3 := NC.out w1 hb1 3 _ rfl
  have m4 := NC.out w1 hb1 4 _ rfl
  have m5 := NC.out w1 hb1 5 _ rfl
  have m6 := NC.out w1 hb1 6 _ rfl
  have HB1 := Lib.hid hb1; clear hb1
  go_wp2_with fail
  refine (R2.out _ HB1.out).mono ?_
  rintro e w2 ⟨rfl, hb2⟩
  have HB2 := Lib.hid (HB1.out.trans (hb2.mono HB1.out.size)); clear hb2
  go_wp2_with fail
  go_ret
  exact ⟨by rw [HP.out]; cases b2 <;> rfl, HB.out.trans HB2.out⟩
theorem prightSession_any (v : Value) (r : Rp) (w : World) (hv : RpV w w.heap.size v r) (hl : r.ses.offer.length ≤ 1000) :
    Calls Tryz.prog 51 #[v] w fun e w' => e = .returned (.bool (rsesB r)) ∧ Below w.heap.size w w' := by
  cases h : r.ses.on
  · exact prightSession_off v r w hv h
  · exact prightSession_on v r w hv hl h

set_option maxHeartbeats 8000000 in
set_option maxRecDepth 100000 in
theorem pRight_any (v : Value) (r : Rp) (w : World) (hv : RpV w w.heap.size v r) (h1 : r.know.length ≤ 1000) (h2 : r.held.length ≤ 1000) (h3 : r.ses.offer.length ≤ 1000) :
    Calls Tryz.prog 17 #[v] w fun e w' => e = .returned (.bool (rpB r)) ∧ Below w.heap.size w w' := by
  obtain ⟨vk, vh, vo, rfl, ik, ih, io, iok⟩ := hv
  have HB := Lib.hid (RBox.start ik ih io iok)
  have r1 := fun w1 (hb : Below (w.alloc (.cells (r.cells vk vh vo) 28)).heap.size (w.alloc (.cells (r.cells vk vh vo) 28)) w1) => prightRuns_any _ vk r r.know w1 (HB.out.val hb) ((ik.below (HB.out.trans hb)).more (HB.out.trans hb).size) h1
  have r2 := fun w1 (hb : Below (w.alloc (.cells (r.cells vk vh vo) 28)).heap.size (w.alloc (.cells (r.cells vk vh vo) 28)) w1) => prightHeld_any _ r w1 (HB.out.val hb) h2
  have r3 := fun w1 (hb : Below (w.alloc (.cells (r.cells vk vh vo) 28)).heap.size (w.alloc (.cells (r.cells vk vh vo) 28)) w1) => prightSession_any _ r w1 (HB.out.val hb) h3
  have HP := Lib.hid (show rpB r = (decide (r.rep < 8) && (rrunsB r r.know && (rheldB r && rsesB r))) from (rright_rp iok).symm)
  clear ik ih io iok h1 h2 h3
  generalize rpB r = P at HP ⊢
  generalize rrunsB r r.know = b1 at HP r1
  generalize rheldB r = b2 at HP r2
  generalize rsesB r = b3 at HP r3
  unfold Rp.cells at HB r1 r2 r3 ⊢
  have R1 := Lib.hid r1; clear r1
  have R2 := Lib.hid r2; clear r2
  have R3 := Lib.hid r3; clear r3
  obtain ⟨q1, hq1⟩ : ∃ q : Bool, decide (r.rep < 8) = q := ⟨_, rfl⟩
  rw [hq1] at HP
  cases q1
  case false =>
    go_enter Tryz.func17, Tryz.ntmps17
    go_wp2_with fail
    go_ret
    exact ⟨by rw [HP.out]; rfl, HB.out.trans (Below.refl _ _)⟩
  cases b1
  case false =>
    go_enter Tryz.func17, Tryz.ntmps17
    go_wp2_with fail
    refine (R1.out _ (Below.refl _ _)).mono ?_
    rintro e w1 ⟨rfl, hb1⟩
    have HB1 := Lib.hid hb1; clear hb1
    go_wp2_with fail
    go_ret
    exact ⟨by rw [HP.out]; rfl, HB.out.trans HB1.out⟩
  cases b2
  case false =>
    go_enter Tryz.func17, Tryz.ntmps17
    go_wp2_with fail
    refine (R1.out _ (Below.refl _ _)).mono ?_
    rintro e w1 ⟨rfl, hb1⟩
    have m0 := HB.out.c0 hb1
    have m1 := HB.out.c1 hb1
    have m2 := HB.out.c2 hb1
    have m3 := HB.out.c3 hb1
    have m4 := HB.out.c4 hb1
    have m5 := HB.out.c5 hb1
    have m6 := HB.out.c6 hb1
    have m7 := HB.out.c7 hb1
    have m8 := HB.out.c8 hb1
    have m9 := HB.out.c9 hb1
    have m10 := HB.out.c10 hb1
    have m11 := HB.out.c11 hb1
    have m12 := HB.out.c12 hb1
    have HB1 := Lib.hid hb1; clear hb1
    go_wp2_with fail
    refine (R2.out _ HB1.out).mono ?_
    rintro e w2 ⟨rfl, hb2⟩
    have hb2' := HB1.out.trans (hb2.mono HB1.out.size)
    clear m0 m1 m2 m3 m4 m5 m6 m7 m8 m9 m10 m11 m12
    have HB2 := Lib.hid hb2'; clear hb2 hb2'
    go_wp2_with fail
    go_ret
    exact ⟨by rw [HP.out]; rfl, HB.out.trans HB2.out⟩
  go_enter Tryz.func17, Tryz.ntmps17
  go_wp2_with fail
  refine (R1.out _ (Below.refl _ _)).mono ?_
  rintro e w1 ⟨rfl, hb1⟩
  have m0 := HB.out.c0 hb1
  have m1 := HB.out.c1 hb1
  have m2 := HB.out.c2 hb1
  have m3 := HB.out.c3 hb1
  have m4 := HB.out.c4 hb1
  have m5 := HB.out.c5 hb1
  have m6 := HB.out.c6 hb1
  have m7 := HB.out.c7 hb1
  have m8 := HB.out.c8 hb1
  have m9 := HB.out.c9 hb1
  have m10 := HB.out.c10 hb1
  have m11 := HB.out.c11 hb1
  have m12 := HB.out.c12 hb1
  have HB1 := Lib.hid hb1; clear hb1
  go_wp2_with fail
  refine (R2.out _ HB1.out).mono ?_
  rintro e w2 ⟨rfl, hb2⟩
  have hb2' := HB1.out.trans (hb2.mono HB1.out.size)
  clear m0 m1 m2 m3 m4 m5 m6 m7 m8 m9 m10 m11 m12
  have n0 := HB.out.c0 hb2'
  have n1 := HB.out.c1 hb2'
  have n2 := HB.out.c2 hb2'
  have n3 := HB.out.c3 hb2'
  have n4 := HB.out.c4 hb2'
  have n5 := HB.out.c5 hb2'
  have n6 := HB.out.c6 hb2'
  have n7 := HB.out.c7 hb2'
  have n8 := HB.out.c8 hb2'
  have n9 := HB.out.c9 hb2'
  have n10 := HB.out.c10 hb2'
  have n11 := HB.out.c11 hb2'
  have n12 := HB.out.c12 hb2'
  have HB2 := Lib.hid hb2'; clear hb2 hb2'
  go_wp2_with fail
  refine (R3.out _ HB2.out).mono ?_
  rintro e w3 ⟨rfl, hb3⟩
  have HB3 := Lib.hid (HB2.out.trans (hb3.mono HB2.out.size)); clear hb3
  go_wp2_with fail
  go_ret
  exact ⟨by rw [HP.out]; cases b3 <;> rfl, HB.out.trans HB3.out⟩
end Go.Proofs.YtfjaeohfigcciabGreatDoor

