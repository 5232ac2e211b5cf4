/- The law ItemTakes, walked: it answers true. -/
import Derived.Test.YtfjaeohfigcciaaDoorITakesR
import Derived.Test.YtfjaeohfigcciaaDoorCode2
namespace Go.Proofs.YtfjaeohfigcciaaDoor
open Go.RowKit

set_option maxRecDepth 100000 in
set_option maxHeartbeats 8000000 in
theorem takes_any (v : Value) (zs : List En) (e : En) (w : World) (h : ESl w w.heap.size v zs) (hl : zs.length ≤ 9223372036854775807) (he : e.ok) (hg : ErrVar w) :
    Calls Tryd.prog 6 #[v, e.agg] w fun en w' => en = .returned (.bool true) ∧ Below w.heap.size w w' := by
  have HW := Lib.hid iawake_any
  have HG := Lib.hid hg; clear hg
  have HH := Lib.hid h
  have HEO := Lib.hid he; clear he
  have HAL := Lib.hid (al1 w (.cells #[.int .u8 e.id, .int .u8 e.rep, .int .u32 e.seq, .int .u32 e.stamp, .int .i64 e.kind, .int .u8 e.cls, .int .u32 e.val] 42))
  have HNE := Lib.hid (new_entry w e 42)
  obtain ⟨A, c, rfl, _, _, _⟩ := h
  simp only [En.agg]
  by_cases h300 : 300 < zs.length
  · go_enter Tryd.func6, Tryd.ntmps6
    go_wp2_with fail
    refine (HW.out _).mono ?_
    rintro en w1 ⟨rfl, hb1⟩
    have HB1 := Lib.hid (HAL.out.trans (hb1.mono (by simp)))
    clear hb1
    go_wp2_with fail
    go_ret
    exact ⟨rfl, HB1.out⟩
  · have r3 := fun W => rRightEntry_any e W HEO.out
    simp only [En.agg] at r3
    by_cases hr : erightB zs = true
    · have R2 := Lib.hid (fun W (h : ESl W W.heap.size (.slice A zs.length c) zs) => by have := rRight_any W _ zs h hl; rw [hr] at this; exact this)
      by_cases hq : reB e = true
      · have r1 := fun W (h : ESl W W.heap.size (.slice A zs.length c) zs) => Take_right _ zs e W h (by omega) HEO.out hr hq
        have r4 := fun W (h : ESl W W.heap.size (.slice A zs.length c) zs) => rTake_any _ zs e W h (by omega) HEO.out (rise_of_right hr)
        simp only [En.agg] at r1 r4
        rw [takeL_eq e (rise_of_right hr)] at r1
        have R1 := Lib.hid r1; clear r1
        have R4 := Lib.hid r4; clear r4
        rw [hq] at r3
        have R3 := Lib.hid r3; clear r3
        have hlt : (takeS zs e).length ≤ 400 := by have := takeS_length zs e; omega
        have R5 := Lib.hid (fun v1 v2 W h1 h2 => rSame_yes v1 v2 (takeS zs e) W h1 h2 (by omega))
        have R6 := Lib.hid (fun v1 W h1 => by
          have := iRight_any W v1 (takeS zs e) h1 (by omega)
          rw [← takeL_eq e (rise_of_right hr), right_take hr hq] at this
          exact this)
        clear hr hq hlt
        go_enter Tryd.func6, Tryd.ntmps6
        go_wp2_with fail
        refine (HW.out _).mono ?_
        rintro en w1 ⟨rfl, hb1⟩
        have HB1 := Lib.hid (HAL.out.trans (hb1.mono (by simp)))
        have HE1 := Lib.hid (HNE.out.keep hb1 (by simp))
        have hz1 : w.heap.size < w1.heap.size := by have := hb1.size; simp at this; omega
        clear hb1
        obtain ⟨e0, e1, e2, e3, e4, e5, e6⟩ := HE1.out.all0
        go_wp2_with fail
        refine (R1.out w1 (HH.out.later HB1.out)).mono ?_
        rintro en w2 ⟨v2, rfl, hs2, hb2⟩
        have HS2 := Lib.hid hs2; clear hs2
        have HB2 := Lib.hid (HB1.out.trans (hb2.mono HB1.out.size))
        have HE2 := Lib.hid (HE1.out.keep hb2 hz1)
        have hz2 : w.heap.size < w2.heap.size := by have := hb2.size; omega
        clear hb2 HB1 HE1 e0 e1 e2 e3 e4 e5 e6
        obtain ⟨e0, e1, e2, e3, e4, e5, e6⟩ := HE2.out.all0
        go_wp2_with fail
        refine (R2.out w2 (HH.out.later HB2.out)).mono ?_
        rintro en w3 ⟨rfl, hb3⟩
        have HB3 := Lib.hid (HB2.out.trans (hb3.mono HB2.out.size))
        have HE3 := Lib.hid (HE2.out.keep hb3 hz2)
        have hz3 : w.heap.size < w3.heap.size := by have := hb3.size; omega
        have HS3 := Lib.hid (HS2.out.later hb3); clear HS2
        clear hb3 HB2 HE2 e0 e1 e2 e3 e4 e5 e6
        obtain ⟨e0, e1, e2, e3, e4, e5, e6⟩ := HE3.out.all0
        go_wp2_with fail
        refine (R3.out w3).mono ?_
        rintro en w4 ⟨rfl, hb4⟩
        have HB4 := Lib.hid (HB3.out.trans (hb4.mono HB3.out.size))
        have HE4 := Lib.hid (HE3.out.keep hb4 hz3)
        have hz4 : w.heap.size < w4.heap.size := by have := hb4.size; omega
        have HS4 := Lib.hid (HS3.out.later hb4); clear HS3
        clear hb4 HB3 HE3 e0 e1 e2 e3 e4 e5 e6
        obtain ⟨e0, e1, e2, e3, e4, e5, e6⟩ := HE4.out.all0
        go_wp2_with fail
        refine (R4.out w4 (HH.out.later HB4.out)).mono ?_
        rintro en w5 ⟨v5, rfl, hs5, hb5⟩
        have HB5 := Lib.hid (HB4.out.trans (hb5.mono HB4.out.size))
        have HS5 := Lib.hid (HS4.out.later hb5)
        have HT5 := Lib.hid hs5
        clear hb5 hs5 HB4 HE4 HS4 e0 e1 e2 e3 e4 e5 e6
        go_wp2_with fail
        refine (R5.out v2 v5 w5 HS5.out HT5.out).mono ?_
        rintro en w6 ⟨rfl, hb6⟩
        have HB6 := Lib.hid (HB5.out.trans (hb6.mono HB5.out.size))
        have HS6 := Lib.hid (HS5.out.later hb6)
        clear hb6 HB5 HS5 HT5
        go_wp2_with fail
        refine (R6.out v2 w6 HS6.out).mono ?_
        rintro en w7 ⟨rfl, hb7⟩
        have HB7 := Lib.hid (HB6.out.trans (hb7.mono HB6.out.size))
        clear hb7 HB6 HS6
        go_wp2_with fail
        go_ret
        exact ⟨rfl, HB7.out⟩

      · have r1 := fun W (h : ESl W W.heap.size (.slice A zs.length c) zs) => Take_wrong2 _ zs e W h (by omega) HEO.out hr (by simpa using hq)
        simp only [En.agg] at r1
        have R1 := Lib.hid r1; clear r1
        rw [show reB e = false by simpa using hq] at r3
        have R3 := Lib.hid r3; clear r3
        clear hr hq
        go_enter Tryd.func6, Tryd.ntmps6
        go_wp2_with fail
        refine (HW.out _).mono ?_
        rintro en w1 ⟨rfl, hb1⟩
        have HB1 := Lib.hid (HAL.out.trans (hb1.mono (by simp)))
        have HE1 := Lib.hid (HNE.out.keep hb1 (by simp))
        have hz1 : w.heap.size < w1.heap.size := by have := hb1.size; simp at this; omega
        clear hb1
        obtain ⟨e0, e1, e2, e3, e4, e5, e6⟩ := HE1.out.all0
        go_wp2_with fail
        refine (R1.out w1 (HH.out.later HB1.out)).mono ?_
        rintro en w2 ⟨rfl, hb2⟩
        have HB2 := Lib.hid (HB1.out.trans (hb2.mono HB1.out.size))
        have HE2 := Lib.hid (HE1.out.keep hb2 hz1)
        have hz2 : w.heap.size < w2.heap.size := by have := hb2.size; omega
        clear hb2 HB1 HE1 e0 e1 e2 e3 e4 e5 e6
        obtain ⟨e0, e1, e2, e3, e4, e5, e6⟩ := HE2.out.all0
        go_wp2_with fail
        refine (R2.out w2 (HH.out.later HB2.out)).mono ?_
        rintro en w3 ⟨rfl, hb3⟩
        have HB3 := Lib.hid (HB2.out.trans (hb3.mono HB2.out.size))
        have HE3 := Lib.hid (HE2.out.keep hb3 hz2)
        have hz3 : w.heap.size < w3.heap.size := by have := hb3.size; omega
        clear hb3 HB2 HE2 e0 e1 e2 e3 e4 e5 e6
        obtain ⟨e0, e1, e2, e3, e4, e5, e6⟩ := HE3.out.all0
        go_wp2_with fail
        refine (R3.out w3).mono ?_
        rintro en w4 ⟨rfl, hb4⟩
        have HB4 := Lib.hid (HB3.out.trans (hb4.mono HB3.out.size))
        have HE4 := Lib.hid (HE3.out.keep hb4 hz3)
        have hz4 : w.heap.size < w4.heap.size := by have := hb4.size; omega
        clear hb4 HB3 HE3 e0 e1 e2 e3 e4 e5 e6
        obtain ⟨e0, e1, e2, e3, e4, e5, e6⟩ := HE4.out.all0
        go_wp2_with fail
        refine (code_some 9 w4 (by decide) (HG.out.below HB4.out HG.out.pos)).mono ?_
        rintro en w9 ⟨rfl, hb9⟩
        have HB9 := Lib.hid (HB4.out.trans (hb9.mono HB4.out.size))
        clear hb9
        go_wp2_with fail
        go_ret
        exact ⟨rfl, HB9.out⟩

    · have hr : erightB zs = false := by simpa using hr
      have R2 := Lib.hid (fun W (h : ESl W W.heap.size (.slice A zs.length c) zs) => by have := rRight_any W _ zs h hl; rw [hr] at this; exact this)
      have r1 := fun W (h : ESl W W.heap.size (.slice A zs.length c) zs) => Take_wrong1 _ zs e W h (by omega) hr
      simp only [En.agg] at r1
      have R1 := Lib.hid r1; clear r1
      clear hr r3
      go_enter Tryd.func6, Tryd.ntmps6
      go_wp2_with fail
      refine (HW.out _).mono ?_
      rintro en w1 ⟨rfl, hb1⟩
      have HB1 := Lib.hid (HAL.out.trans (hb1.mono (by simp)))
      have HE1 := Lib.hid (HNE.out.keep hb1 (by simp))
      have hz1 : w.heap.size < w1.heap.size := by have := hb1.size; simp at this; omega
      clear hb1
      obtain ⟨e0, e1, e2, e3, e4, e5, e6⟩ := HE1.out.all0
      go_wp2_with fail
      refine (R1.out w1 (HH.out.later HB1.out)).mono ?_
      rintro en w2 ⟨rfl, hb2⟩
      have HB2 := Lib.hid (HB1.out.trans (hb2.mono HB1.out.size))
      have HE2 := Lib.hid (HE1.out.keep hb2 hz1)
      have hz2 : w.heap.size < w2.heap.size := by have := hb2.size; omega
      clear hb2 HB1 HE1 e0 e1 e2 e3 e4 e5 e6
      obtain ⟨e0, e1, e2, e3, e4, e5, e6⟩ := HE2.out.all0
      go_wp2_with fail
      refine (R2.out w2 (HH.out.later HB2.out)).mono ?_
      rintro en w3 ⟨rfl, hb3⟩
      have HB3 := Lib.hid (HB2.out.trans (hb3.mono HB2.out.size))
      have HE3 := Lib.hid (HE2.out.keep hb3 hz2)
      have hz3 : w.heap.size < w3.heap.size := by have := hb3.size; omega
      clear hb3 HB2 HE2 e0 e1 e2 e3 e4 e5 e6
      obtain ⟨e0, e1, e2, e3, e4, e5, e6⟩ := HE3.out.all0
      go_wp2_with fail
      refine (code_some 9 w3 (by decide) (HG.out.below HB3.out HG.out.pos)).mono ?_
      rintro en w9 ⟨rfl, hb9⟩
      have HB9 := Lib.hid (HB3.out.trans (hb9.mono HB3.out.size))
      clear hb9
      go_wp2_with fail
      go_ret
      exact ⟨rfl, HB9.out⟩

end Go.Proofs.YtfjaeohfigcciaaDoor
