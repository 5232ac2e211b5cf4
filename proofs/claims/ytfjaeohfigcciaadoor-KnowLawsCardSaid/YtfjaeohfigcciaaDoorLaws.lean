/- The walk of the law KnowLaws: it answers true, and leaves all that was there. -/
import Derived.Test.YtfjaeohfigcciaaDoorRes
namespace Go.Proofs.YtfjaeohfigcciaaDoor
open Go.RowKit Go.Sort Go.Shelf

def isOk : Except Int (List Rn) → Bool
  | .ok _ => true
  | .error _ => false

set_option maxHeartbeats 1000000 in
theorem laws_long (va vb vc : Value) (zs ys us : List Rn) (p n : Int) (w : World) (ha : Sl w w.heap.size va zs) (hb : Sl w w.heap.size vb ys) (hc : Sl w w.heap.size vc us) (hl : 300 < zs.length ∨ 300 < ys.length ∨ 300 < us.length)
    (h1 : zs.length ≤ 9223372036854775807) (h2 : ys.length ≤ 9223372036854775807) (h3 : us.length ≤ 9223372036854775807) :
    Calls Tryd.prog 5 #[va, vb, vc, .int .u8 p, .int .u32 n] w fun e w' => e = .returned (.bool true) ∧ Below w.heap.size w w' := by
  obtain ⟨A1, k1, rfl, _, _, _⟩ := ha
  obtain ⟨A2, k2, rfl, _, _, _⟩ := hb
  obtain ⟨A3, k3, rfl, _, _, _⟩ := hc
  by_cases hz : 300 < zs.length
  · clear hl
    go_enter Tryd.func5, Tryd.ntmps5
    go_wp2_with fail
    refine (awake_any _).mono ?_
    rintro e w1 ⟨rfl, hb1⟩
    go_wp2_with fail
    go_ret
    exact ⟨rfl, hb1⟩
  · by_cases hy : 300 < ys.length
    · clear hl
      go_enter Tryd.func5, Tryd.ntmps5
      go_wp2_with fail
      refine (awake_any _).mono ?_
      rintro e w1 ⟨rfl, hb1⟩
      go_wp2_with fail
      go_ret
      exact ⟨rfl, hb1⟩
    · have hu : 300 < us.length := by omega
      clear hl
      go_enter Tryd.func5, Tryd.ntmps5
      go_wp2_with fail
      refine (awake_any _).mono ?_
      rintro e w1 ⟨rfl, hb1⟩
      go_wp2_with fail
      go_ret
      exact ⟨rfl, hb1⟩

set_option maxHeartbeats 2000000 in
set_option maxRecDepth 100000 in
theorem laws_short (va vb vc : Value) (zs ys us : List Rn) (p n : Int) (w : World) (hp : 0 ≤ p ∧ p ≤ 255) (hn : 0 ≤ n ∧ n ≤ 4294967295) (hg : ErrVar w)
    (ha : Sl w w.heap.size va zs) (hb : Sl w w.heap.size vb ys) (hc : Sl w w.heap.size vc us) (h1 : zs.length ≤ 300) (h2 : ys.length ≤ 300) (h3 : us.length ≤ 300) :
    Calls Tryd.prog 5 #[va, vb, vc, .int .u8 p, .int .u32 n] w fun e w' => e = .returned (.bool true) ∧ Below w.heap.size w w' := by
  have HA := Lib.hid ha
  have HB := Lib.hid hb
  have HC := Lib.hid hc
  have HP := Lib.hid hp; clear hp
  have HN := Lib.hid hn; clear hn
  have HG := Lib.hid hg; clear hg
  obtain ⟨A1, k1, rfl, _, _, _⟩ := ha
  obtain ⟨A2, k2, rfl, _, _, _⟩ := hb
  obtain ⟨A3, k3, rfl, _, _, _⟩ := hc
  go_enter Tryd.func5, Tryd.ntmps5
  go_wp2_with fail
  refine (awake_any _).mono ?_
  rintro e w1 ⟨rfl, hb1⟩
  have HB1 := Lib.hid hb1; clear hb1
  go_wp2_with fail
  refine (Union_any _ _ zs ys w1 ((HA.out.below HB1.out).more HB1.out.size) ((HB.out.below HB1.out).more HB1.out.size)).mono ?_
  intro e w2 hres
  obtain ⟨v11, v12, rfl, r1, hb2⟩ := hres.val
  have R1 := Lib.hid r1; clear r1 hres
  have HB2 := Lib.hid (HB1.out.trans (hb2.mono HB1.out.size)); clear hb2 HB1
  go_wp2_with fail
  refine (Union_any _ _ ys us w2 ((HB.out.below HB2.out).more HB2.out.size) ((HC.out.below HB2.out).more HB2.out.size)).mono ?_
  intro e w3 hres
  obtain ⟨v13, v14, rfl, r2, hb3⟩ := hres.val
  have R2 := Lib.hid r2; clear r2 hres
  have R1 := Lib.hid (R1.out.below hb3)
  have HB3 := Lib.hid (HB2.out.trans (hb3.mono HB2.out.size)); clear hb3 HB2
  go_upto_region 7 with fail
  go_cut [57] (fun s wx => s = .bool (isOk (unionR zs ys) && isOk (unionR ys us)) ∧ wx = w3)
  case first =>
    rcases R1.out.nil_iff with ⟨x, hx, rfl⟩ | ⟨c, hx, rfl⟩
    · rcases R2.out.nil_iff with ⟨y, hy, rfl⟩ | ⟨c, hy, rfl⟩
      · have H1 := Lib.hid hx; clear hx
        have H2 := Lib.hid hy; clear hy
        go_wp2
        go_meet
        case rel => exact ⟨by rw [H1.out, H2.out]; rfl, rfl⟩
      · have H1 := Lib.hid hx; clear hx
        have H2 := Lib.hid hy; clear hy
        go_wp2
        go_meet
        case rel => exact ⟨by rw [H1.out, H2.out]; rfl, rfl⟩
    · have H1 := Lib.hid hx; clear hx
      go_wp2
      go_meet
      case rel => exact ⟨by rw [H1.out]; rfl, rfl⟩
  case rest =>
    obtain ⟨rfl, hw⟩ := hcut
    obtain rfl : w3 = wc := hw.symm
    go_upto_if 57 with fail
    go_cut [57] (fun _ wx => Below w3.heap.size w3 wx)
    case first =>
      generalize hU : unionR zs ys = U at R1 ⊢
      generalize hV : unionR ys us = V at R2 ⊢
      rcases U with c | x
      · have HU := Lib.hid hU; clear hU
        have HV := Lib.hid hV; clear hV
        simp only [isOk, Bool.false_and]
        go_wp2
        go_meet
        case rel => exact Below.refl _ _
      · rcases V with c | y
        · have HU := Lib.hid hU; clear hU
          have HV := Lib.hid hV; clear hV
          simp only [isOk, Bool.and_false]
          go_wp2
          go_meet
          case rel => exact Below.refl _ _
        · have has := union_assoc hU hV
          have hag := union_again hU
          have hxl := union_len hU
          have HU := Lib.hid hU; clear hU
          have HV := Lib.hid hV; clear hV
          have HAS := Lib.hid has; clear has
          have HAG := Lib.hid hag; clear hag
          obtain ⟨rfl, hs1⟩ := R1.out.ok_inv
          obtain ⟨rfl, hs2⟩ := R2.out.ok_inv
          have HS1 := Lib.hid hs1; clear hs1
          have HS2 := Lib.hid hs2; clear hs2
          simp only [isOk, Bool.and_true]
          go_wp2_with fail
          refine (Union_any _ _ x us w3 HS1.out ((HC.out.below HB3.out).more HB3.out.size)).mono ?_
          intro e w4 hres
          obtain ⟨v15, v16, rfl, r3, hb4⟩ := hres.val
          have HB4 := Lib.hid hb4; clear hb4
          have R3 := Lib.hid r3; clear r3 hres
          go_wp2_with fail
          refine (Union_any _ _ zs y w4 ((HA.out.below (HB3.out.trans (HB4.out.mono HB3.out.size))).more (Nat.le_trans HB3.out.size HB4.out.size)) ((HS2.out.below HB4.out).more HB4.out.size)).mono ?_
          intro e w5 hres
          obtain ⟨v17, v18, rfl, r4, hb5⟩ := hres.val
          rw [← HAS.out] at r4
          have R4 := Lib.hid r4; clear r4 hres
          have R3 := Lib.hid (R3.out.below hb5)
          have HB5 := Lib.hid (HB4.out.trans (hb5.mono HB4.out.size)); clear hb5 HB4
          have hec := fun c => union_err (zs := x) (ys := us) (c := c)
          have hel := fun l => union_len (zs := x) (ys := us) (l := l)
          generalize unionR x us = W at R3 R4 hec hel
          have HEC := Lib.hid hec; clear hec
          have hrl : (runsOf W).length ≤ 64 := by
            cases W with
            | ok l => exact hel l rfl
            | error c => simp [runsOf]
          clear hel
          have HG5 := Lib.hid (HG.out.below (HB3.out.trans (HB5.out.mono HB3.out.size)) HG.out.pos)
          go_wp2_with fail
          refine (code_res R3.out HG5.out HEC.out).mono ?_
          rintro e w6 ⟨rfl, hb6⟩
          have HB6 := Lib.hid hb6; clear hb6
          have HG6 := Lib.hid (HG5.out.below HB6.out HG5.out.pos)
          go_wp2_with fail
          refine (code_res (R4.out.below HB6.out) HG6.out HEC.out).mono ?_
          rintro e w7 ⟨rfl, hb7⟩
          have HB7 := Lib.hid (HB6.out.trans (hb7.mono HB6.out.size)); clear hb7 HB6
          have hsm := Same_any v15 v17 _ _ w7 ((R3.out.sl.below HB7.out).more HB7.out.size) ((R4.out.sl.below HB7.out).more HB7.out.size) (by omega) (by omega)
          rw [decide_eq_true rfl] at hsm
          have HSM := Lib.hid hsm; clear hsm
          generalize codeOf W = cw
          go_wp2_with fail
          refine (HSM.out).mono ?_
          rintro e w8 ⟨rfl, hb8⟩
          have HB8 := Lib.hid (HB5.out.trans ((HB7.out.trans (hb8.mono HB7.out.size)).mono HB5.out.size)); clear hb8 HB7
          go_wp2_with fail
          refine (Union_any _ _ x ys w8 ((HS1.out.below HB8.out).more HB8.out.size) ((HB.out.below (HB3.out.trans (HB8.out.mono HB3.out.size))).more (Nat.le_trans HB3.out.size HB8.out.size))).mono ?_
          intro e w9 hres
          rw [HAG.out] at hres
          obtain ⟨v19, v20, rfl, r5, hb9⟩ := hres.val
          obtain ⟨rfl, hs5⟩ := r5.ok_inv
          have HB9 := Lib.hid (HB8.out.trans (hb9.mono HB8.out.size)); clear hb9
          have hsm := Same_any v19 v11 x x w9 hs5 ((HS1.out.below HB9.out).more HB9.out.size) (by omega) (by omega)
          rw [decide_eq_true rfl] at hsm
          have HSM := Lib.hid hsm; clear hsm r5 hs5 hres
          go_wp2_with fail
          refine (HSM.out).mono ?_
          rintro e w10 ⟨rfl, hb10⟩
          have HB10 := Lib.hid (HB9.out.trans (hb10.mono HB9.out.size)); clear hb10
          go_wp2_with fail
          go_meet
          case rel => exact HB10.out
    case rest =>
      have HCUT := Lib.hid hcut; clear hcut
      have HF := Lib.hid (HB3.out.trans (HCUT.out.mono HB3.out.size)); clear HCUT
      clear R1 R2
      go_wp2_with fail
      refine (Add_any _ zs p n wc HP.out HN.out ((HA.out.below HF.out).more HF.out.size)).mono ?_
      intro e w4 hres
      obtain ⟨v21, v22, rfl, r1, hb4⟩ := hres.val
      have R1 := Lib.hid r1; clear r1 hres
      have HF4 := Lib.hid (HF.out.trans (hb4.mono HF.out.size)); clear hb4
      generalize hU : addR zs p n = U at R1
      rcases U with c | d
      · obtain ⟨rfl, rfl⟩ := R1.out.err_inv
        clear hU
        go_wp2
        go_ret
        exact ⟨rfl, HF4.out⟩
      · obtain ⟨rfl, hs⟩ := R1.out.ok_inv
        have HS := Lib.hid hs; clear hs
        have hh := Has_any p n _ zs w4 ((HA.out.below HF4.out).more HF4.out.size)
        by_cases hz : hasB zs p n = true
        · rw [hz] at hh
          have HH := Lib.hid hh; clear hh hU hz
          go_wp2_with fail
          refine (HH.out).mono ?_
          rintro e w5 ⟨rfl, hb5⟩
          have HF5 := Lib.hid (HF4.out.trans (hb5.mono HF4.out.size)); clear hb5
          go_wp2_with fail
          go_ret
          exact ⟨rfl, HF5.out⟩
        · have hz : hasB zs p n = false := by simpa using hz
          have hdd := add_drop hU hz
          have hz64 := ((right_iff _).1 (union_told hU).1).1
          rw [hz] at hh
          have HH := Lib.hid hh; clear hh hU hz
          have HDD := Lib.hid hdd; clear hdd
          go_wp2_with fail
          refine (HH.out).mono ?_
          rintro e w5 ⟨rfl, hb5⟩
          have HF5 := Lib.hid (HF4.out.trans (hb5.mono HF4.out.size))
          have HS5 := Lib.hid ((HS.out.below hb5).more hb5.size); clear hb5
          go_wp2_with fail
          refine (Drop_any _ d p n w5 HN.out HS5.out).mono ?_
          intro e w6 hres
          rw [HDD.out] at hres
          obtain ⟨v23, v24, rfl, r6, hb6⟩ := hres.val
          obtain ⟨rfl, hs6⟩ := r6.ok_inv
          have HF6 := Lib.hid (HF5.out.trans (hb6.mono HF5.out.size)); clear hb6
          have hsm := Same_any v23 _ zs zs w6 hs6 ((HA.out.below HF6.out).more HF6.out.size) (by omega) (by omega)
          rw [decide_eq_true rfl] at hsm
          have HSM := Lib.hid hsm; clear hsm r6 hs6 hres
          go_wp2_with fail
          refine (HSM.out).mono ?_
          rintro e w7 ⟨rfl, hb7⟩
          have HF7 := Lib.hid (HF6.out.trans (hb7.mono HF6.out.size)); clear hb7
          go_wp2_with fail
          go_ret
          exact ⟨rfl, HF7.out⟩

theorem laws_any (va vb vc : Value) (zs ys us : List Rn) (p n : Int) (w : World) (hp : 0 ≤ p ∧ p ≤ 255) (hn : 0 ≤ n ∧ n ≤ 4294967295) (hg : ErrVar w)
    (ha : Sl w w.heap.size va zs) (hb : Sl w w.heap.size vb ys) (hc : Sl w w.heap.size vc us) (h1 : zs.length ≤ 9223372036854775807) (h2 : ys.length ≤ 9223372036854775807) (h3 : us.length ≤ 9223372036854775807) :
    Calls Tryd.prog 5 #[va, vb, vc, .int .u8 p, .int .u32 n] w fun e w' => e = .returned (.bool true) ∧ Below w.heap.size w w' := by
  by_cases hl : 300 < zs.length ∨ 300 < ys.length ∨ 300 < us.length
  · exact laws_long va vb vc zs ys us p n w ha hb hc hl h1 h2 h3
  · exact laws_short va vb vc zs ys us p n w hp hn hg ha hb hc (by omega) (by omega) (by omega)
end Go.Proofs.YtfjaeohfigcciaaDoor

