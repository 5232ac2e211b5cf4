/- The walks of the laws KnowUnites and KnowTells: they answer true, and leave all that was there. -/
import Derived.Test.YtfjaeohfigcciaaDoorRes
import Derived.Test.YtfjaeohfigcciaaDoorRefs
namespace Go.Proofs.YtfjaeohfigcciaaDoor
open Go.RowKit Go.Sort Go.Shelf

theorem union_comm (zs ys : List Rn) : unionR ys zs = unionR zs ys := by
  unfold unionR
  by_cases h : rightB zs = true ∧ rightB ys = true
  · rw [if_pos h, if_pos ⟨h.2, h.1⟩]
    congr 1
    obtain ⟨g1, g2⟩ := unionL_good h.1 h.2
    exact unionL_is h.2 h.1 g1 fun p n => by rw [g2, Bool.or_comm]
  · rw [if_neg h, if_neg (fun h' => h ⟨h'.2, h'.1⟩)]
theorem lim_len (l : List Rn) : (runsOf (lim l)).length ≤ 64 := by
  unfold lim; split
  · assumption
  · simp [runsOf]
theorem union_runs (zs ys : List Rn) : (runsOf (unionR zs ys)).length ≤ 64 := by
  unfold unionR; split
  · exact lim_len _
  · simp [runsOf]
theorem drop_runs (zs : List Rn) (p n : Int) : (runsOf (dropR zs p n)).length ≤ 64 := by
  unfold dropR; split
  · exact lim_len _
  · simp [runsOf]
theorem RefPost.two {w : World} {res : Except Int (List Rn)} {e : Ending} {w' : World} (h : RefPost w res e w') : ∃ v, e = .returned (.tuple #[v, .int .i64 (codeOf res)]) ∧ Sl w' w'.heap.size v (runsOf res) ∧ Below w.heap.size w w' := by
  cases res with
  | ok l => exact h
  | error c => exact ⟨_, h.1, Sl.nil _ _, h.2⟩

set_option maxHeartbeats 2000000 in
theorem unites_any (va vb : Value) (zs ys : List Rn) (w : World) (hg : ErrVar w) (ha : Sl w w.heap.size va zs) (hb : Sl w w.heap.size vb ys) (h1 : zs.length ≤ 9223372036854775807) (h2 : ys.length ≤ 9223372036854775807) :
    Calls Tryd.prog 4 #[va, vb] w fun e w' => e = .returned (.bool true) ∧ Below w.heap.size w w' := by
  have HA := Lib.hid ha
  have HB := Lib.hid hb
  have HG := Lib.hid hg; clear hg
  obtain ⟨A1, k1, rfl, _, _, _⟩ := ha
  obtain ⟨A2, k2, rfl, _, _, _⟩ := hb
  by_cases hz : 300 < zs.length
  · go_enter Tryd.func4, Tryd.ntmps4
    go_wp2_with fail
    refine (awake_any _).mono ?_
    rintro e w1 ⟨rfl, hb1⟩
    go_wp2_with fail
    go_ret
    exact ⟨rfl, hb1⟩
  · by_cases hy : 300 < ys.length
    · go_enter Tryd.func4, Tryd.ntmps4
      go_wp2_with fail
      refine (awake_any _).mono ?_
      rintro e w1 ⟨rfl, hb1⟩
      go_wp2_with fail
      go_ret
      exact ⟨rfl, hb1⟩
    · have hec := fun c => union_err (zs := zs) (ys := ys) (c := c)
      have hel := union_runs zs ys
      have hcm := union_comm zs ys
      have hu1 := fun w1 (hb1 : Below w.heap.size w w1) => Union_any _ _ zs ys w1 ((HA.out.below hb1).more hb1.size) ((HB.out.below hb1).more hb1.size)
      have hu2 := fun w1 (hb1 : Below w.heap.size w w1) => Union_any _ _ ys zs w1 ((HB.out.below hb1).more hb1.size) ((HA.out.below hb1).more hb1.size)
      have hu3 := fun w1 (hb1 : Below w.heap.size w w1) => refUnion_any _ _ zs ys w1 ((HA.out.below hb1).more hb1.size) ((HB.out.below hb1).more hb1.size) (by omega) (by omega)
      rw [hcm] at hu2
      clear hcm
      generalize unionR zs ys = U at hec hel hu1 hu2 hu3
      have HU1 := Lib.hid hu1; clear hu1
      have HU2 := Lib.hid hu2; clear hu2
      have HU3 := Lib.hid hu3; clear hu3
      have HEC := Lib.hid hec; clear hec
      go_enter Tryd.func4, Tryd.ntmps4
      go_wp2_with fail
      refine (awake_any _).mono ?_
      rintro e w1 ⟨rfl, hb1⟩
      have HB1 := Lib.hid hb1; clear hb1
      go_wp2_with fail
      refine (HU1.out w1 HB1.out).mono ?_
      intro e w2 hres
      obtain ⟨v5, v6, rfl, r1, hb2⟩ := hres.val
      have R1 := Lib.hid r1; clear r1 hres
      have HB2 := Lib.hid (HB1.out.trans (hb2.mono HB1.out.size)); clear hb2 HB1
      go_wp2_with fail
      refine (HU2.out w2 HB2.out).mono ?_
      intro e w3 hres
      obtain ⟨v7, v8, rfl, r2, hb3⟩ := hres.val
      have R2 := Lib.hid r2; clear r2 hres
      have R1 := Lib.hid (R1.out.below hb3)
      have HB3 := Lib.hid (HB2.out.trans (hb3.mono HB2.out.size)); clear hb3 HB2
      go_wp2_with fail
      refine (HU3.out w3 HB3.out).mono ?_
      intro e w4 hres
      obtain ⟨v9, rfl, r3, hb4⟩ := hres.two
      have R3 := Lib.hid r3; clear r3 hres
      have R2 := Lib.hid (R2.out.below hb4)
      have R1 := Lib.hid (R1.out.below hb4)
      have HB4 := Lib.hid (HB3.out.trans (hb4.mono HB3.out.size)); clear hb4 HB3
      have HG4 := Lib.hid (HG.out.below HB4.out HG.out.pos)
      have c1 := code_res R1.out HG4.out HEC.out
      have c2 := fun w' (hb : Below w4.heap.size w4 w') => code_res (R2.out.below hb) (HG4.out.below hb HG4.out.pos) HEC.out
      generalize codeOf U = cu at c1 c2 ⊢
      have C1 := Lib.hid c1; clear c1
      have C2 := Lib.hid c2; clear c2
      go_wp2_with fail
      refine (C1.out).mono ?_
      rintro e w5 ⟨rfl, hb5⟩
      have HB5 := Lib.hid hb5; clear hb5
      go_wp2_with fail
      refine (C2.out w5 HB5.out).mono ?_
      rintro e w6 ⟨rfl, hb6⟩
      have HB6 := Lib.hid (HB5.out.trans (hb6.mono HB5.out.size)); clear hb6 HB5
      have s1 := fun w' (hb : Below w4.heap.size w4 w') => Same_any v5 v9 _ _ w' ((R1.out.sl.below hb).more hb.size) ((R3.out.below hb).more hb.size) (by omega) (by omega)
      have s2 := fun w' (hb : Below w4.heap.size w4 w') => Same_any v7 v9 _ _ w' ((R2.out.sl.below hb).more hb.size) ((R3.out.below hb).more hb.size) (by omega) (by omega)
      rw [decide_eq_true rfl] at s1 s2
      have S1 := Lib.hid s1; clear s1
      have S2 := Lib.hid s2; clear s2
      go_wp2_with fail
      refine (S1.out w6 HB6.out).mono ?_
      rintro e w7 ⟨rfl, hb7⟩
      have HB7 := Lib.hid (HB6.out.trans (hb7.mono HB6.out.size)); clear hb7 HB6
      go_wp2_with fail
      refine (S2.out w7 HB7.out).mono ?_
      rintro e w8 ⟨rfl, hb8⟩
      have HB8 := Lib.hid (HB7.out.trans (hb8.mono HB7.out.size)); clear hb8 HB7
      go_wp2_with fail
      go_ret
      exact ⟨rfl, HB4.out.trans (HB8.out.mono HB4.out.size)⟩

set_option maxHeartbeats 2000000 in
theorem tells_any (va : Value) (zs : List Rn) (p n : Int) (w : World) (hp : 0 ≤ p ∧ p ≤ 255) (hn : 0 ≤ n ∧ n ≤ 4294967295) (hg : ErrVar w) (ha : Sl w w.heap.size va zs) (h1 : zs.length ≤ 9223372036854775807) :
    Calls Tryd.prog 3 #[va, .int .u8 p, .int .u32 n] w fun e w' => e = .returned (.bool true) ∧ Below w.heap.size w w' := by
  have HA := Lib.hid ha
  have HG := Lib.hid hg; clear hg
  obtain ⟨A1, k1, rfl, _, _, _⟩ := ha
  by_cases hz : 300 < zs.length
  · clear hp hn
    go_enter Tryd.func3, Tryd.ntmps3
    go_wp2_with fail
    refine (awake_any _).mono ?_
    rintro e w1 ⟨rfl, hb1⟩
    go_wp2_with fail
    go_ret
    exact ⟨rfl, hb1⟩
  · have hec := fun c => union_err (zs := zs) (ys := [⟨p, n, n⟩]) (c := c)
    have hel := union_runs zs [⟨p, n, n⟩]
    have hed := fun c => drop_err (zs := zs) (p := p) (n := n) (c := c)
    have hdl := drop_runs zs p n
    have hu1 := fun w1 (hb1 : Below w.heap.size w w1) => Add_any _ zs p n w1 hp hn ((HA.out.below hb1).more hb1.size)
    have hu2 := fun w1 (hb1 : Below w.heap.size w w1) => Drop_any _ zs p n w1 hn ((HA.out.below hb1).more hb1.size)
    have hu3 := fun w1 (hb1 : Below w.heap.size w w1) => refAdd_any _ zs p n w1 hp hn ((HA.out.below hb1).more hb1.size) (by omega)
    have hu4 := fun w1 (hb1 : Below w.heap.size w w1) => refDrop_any _ zs p n w1 hp hn ((HA.out.below hb1).more hb1.size) (by omega)
    have q1 := fun w1 (hb1 : Below w.heap.size w w1) => Right_any w1 _ zs ((HA.out.below hb1).more hb1.size)
    have q2 := fun w1 (hb1 : Below w.heap.size w w1) => refRight_any _ zs w1 ((HA.out.below hb1).more hb1.size) (by omega)
    have q3 := fun w1 (hb1 : Below w.heap.size w w1) => Has_any p n _ zs w1 ((HA.out.below hb1).more hb1.size)
    have q4 := fun w1 (hb1 : Below w.heap.size w w1) => refHas_any _ zs p n w1 ((HA.out.below hb1).more hb1.size) (by omega)
    rw [show unionR zs [⟨p, n, n⟩] = addR zs p n from rfl] at hel
    change ∀ c, addR zs p n = .error c → 0 < c at hec
    generalize addR zs p n = U at hec hel hu1 hu3
    generalize dropR zs p n = V at hed hdl hu2 hu4
    generalize rightB zs = rb at q1 q2
    generalize hasB zs p n = hb at q3 q4
    have HU1 := Lib.hid hu1; clear hu1
    have HU2 := Lib.hid hu2; clear hu2
    have HU3 := Lib.hid hu3; clear hu3
    have HU4 := Lib.hid hu4; clear hu4
    have Q1 := Lib.hid q1; clear q1
    have Q2 := Lib.hid q2; clear q2
    have Q3 := Lib.hid q3; clear q3
    have Q4 := Lib.hid q4; clear q4
    have HEC := Lib.hid hec; clear hec
    have HED := Lib.hid hed; clear hed
    clear hp hn
    go_enter Tryd.func3, Tryd.ntmps3
    go_wp2_with fail
    refine (awake_any _).mono ?_
    rintro e w1 ⟨rfl, hb1⟩
    have HB1 := Lib.hid hb1; clear hb1
    go_wp2_with fail
    refine (HU1.out w1 HB1.out).mono ?_
    intro e w2 hres
    obtain ⟨v7, v8, rfl, r1, hb2⟩ := hres.val
    have R1 := Lib.hid r1; clear r1 hres
    have HB2 := Lib.hid (HB1.out.trans (hb2.mono HB1.out.size)); clear hb2 HB1
    go_wp2_with fail
    refine (HU2.out w2 HB2.out).mono ?_
    intro e w3 hres
    obtain ⟨v9, v10, rfl, r2, hb3⟩ := hres.val
    have R2 := Lib.hid r2; clear r2 hres
    have R1 := Lib.hid (R1.out.below hb3)
    have HB3 := Lib.hid (HB2.out.trans (hb3.mono HB2.out.size)); clear hb3 HB2
    go_wp2_with fail
    refine (HU3.out w3 HB3.out).mono ?_
    intro e w4 hres
    obtain ⟨v11, rfl, r3, hb4⟩ := hres.two
    have R3 := Lib.hid r3; clear r3 hres
    have R2 := Lib.hid (R2.out.below hb4)
    have R1 := Lib.hid (R1.out.below hb4)
    have HB4 := Lib.hid (HB3.out.trans (hb4.mono HB3.out.size)); clear hb4 HB3
    go_wp2_with fail
    refine (HU4.out w4 HB4.out).mono ?_
    intro e w5 hres
    obtain ⟨v13, rfl, r4, hb5⟩ := hres.two
    have R4 := Lib.hid r4; clear r4 hres
    have R3 := Lib.hid ((R3.out.below hb5).more hb5.size)
    have R2 := Lib.hid (R2.out.below hb5)
    have R1 := Lib.hid (R1.out.below hb5)
    have HB5 := Lib.hid (HB4.out.trans (hb5.mono HB4.out.size)); clear hb5 HB4
    have HG5 := Lib.hid (HG.out.below HB5.out HG.out.pos)
    have c1 := fun w' (hb : Below w5.heap.size w5 w') => code_res (R1.out.below hb) (HG5.out.below hb HG5.out.pos) HEC.out
    have c2 := fun w' (hb : Below w5.heap.size w5 w') => code_res (R2.out.below hb) (HG5.out.below hb HG5.out.pos) HED.out
    generalize codeOf U = cu at c1 ⊢
    generalize codeOf V = cv at c2 ⊢
    have C1 := Lib.hid c1; clear c1
    have C2 := Lib.hid c2; clear c2
    have s1 := fun w' (hb : Below w5.heap.size w5 w') => Same_any v7 v11 _ _ w' ((R1.out.sl.below hb).more hb.size) ((R3.out.below hb).more hb.size) (by omega) (by omega)
    have s2 := fun w' (hb : Below w5.heap.size w5 w') => Same_any v9 v13 _ _ w' ((R2.out.sl.below hb).more hb.size) ((R4.out.below hb).more hb.size) (by omega) (by omega)
    rw [decide_eq_true rfl] at s1 s2
    have S1 := Lib.hid s1; clear s1
    have S2 := Lib.hid s2; clear s2
    have step : ∀ w6 w7 : World, Below w5.heap.size w5 w6 → Below w6.heap.size w6 w7 → Below w5.heap.size w5 w7 := fun _ _ h1 h2 => h1.trans (h2.mono h1.size)
    have ST := Lib.hid step; clear step
    have up : ∀ w6 : World, Below w5.heap.size w5 w6 → Below w.heap.size w w6 := fun _ h1 => HB5.out.trans (h1.mono HB5.out.size)
    have UP := Lib.hid up; clear up
    go_wp2_with fail
    refine (Q1.out w5 HB5.out).mono ?_
    rintro e w6 ⟨rfl, hb6⟩
    have HB6 := Lib.hid hb6; clear hb6
    go_wp2_with fail
    refine (Q2.out w6 (UP.out w6 HB6.out)).mono ?_
    rintro e w7 ⟨rfl, hb7⟩
    have HB7 := Lib.hid (ST.out _ _ HB6.out hb7); clear hb7
    go_wp2_with fail
    refine (Q3.out w7 (UP.out w7 HB7.out)).mono ?_
    rintro e w8 ⟨rfl, hb8⟩
    have HB8 := Lib.hid (ST.out _ _ HB7.out hb8); clear hb8
    go_wp2_with fail
    refine (Q4.out w8 (UP.out w8 HB8.out)).mono ?_
    rintro e w9 ⟨rfl, hb9⟩
    have HB9 := Lib.hid (ST.out _ _ HB8.out hb9); clear hb9
    go_wp2_with fail
    refine (C1.out w9 HB9.out).mono ?_
    rintro e w10 ⟨rfl, hb10⟩
    have HB10 := Lib.hid (ST.out _ _ HB9.out hb10); clear hb10
    go_wp2_with fail
    refine (C2.out w10 HB10.out).mono ?_
    rintro e w11 ⟨rfl, hb11⟩
    have HB11 := Lib.hid (ST.out _ _ HB10.out hb11); clear hb11
    go_wp2_with fail
    refine (S1.out w11 HB11.out).mono ?_
    rintro e w12 ⟨rfl, hb12⟩
    have HB12 := Lib.hid (ST.out _ _ HB11.out hb12); clear hb12
    go_wp2_with fail
    refine (S2.out w12 HB12.out).mono ?_
    rintro e w13 ⟨rfl, hb13⟩
    have HB13 := Lib.hid (ST.out _ _ HB12.out hb13); clear hb13
    go_wp2_with fail
    go_ret
    exact ⟨rfl, UP.out _ HB13.out⟩
end Go.Proofs.YtfjaeohfigcciaaDoor

