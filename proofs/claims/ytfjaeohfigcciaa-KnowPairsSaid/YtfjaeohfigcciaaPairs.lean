/- The walk of the law KnowPairs: it answers true, and leaves all that was there. -/
import Derived.Test.YtfjaeohfigcciaaAwake
namespace Go.Proofs.Ytfjaeohfigcciaa
open Go.RowKit Go.Sort Go.Shelf

theorem has_eq {zs : List Rn} (h : rightB zs = true) (q m : Int) : hasB zs q m = covs zs q m := by simp [hasB, h, covs]
theorem lim_ok {l x : List Rn} (h : lim l = .ok x) : l.length ≤ 64 ∧ x = l := by
  unfold lim at h
  split at h
  · exact ⟨by assumption, by cases h; rfl⟩
  · cases h
theorem union_pairs {zs ys z : List Rn} (h : unionR zs ys = .ok z) (q m : Int) : rightB z = true ∧ hasB z q m = (hasB zs q m || hasB ys q m) := by
  unfold unionR at h
  split at h
  · rename_i hr
    obtain ⟨hl, rfl⟩ := lim_ok h
    obtain ⟨g1, g2⟩ := unionL_good hr.1 hr.2
    have hz := right_of_good hl g1
    exact ⟨hz, by rw [has_eq hz, has_eq hr.1, has_eq hr.2, g2]⟩
  · cases h
theorem add_pairs {zs x : List Rn} {p n : Int} (h : addR zs p n = .ok x) (q m : Int) : rightB x = true ∧ hasB x q m = (hasB zs q m || (decide (q = p) && decide (m = n))) := by
  obtain ⟨h1, h2⟩ := union_pairs h q m
  refine ⟨h1, ?_⟩
  rw [h2]
  congr 1
  unfold addR unionR at h
  split at h
  · rename_i hr
    rw [has_eq hr.2, Bool.eq_iff_iff, covs_iff, Bool.and_eq_true, decide_eq_true_eq, decide_eq_true_eq]
    simp only [List.mem_singleton, exists_eq_left]
    omega
  · cases h
theorem drop_pairs {zs y : List Rn} {p n : Int} (h : dropR zs p n = .ok y) (q m : Int) : rightB y = true ∧ hasB y q m = (hasB zs q m && !(decide (q = p) && decide (m = n))) := by
  unfold dropR at h
  split at h
  · rename_i hr
    obtain ⟨hl, rfl⟩ := lim_ok h
    obtain ⟨g1, g2⟩ := dropL_good (p := p) (n := n) ((right_iff zs).1 hr.1).2
    have hz := right_of_good hl g1
    exact ⟨hz, by rw [has_eq hz, has_eq hr.1, g2]⟩
  · cases h

/-- runs, or a code, came back: the two values, and which of the two ways it was -/
def ResVal (w' : World) (res : Except Int (List Rn)) (v ev : Value) : Prop :=
  (∃ l, res = .ok l ∧ ev = .nilIface ∧ Sl w' w'.heap.size v l) ∨ (∃ c, res = .error c ∧ v = .slice none 0 0 ∧ ev = .iface 57 (.int .i64 c))
theorem ResPost.val {w : World} {res : Except Int (List Rn)} {e : Ending} {w' : World} (h : ResPost w res e w') : ∃ v ev, e = .returned (.tuple #[v, ev]) ∧ ResVal w' res v ev ∧ Below w.heap.size w w' := by
  cases res with
  | ok l =>
    obtain ⟨v, he, hs, hb⟩ := h
    exact ⟨v, _, he, .inl ⟨l, rfl, rfl, hs⟩, hb⟩
  | error c => exact ⟨_, _, h.1, .inr ⟨c, rfl, rfl, rfl⟩, h.2⟩
theorem ResVal.below {w w' : World} {res : Except Int (List Rn)} {v ev : Value} (h : ResVal w res v ev) (hb : Below w.heap.size w w') : ResVal w' res v ev := by
  rcases h with ⟨l, h1, h2, h3⟩ | h
  · exact .inl ⟨l, h1, h2, (h3.below hb).more hb.size⟩
  · exact .inr h

set_option maxHeartbeats 1000000 in
theorem pairs_long (va vb : Value) (zs ys : List Rn) (p n q m : Int) (w : World) (ha : Sl w w.heap.size va zs) (hb : Sl w w.heap.size vb ys) (hl : 300 < zs.length ∨ 300 < ys.length) (h1 : zs.length ≤ 9223372036854775807) (h2 : ys.length ≤ 9223372036854775807) :
    Calls Try.prog 3 #[va, vb, .int .u8 p, .int .u32 n, .int .u8 q, .int .u32 m] w fun e w' => e = .returned (.bool true) ∧ Below w.heap.size w w' := by
  obtain ⟨A1, k1, rfl, _, _, _⟩ := ha
  obtain ⟨A2, k2, rfl, _, _, _⟩ := hb
  by_cases hz : 300 < zs.length
  · go_enter Try.func3, Try.ntmps3
    go_wp2_with fail
    refine (awake_any _).mono ?_
    rintro e w1 ⟨rfl, hb1⟩
    go_wp2_with fail
    go_ret
    exact ⟨rfl, hb1⟩
  · have hy : 300 < ys.length := by omega
    clear hl
    go_enter Try.func3, Try.ntmps3
    go_wp2_with fail
    refine (awake_any _).mono ?_
    rintro e w1 ⟨rfl, hb1⟩
    go_wp2_with fail
    go_ret
    exact ⟨rfl, hb1⟩

set_option maxHeartbeats 2000000 in
set_option maxRecDepth 100000 in
theorem pairs_short (va vb : Value) (zs ys : List Rn) (p n q m : Int) (w : World) (hp : 0 ≤ p ∧ p ≤ 255) (hn : 0 ≤ n ∧ n ≤ 4294967295)
    (ha : Sl w w.heap.size va zs) (hb : Sl w w.heap.size vb ys) (h1 : zs.length ≤ 300) (h2 : ys.length ≤ 300) :
    Calls Try.prog 3 #[va, vb, .int .u8 p, .int .u32 n, .int .u8 q, .int .u32 m] w fun e w' => e = .returned (.bool true) ∧ Below w.heap.size w w' := by
  have HA := Lib.hid ha
  have HB := Lib.hid hb
  have HP := Lib.hid hp; clear hp
  have HN := Lib.hid hn; clear hn
  obtain ⟨A1, k1, rfl, _, _, _⟩ := ha
  obtain ⟨A2, k2, rfl, _, _, _⟩ := hb
  go_enter Try.func3, Try.ntmps3
  go_wp2_with fail
  refine (awake_any _).mono ?_
  rintro e w1 ⟨rfl, hb1⟩
  have HB1 := Lib.hid hb1; clear hb1
  go_wp2_with fail
  refine (Add_any _ zs p n w1 HP.out HN.out ((HA.out.below HB1.out).more HB1.out.size)).mono ?_
  intro e w2 hres
  obtain ⟨v13, v14, rfl, r1, hb2⟩ := hres.val
  have R1 := Lib.hid r1; clear r1 hres
  have HB2 := Lib.hid (HB1.out.trans (hb2.mono HB1.out.size)); clear hb2 HB1
  go_wp2_with fail
  refine (Drop_any _ zs p n w2 HN.out ((HA.out.below HB2.out).more HB2.out.size)).mono ?_
  intro e w3 hres
  obtain ⟨v15, v16, rfl, r2, hb3⟩ := hres.val
  have R2 := Lib.hid r2; clear r2 hres
  have R1 := Lib.hid (R1.out.below hb3)
  have HB3 := Lib.hid (HB2.out.trans (hb3.mono HB2.out.size)); clear hb3 HB2
  go_wp2_with fail
  refine (Union_any _ _ zs ys w3 ((HA.out.below HB3.out).more HB3.out.size) ((HB.out.below HB3.out).more HB3.out.size)).mono ?_
  intro e w4 hres
  obtain ⟨v17, v18, rfl, r3, hb4⟩ := hres.val
  have R3 := Lib.hid r3; clear r3 hres
  have R2 := Lib.hid (R2.out.below hb4)
  have R1 := Lib.hid (R1.out.below hb4)
  have HB4 := Lib.hid (HB3.out.trans (hb4.mono HB3.out.size)); clear hb4 HB3
  go_upto_region 8 with fail
  go_cut [19] (fun s wx => s = .bool (decide (q = p) && decide (m = n)) ∧ wx = w4)
  case first =>
    by_cases e1 : q = p
    · subst e1
      by_cases e2 : m = n
      · subst e2
        go_wp2
        go_meet
        case rel => exact ⟨by simp, rfl⟩
      · have e3 : (m == n) = false := by simp [e2]
        go_wp2
        go_meet
        case rel => exact ⟨by simp [e2], rfl⟩
    · have e3 : (q == p) = false := by simp [e1]
      go_wp2
      go_meet
      case rel => exact ⟨by simp [e1], rfl⟩
  case rest =>
    obtain ⟨rfl, hw⟩ := hcut
    obtain rfl : w4 = wc := hw.symm
    have ad := fun x hx => add_pairs (zs := zs) (p := p) (n := n) (x := x) hx q m
    have dr := fun x hx => drop_pairs (zs := zs) (p := p) (n := n) (y := x) hx q m
    have un := fun x hx => union_pairs (zs := zs) (ys := ys) (z := x) hx q m
    have hz := fun w' (hb : Below w4.heap.size w4 w') => Has_any q m _ zs w' ((HA.out.below (HB4.out.trans (hb.mono HB4.out.size))).more (Nat.le_trans HB4.out.size hb.size))
    have hy := fun w' (hb : Below w4.heap.size w4 w') => Has_any q m _ ys w' ((HB.out.below (HB4.out.trans (hb.mono HB4.out.size))).more (Nat.le_trans HB4.out.size hb.size))
    generalize (decide (q = p) && decide (m = n)) = it at ad dr ⊢
    generalize hasB zs q m = bz at ad dr un hz
    generalize hasB ys q m = by' at un hy
    have AD := Lib.hid ad; clear ad
    have DR := Lib.hid dr; clear dr
    have UN := Lib.hid un; clear un
    have HZ := Lib.hid hz; clear hz
    have HY := Lib.hid hy; clear hy
    clear HA HB
    go_upto_region 9 with fail
    go_cut [78] (fun s wx => s = .bool false ∧ Below w4.heap.size w4 wx)
    case first =>
      rcases R1.out with ⟨x, hx, rfl, hsl⟩ | ⟨c, _, rfl, rfl⟩
      · obtain ⟨hr, hh⟩ := AD.out x hx
        have c1 := Right_any w4 _ x hsl
        rw [hr] at c1
        have c2 := fun w' (hb : Below w4.heap.size w4 w') => Has_any q m _ x w' ((hsl.below hb).more hb.size)
        rw [hh] at c2
        have C1 := Lib.hid c1
        have C2 := Lib.hid c2
        clear hr hh c1 c2 hsl hx
        cases bz <;> cases it
        all_goals
          go_wp2_with fail
          refine (C1.out).mono ?_
          rintro e w5 ⟨rfl, hb5⟩
          go_wp2_with fail
          refine (C2.out w5 hb5).mono ?_
          rintro e w6 ⟨rfl, hb6⟩
          have hb6' := hb5.trans (hb6.mono hb5.size)
          clear hb6
          go_wp2_with fail
          refine (HZ.out w6 hb6').mono ?_
          rintro e w7 ⟨rfl, hb7⟩
          have hb7' := hb6'.trans (hb7.mono hb6'.size)
          clear hb7
          go_wp2_with fail
          go_meet
          case rel => exact ⟨rfl, hb7'⟩
      · go_wp2
        go_meet
        case rel => exact ⟨rfl, Below.refl _ _⟩
    case rest =>
      obtain ⟨rfl, hcut⟩ := hcut
      have HC1 := Lib.hid hcut; clear hcut
      clear R1 AD
      obtain ⟨wa, hwa⟩ : ∃ wa, wa = wc := ⟨wc, rfl⟩
      subst hwa
      have R2 := Lib.hid (R2.out.below HC1.out)
      go_upto_region 11 with fail
      go_cut [100] (fun s wx => s = .bool false ∧ Below wa.heap.size wa wx)
      case first =>
        rcases R2.out with ⟨x, hx, rfl, hsl⟩ | ⟨c, _, rfl, rfl⟩
        · obtain ⟨hr, hh⟩ := DR.out x hx
          have c1 := Right_any wa _ x hsl
          rw [hr] at c1
          have c2 := fun w' (hb : Below wa.heap.size wa w') => Has_any q m _ x w' ((hsl.below hb).more hb.size)
          rw [hh] at c2
          have C1 := Lib.hid c1
          have C2 := Lib.hid c2
          clear hr hh c1 c2 hsl hx
          cases bz <;> cases it
          all_goals
            go_wp2_with fail
            refine (C1.out).mono ?_
            rintro e w5 ⟨rfl, hb5⟩
            go_wp2_with fail
            refine (C2.out w5 hb5).mono ?_
            rintro e w6 ⟨rfl, hb6⟩
            have hb6' := hb5.trans (hb6.mono hb5.size)
            clear hb6
            go_wp2_with fail
            refine (HZ.out w6 (HC1.out.trans (hb6'.mono HC1.out.size))).mono ?_
            rintro e w7 ⟨rfl, hb7⟩
            have hb7' := hb6'.trans (hb7.mono hb6'.size)
            clear hb7
            go_wp2_with fail
            go_meet
            case rel => exact ⟨rfl, hb7'⟩
        · go_wp2
          go_meet
          case rel => exact ⟨rfl, Below.refl _ _⟩
      case rest =>
        obtain ⟨rfl, hcut⟩ := hcut
        have HC2 := Lib.hid (HC1.out.trans (hcut.mono HC1.out.size)); clear hcut HC1
        clear R2 DR
        obtain ⟨wb, hwb⟩ : ∃ wb, wb = wc := ⟨wc, rfl⟩
        subst hwb
        have R3 := Lib.hid (R3.out.below HC2.out)
        have HF := Lib.hid (HB4.out.trans (HC2.out.mono HB4.out.size))
        rcases R3.out with ⟨x, hx, rfl, hsl⟩ | ⟨c, _, rfl, rfl⟩
        · obtain ⟨hr, hh⟩ := UN.out x hx
          have c1 := Right_any wb _ x hsl
          rw [hr] at c1
          have c2 := fun w' (hb : Below wb.heap.size wb w') => Has_any q m _ x w' ((hsl.below hb).more hb.size)
          rw [hh] at c2
          have C1 := Lib.hid c1
          have C2 := Lib.hid c2
          clear hr hh c1 c2 hsl hx
          cases bz <;> cases by'
          all_goals
            go_wp2_with fail
            refine (C1.out).mono ?_
            rintro e w5 ⟨rfl, hb5⟩
            go_wp2_with fail
            refine (C2.out w5 hb5).mono ?_
            rintro e w6 ⟨rfl, hb6⟩
            have hb6' := hb5.trans (hb6.mono hb5.size)
            clear hb6
            go_wp2_with fail
            refine (HZ.out w6 (HC2.out.trans (hb6'.mono HC2.out.size))).mono ?_
            rintro e w7 ⟨rfl, hb7⟩
            have hb7' := hb6'.trans (hb7.mono hb6'.size)
            clear hb7
            go_wp2_with fail
            first
              | (go_ret; exact ⟨rfl, HF.out.trans (hb7'.mono HF.out.size)⟩)
              | (refine (HY.out w7 (HC2.out.trans (hb7'.mono HC2.out.size))).mono ?_
                 rintro e w8 ⟨rfl, hb8⟩
                 have hb8' := hb7'.trans (hb8.mono hb7'.size)
                 clear hb8
                 go_wp2_with fail
                 go_ret
                 exact ⟨rfl, HF.out.trans (hb8'.mono HF.out.size)⟩)
        · go_wp2
          go_ret
          exact ⟨rfl, HF.out⟩

theorem pairs_any (va vb : Value) (zs ys : List Rn) (p n q m : Int) (w : World) (hp : 0 ≤ p ∧ p ≤ 255) (hn : 0 ≤ n ∧ n ≤ 4294967295)
    (ha : Sl w w.heap.size va zs) (hb : Sl w w.heap.size vb ys) (h1 : zs.length ≤ 9223372036854775807) (h2 : ys.length ≤ 9223372036854775807) :
    Calls Try.prog 3 #[va, vb, .int .u8 p, .int .u32 n, .int .u8 q, .int .u32 m] w fun e w' => e = .returned (.bool true) ∧ Below w.heap.size w w' := by
  by_cases hl : 300 < zs.length ∨ 300 < ys.length
  · exact pairs_long va vb zs ys p n q m w ha hb hl h1 h2
  · exact pairs_short va vb zs ys p n q m w hp hn ha hb (by omega) (by omega)
end Go.Proofs.Ytfjaeohfigcciaa

