/- The contract of the reference's Right. -/
import Derived.Test.YtfjaeohfigcciaaDoorRight
namespace Go.Proofs.YtfjaeohfigcciaaDoor
open Go.RowKit Go.Sort

theorem below_drawn {B : Nat} {w wr : World} (h : Below B w wr) (n : Nat) : Below B w (wr.drewN n) := ⟨h.os, h.tape, h.output, h.size, h.block⟩

set_option maxHeartbeats 4000000 in
set_option maxRecDepth 100000 in
theorem refRight_any (v : Value) (zs : List Rn) (w : World) (h : Sl w w.heap.size v zs) (hz : zs.length ≤ 1000) :
    Calls Tryd.prog 13 #[v] w fun e w' => e = .returned (.bool (rightB zs)) ∧ Below w.heap.size w w' := by
  obtain ⟨A, c, rfl, _, hok, hA⟩ := h
  have HA := Lib.hid hA; clear hA
  have HK := Lib.hid hok; clear hok
  generalize hrb : rightB zs = rb
  have HR := Lib.hid hrb; clear hrb
  go_enter Tryd.func13, Tryd.ntmps13
  go_wp2
  go_loopw [3] (fun i wr => ∃ k : Nat, i = .int .i64 k ∧ k ≤ zs.length ∧ Hid (∀ j, j < k → okAt zs j = true) ∧ Below w.heap.size w wr) (fun i _ => zs.length - (intOf i).toNat)
  case atStart => exact ⟨0, rfl, by omega, Lib.hid (fun j hj => absurd hj (by omega)), Below.refl _ _⟩
  case round =>
    obtain ⟨k, rfl, hk, HO, hb⟩ := hrel
    by_cases hlt : k < zs.length
    · obtain ⟨b, off, rfl, hbw, hc⟩ := HA.out (by intro h; simp [h] at hlt)
      have hxk : zs[k]? = some zs[k] := List.getElem?_eq_getElem hlt
      generalize zs[k] = x at hxk
      have HB := Lib.hid (getBang_of hxk)
      obtain ⟨⟨o1, o2⟩, ⟨o3, o4⟩, o5, o6⟩ := HK.out x (List.mem_of_getElem? hxk)
      obtain ⟨c0, c1, c2⟩ := (hc k x hxk).keep hb hbw
      have HC := Lib.hid hc; clear hc
      have HX := Lib.hid hxk; clear hxk
      have HBE := Lib.hid hb; clear hb
      by_cases hx : rrB x = true
      · have hx' : x.r < 8 ∧ 1 ≤ x.lo ∧ x.lo ≤ x.hi := by simpa [rrB] using hx
        obtain ⟨f1, f2, f3⟩ := hx'
        have g1 : decide (8 ≤ x.r) = false := by simp; omega
        have g2 : (x.lo == 0) = false := by simp; omega
        have g3 : decide (x.hi < x.lo) = false := by simp; omega
        have HX1 := Lib.hid hx; clear hx
        by_cases hk0 : 0 < k
        · obtain ⟨j, rfl⟩ : ∃ j, k = j + 1 := ⟨k - 1, by omega⟩
          have hyk : zs[j]? = some zs[j] := List.getElem?_eq_getElem (by omega)
          generalize zs[j] = y at hyk
          have HYB := Lib.hid (getBang_of hyk)
          obtain ⟨⟨p1, p2⟩, ⟨p3, p4⟩, p5, p6⟩ := HK.out y (List.mem_of_getElem? hyk)
          obtain ⟨d0, d1, d2⟩ := (HC.out j y hyk).keep HBE.out hbw
          have HY := Lib.hid hyk; clear hyk
          have i2 : j < zs.length := by omega
          by_cases q1 : x.r < y.r
          · have HP : Hid (apB y x = false) := Lib.hid (by simp [apB]; omega)
            go_wp2_with fail
            go_quiet (fail)
            go_wp2_with fail
            have i1 : IntKind.i64.wrap (j : Int) = (j : Int) := IntWalk.i64_in _ (by omega)
            go_quiet (fail)
            clear i1
            go_wp2
            go_ret
            refine ⟨?_, by first | exact below_drawn HBE.out _ | exact below_drawn (below_drawn HBE.out _) _⟩
            rw [← HR.out, rightB_false (k := j + 1) hlt (by simp [okAt, HB.out, HYB.out, HX1.out, HP.out])]
            rfl
          · have q1' : decide (x.r < y.r) = false := by simp; omega
            by_cases q2 : y.r = x.r
            · have q2' : (y.r == x.r) = true := by simp [q2]
              by_cases q3 : x.lo ≤ y.hi + 1
              · have HP : Hid (apB y x = false) := Lib.hid (by simp [apB]; omega)
                clear q2
                go_wp2_with fail
                go_quiet (fail)
                go_wp2_with fail
                have i1 : IntKind.i64.wrap (j : Int) = (j : Int) := IntWalk.i64_in _ (by omega)
                go_quiet (fail)
                clear i1
                go_wp2
                go_ret
                refine ⟨?_, by first | exact below_drawn HBE.out _ | exact below_drawn (below_drawn HBE.out _) _⟩
                rw [← HR.out, rightB_false (k := j + 1) hlt (by simp [okAt, HB.out, HYB.out, HX1.out, HP.out])]
                rfl
              · have HP : Hid (apB y x = true) := Lib.hid (by simp [apB]; omega)
                have q3' : decide (x.lo ≤ y.hi + 1) = false := by simp; omega
                clear q2
                go_wp2_with fail
                go_quiet (fail)
                go_wp2_with fail
                have i1 : IntKind.i64.wrap (j : Int) = (j : Int) := IntWalk.i64_in _ (by omega)
                go_quiet (fail)
                clear i1
                go_wp2
                go_roundw
                case rel =>
                  refine ⟨j + 1 + 1, by go_num, by omega, Lib.hid (fun i hi => ?_), by first | exact below_drawn HBE.out _ | exact below_drawn (below_drawn HBE.out _) _⟩
                  rcases Nat.lt_or_ge i (j + 1) with h | h
                  · exact HO.out i h
                  · obtain rfl : i = j + 1 := by omega
                    simp [okAt, HB.out, HYB.out, HX1.out, HP.out]
                case measure => simp [intOf]; omega
            · have HP : Hid (apB y x = true) := Lib.hid (by simp [apB]; omega)
              have q2' : (y.r == x.r) = false := by simp [q2]
              clear q2
              go_wp2_with fail
              go_quiet (fail)
              go_wp2_with fail
              have i1 : IntKind.i64.wrap (j : Int) = (j : Int) := IntWalk.i64_in _ (by omega)
              go_quiet (fail)
              clear i1
              go_wp2
              go_roundw
              case rel =>
                refine ⟨j + 1 + 1, by go_num, by omega, Lib.hid (fun i hi => ?_), by first | exact below_drawn HBE.out _ | exact below_drawn (below_drawn HBE.out _) _⟩
                rcases Nat.lt_or_ge i (j + 1) with h | h
                · exact HO.out i h
                · obtain rfl : i = j + 1 := by omega
                  simp [okAt, HB.out, HYB.out, HX1.out, HP.out]
              case measure => simp [intOf]; omega
        · have hk1 : decide (0 < k) = false := by simp; omega
          have HK0 := Lib.hid hk0; clear hk0
          go_wp2_with fail
          go_quiet (fail)
          go_wp2_with fail
          go_quiet (fail)
          go_wp2
          go_roundw
          case rel =>
            refine ⟨k + 1, by go_num, by omega, Lib.hid (fun i hi => ?_), by first | exact below_drawn HBE.out _ | exact below_drawn (below_drawn HBE.out _) _⟩
            rcases Nat.lt_or_ge i (k) with h | h
            · exact HO.out i h
            · obtain rfl : i = k := by omega
              have := HK0.out
              simp [okAt, HB.out, HX1.out]
              omega
          case measure => simp [intOf]; omega
      · have hx1 : rrB x = false := by simpa using hx
        have HX1 := Lib.hid hx1; clear hx1
        by_cases f1 : 8 ≤ x.r
        · clear hx
          go_wp2_with fail
          go_quiet (fail)
          go_wp2
          go_ret
          refine ⟨?_, by first | exact below_drawn HBE.out _ | exact below_drawn (below_drawn HBE.out _) _⟩
          rw [← HR.out, rightB_false (k := k) hlt (by simp [okAt, HB.out, HX1.out])]
          rfl
        · have g1 : decide (8 ≤ x.r) = false := by simp; omega
          by_cases f2 : x.lo = 0
          · have g2 : (x.lo == 0) = true := by simp [f2]
            clear hx f2
            go_wp2_with fail
            go_quiet (fail)
            go_wp2
            go_ret
            refine ⟨?_, by first | exact below_drawn HBE.out _ | exact below_drawn (below_drawn HBE.out _) _⟩
            rw [← HR.out, rightB_false (k := k) hlt (by simp [okAt, HB.out, HX1.out])]
            rfl
          · have g2 : (x.lo == 0) = false := by simp [f2]
            have f3 : x.hi < x.lo := by
              simp [rrB] at hx
              omega
            clear hx f2
            go_wp2_with fail
            go_quiet (fail)
            go_wp2
            go_ret
            refine ⟨?_, by first | exact below_drawn HBE.out _ | exact below_drawn (below_drawn HBE.out _) _⟩
            rw [← HR.out, rightB_false (k := k) hlt (by simp [okAt, HB.out, HX1.out])]
            rfl
    · by_cases h64 : zs.length ≤ 64
      · have e' : decide ((zs.length : Int) ≤ 64) = true := by simp; omega
        go_wp2
        go_ret
        refine ⟨?_, hb⟩
        rw [← HR.out, rightB_true h64 (fun j hj => HO.out j (by omega))]
        rfl
      · have e : rightB zs = false := by simp [rightB]; intro; omega
        have e' : decide ((zs.length : Int) ≤ 64) = false := by simp; omega
        rw [HR.out] at e
        subst e
        go_wp2
        go_ret
        exact ⟨rfl, hb⟩
end Go.Proofs.YtfjaeohfigcciaaDoor

