/- The contracts of the reference's Has and in. -/
import Derived.Test.YtfjaeohfigcciaaDoorRefRight
import Derived.Test.YtfjaeohfigcciaaDoorMath
import Derived.Test.YtfjaeohfigcciaaDoorHas
namespace Go.Proofs.YtfjaeohfigcciaaDoor
open Go.RowKit Go.Sort

theorem covs_none {zs : List Rn} {p n : Int} (h : ∀ (j : Nat) (x : Rn), zs[j]? = some x → covB x p n = false) : covs zs p n = false := by
  rw [← Bool.not_eq_true, covs]
  intro ht
  obtain ⟨x, hx, hc⟩ := List.any_eq_true.1 ht
  obtain ⟨j, hj, rfl⟩ := List.mem_iff_getElem.1 hx
  rw [h j _ (List.getElem?_eq_getElem hj)] at hc
  cases hc
theorem covs_some {zs : List Rn} {p n : Int} {k : Nat} {x : Rn} (h : zs[k]? = some x) (hc : covB x p n = true) : covs zs p n = true :=
  List.any_eq_true.2 ⟨x, List.mem_of_getElem? h, hc⟩

set_option maxHeartbeats 2000000 in
set_option maxRecDepth 100000 in
theorem refin_any (v : Value) (zs : List Rn) (p n : Int) (w : World) (h : Sl w w.heap.size v zs) (hz : zs.length ≤ 1000) (hn : 0 ≤ n ∧ n ≤ 4294967296) :
    Calls Tryd.prog 48 #[v, .int .u8 p, .int .u64 n] w fun e w' => e = .returned (.bool (covs zs p n)) ∧ w' = w := by
  obtain ⟨A, c, rfl, _, hok, hA⟩ := h
  obtain ⟨n1, n2⟩ := hn
  have HA := Lib.hid hA; clear hA
  have HK := Lib.hid hok; clear hok
  generalize hrb : covs zs p n = rb
  have HR := Lib.hid hrb; clear hrb
  go_enter Tryd.func48, Tryd.ntmps48
  go_wp2
  go_loop [7] (fun i => ∃ k : Nat, i = .int .i64 k ∧ k ≤ zs.length ∧ Hid (∀ j x, j < k → zs[j]? = some x → covB x p n = false)) (fun i => zs.length - (intOf i).toNat)
  case atStart => exact ⟨0, rfl, by omega, Lib.hid (fun j _ hj => absurd hj (by omega))⟩
  case round =>
    obtain ⟨k, rfl, hk, HO⟩ := hrel
    by_cases hlt : k < zs.length
    · obtain ⟨b, off, rfl, hbw, hc⟩ := HA.out (by intro h; simp [h] at hlt)
      have hxk : zs[k]? = some zs[k] := List.getElem?_eq_getElem hlt
      generalize zs[k] = x at hxk
      obtain ⟨⟨o1, o2⟩, ⟨o3, o4⟩, o5, o6⟩ := HK.out x (List.mem_of_getElem? hxk)
      obtain ⟨c0, c1, c2⟩ := hc k x hxk
      clear hc
      have HX := Lib.hid hxk; clear hxk
      by_cases q1 : x.r = p
      · have q1' : (x.r == p) = true := by simp [q1]
        by_cases q2 : x.lo ≤ n
        · by_cases q3 : n ≤ x.hi
          · have HV : Hid (covB x p n = true) := Lib.hid (by simp [covB, q1, q2, q3])
            clear q1
            go_wp2
            go_ret
            refine ⟨?_, rfl⟩
            rw [← HR.out, covs_some HX.out HV.out]
            rfl
          · have HV : Hid (covB x p n = false) := Lib.hid (by simp [covB]; omega)
            have q3' : decide (n ≤ x.hi) = false := by simp; omega
            clear q1
            go_wp2
            go_round
            case rel =>
              refine ⟨k + 1, by go_num, by omega, Lib.hid (fun j y hj hy => ?_)⟩
              rcases Nat.lt_or_ge j k with h | h
              · exact HO.out j y h hy
              · obtain rfl : j = k := by omega
                rw [HX.out] at hy; cases hy; exact HV.out
            case measure => simp [intOf]; omega
        · have HV : Hid (covB x p n = false) := Lib.hid (by simp [covB]; omega)
          have q2' : decide (x.lo ≤ n) = false := by simp; omega
          clear q1
          go_wp2
          go_round
          case rel =>
            refine ⟨k + 1, by go_num, by omega, Lib.hid (fun j y hj hy => ?_)⟩
            rcases Nat.lt_or_ge j k with h | h
            · exact HO.out j y h hy
            · obtain rfl : j = k := by omega
              rw [HX.out] at hy; cases hy; exact HV.out
          case measure => simp [intOf]; omega
      · have HV : Hid (covB x p n = false) := Lib.hid (by simp [covB, q1])
        have q1' : (x.r == p) = false := by simp [q1]
        clear q1
        go_wp2
        go_round
        case rel =>
          refine ⟨k + 1, by go_num, by omega, Lib.hid (fun j y hj hy => ?_)⟩
          rcases Nat.lt_or_ge j k with h | h
          · exact HO.out j y h hy
          · obtain rfl : j = k := by omega
            rw [HX.out] at hy; cases hy; exact HV.out
        case measure => simp [intOf]; omega
    · go_wp2
      go_ret
      refine ⟨?_, rfl⟩
      rw [← HR.out, covs_none (fun j x hj => HO.out j x (by have := (List.getElem?_eq_some_iff.1 hj).1; omega) hj)]
      rfl

set_option maxHeartbeats 2000000 in
set_option maxRecDepth 100000 in
theorem refHas_any (v : Value) (zs : List Rn) (p n : Int) (w : World) (h : Sl w w.heap.size v zs) (hz : zs.length ≤ 1000) :
    Calls Tryd.prog 15 #[v, .int .u8 p, .int .u32 n] w fun e w' => e = .returned (.bool (hasB zs p n)) ∧ Below w.heap.size w w' := by
  have hr := refRight_any v zs w h hz
  by_cases hx : rightB zs = true
  · rw [show hasB zs p n = covs zs p n by simp [hasB, hx, covs]]
    rw [hx] at hr
    have HRT := Lib.hid hr; clear hr hx
    obtain ⟨A, c, rfl, _, hok, hA⟩ := h
    have HA := Lib.hid hA; clear hA
    have HK := Lib.hid hok; clear hok
    generalize hrb : covs zs p n = rb
    have HR := Lib.hid hrb; clear hrb
    go_enter Tryd.func15, Tryd.ntmps15
    go_wp2_with fail
    refine (HRT.out).mono ?_
    rintro e w1 ⟨rfl, hb1⟩
    have HB1 := Lib.hid hb1; clear hb1
    go_wp2_with fail
    go_loop [7] (fun i => ∃ k : Nat, i = .int .i64 k ∧ k ≤ zs.length ∧ Hid (∀ j x, j < k → zs[j]? = some x → covB x p n = false)) (fun i => zs.length - (intOf i).toNat)
    case atStart => exact ⟨0, rfl, by omega, Lib.hid (fun j _ hj => absurd hj (by omega))⟩
    case round =>
      obtain ⟨k, rfl, hk, HO⟩ := hrel
      by_cases hlt : k < zs.length
      · obtain ⟨b, off, rfl, hbw, hc⟩ := HA.out (by intro h; simp [h] at hlt)
        have hxk : zs[k]? = some zs[k] := List.getElem?_eq_getElem hlt
        generalize zs[k] = x at hxk
        obtain ⟨⟨o1, o2⟩, ⟨o3, o4⟩, o5, o6⟩ := HK.out x (List.mem_of_getElem? hxk)
        obtain ⟨c0, c1, c2⟩ := (hc k x hxk).keep HB1.out hbw
        clear hc
        have HX := Lib.hid hxk; clear hxk
        by_cases q1 : x.r = p
        · have q1' : (x.r == p) = true := by simp [q1]
          by_cases q2 : x.lo ≤ n
          · by_cases q3 : n ≤ x.hi
            · have HV : Hid (covB x p n = true) := Lib.hid (by simp [covB, q1, q2, q3])
              clear q1
              go_wp2
              go_ret
              refine ⟨?_, HB1.out⟩
              rw [← HR.out, covs_some HX.out HV.out]
              rfl
            · have HV : Hid (covB x p n = false) := Lib.hid (by simp [covB]; omega)
              have q3' : decide (n ≤ x.hi) = false := by simp; omega
              clear q1
              go_wp2
              go_round
              case rel =>
                refine ⟨k + 1, by go_num, by omega, Lib.hid (fun j y hj hy => ?_)⟩
                rcases Nat.lt_or_ge j k with h | h
                · exact HO.out j y h hy
                · obtain rfl : j = k := by omega
                  rw [HX.out] at hy; cases hy; exact HV.out
              case measure => simp [intOf]; omega
          · have HV : Hid (covB x p n = false) := Lib.hid (by simp [covB]; omega)
            have q2' : decide (x.lo ≤ n) = false := by simp; omega
            clear q1
            go_wp2
            go_round
            case rel =>
              refine ⟨k + 1, by go_num, by omega, Lib.hid (fun j y hj hy => ?_)⟩
              rcases Nat.lt_or_ge j k with h | h
              · exact HO.out j y h hy
              · obtain rfl : j = k := by omega
                rw [HX.out] at hy; cases hy; exact HV.out
            case measure => simp [intOf]; omega
        · have HV : Hid (covB x p n = false) := Lib.hid (by simp [covB, q1])
          have q1' : (x.r == p) = false := by simp [q1]
          clear q1
          go_wp2
          go_round
          case rel =>
            refine ⟨k + 1, by go_num, by omega, Lib.hid (fun j y hj hy => ?_)⟩
            rcases Nat.lt_or_ge j k with h | h
            · exact HO.out j y h hy
            · obtain rfl : j = k := by omega
              rw [HX.out] at hy; cases hy; exact HV.out
          case measure => simp [intOf]; omega
      · go_wp2
        go_ret
        refine ⟨?_, HB1.out⟩
        rw [← HR.out, covs_none (fun j x hj => HO.out j x (by have := (List.getElem?_eq_some_iff.1 hj).1; omega) hj)]
        rfl
  · have hx : rightB zs = false := by simpa using hx
    rw [show hasB zs p n = false by simp [hasB, hx]]
    rw [hx] at hr
    have HRT := Lib.hid hr; clear hr hx
    obtain ⟨A, c, rfl, _, _, _⟩ := h
    go_enter Tryd.func15, Tryd.ntmps15
    go_wp2_with fail
    refine (HRT.out).mono ?_
    rintro e w1 ⟨rfl, hb1⟩
    go_wp2_with fail
    go_ret
    exact ⟨rfl, hb1⟩
end Go.Proofs.YtfjaeohfigcciaaDoor

