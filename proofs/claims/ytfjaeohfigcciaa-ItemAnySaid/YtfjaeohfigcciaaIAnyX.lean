/- The law ItemAny, walked: it answers true. -/
import Derived.Test.YtfjaeohfigcciaaIAny
namespace Go.Proofs.Ytfjaeohfigcciaa
open Go.RowKit

def cells3 (x y z : En) : Array Value := #[.int .u8 x.id, .int .u8 x.rep, .int .u32 x.seq, .int .u32 x.stamp, .int .i64 x.kind, .int .u8 x.cls, .int .u32 x.val, .int .u8 y.id, .int .u8 y.rep, .int .u32 y.seq, .int .u32 y.stamp, .int .i64 y.kind, .int .u8 y.cls, .int .u32 y.val, .int .u8 z.id, .int .u8 z.rep, .int .u32 z.seq, .int .u32 z.stamp, .int .i64 z.kind, .int .u8 z.cls, .int .u32 z.val]
theorem box3 (w : World) (x y z : En) (t : TypeId) (j : Nat) (hj : j < 3) : EnAt (w.alloc (.cells #[.int .u8 x.id, .int .u8 x.rep, .int .u32 x.seq, .int .u32 x.stamp, .int .i64 x.kind, .int .u8 x.cls, .int .u32 x.val, .int .u8 y.id, .int .u8 y.rep, .int .u32 y.seq, .int .u32 y.stamp, .int .i64 y.kind, .int .u8 y.cls, .int .u32 y.val, .int .u8 z.id, .int .u8 z.rep, .int .u32 z.seq, .int .u32 z.stamp, .int .i64 z.kind, .int .u8 z.cls, .int .u32 z.val] t)) w.heap.size (j * 7) (pick3 x y z j) := by
  have : j = 0 ∨ j = 1 ∨ j = 2 := by omega
  rcases this with rfl | rfl | rfl
  · show EnAt _ _ _ x
    apply EnAt.mk <;> simp
  · show EnAt _ _ _ y
    apply EnAt.mk <;> simp
  · show EnAt _ _ _ z
    apply EnAt.mk <;> simp

/-- one more taken -/
theorem take_next {zs : List En} {f : Nat → En} (h : erightB zs = true) (hf : ∀ k, reB (f k) = true) (hok : ∀ k, (f k).ok) (k : Nat) (W : World) (s : Value) (hl : (seqT zs f k).length ≤ 9000) (hs : ESl W W.heap.size s (seqT zs f k)) :
    Calls Try.prog 27 #[s, (f k).agg] W (TakePost W (some (seqT zs f (k + 1)))) :=
  Take_right s (seqT zs f k) (f k) W hs hl (hok k) (seqT_right h hf k) (hf k)
theorem same_cells {w : World} {b o : Nat} {u u' : En} (h : EnAt w b o u') (h1 : u'.id = u.id) (h2 : u'.ver = u.ver) :
    w.cell? ⟨b, o, none⟩ = some (.int .u8 u.id) ∧ w.cell? ⟨b, o + 1, none⟩ = some (.int .u8 u.rep) ∧ w.cell? ⟨b, o + 2, none⟩ = some (.int .u32 u.seq) ∧ w.cell? ⟨b, o + 3, none⟩ = some (.int .u32 u.stamp) := by
  obtain ⟨d0, d1, d2, d3, _, _, _⟩ := h.all
  simp only [En.ver, Vr.mk.injEq] at h2
  rw [h1] at d0
  rw [h2.1] at d1
  rw [h2.2.1] at d2
  rw [h2.2.2] at d3
  exact ⟨d0, d1, d2, d3⟩

set_option maxRecDepth 100000 in
set_option maxHeartbeats 16000000 in
theorem any_any (v : Value) (zs : List En) (x y z : En) (a b c : Int) (w : World) (h : ESl w w.heap.size v zs) (hl : zs.length ≤ 9223372036854775807) (hx : x.ok) (hy : y.ok) (hz : z.ok) (ha : 0 ≤ a ∧ a ≤ 255) (hb : 0 ≤ b ∧ b ≤ 255) (hc : 0 ≤ c ∧ c ≤ 255) :
    Calls Try.prog 5 #[v, agg3 x y z, .int .u8 a, .int .u8 b, .int .u8 c] w fun e w' => e = .returned (.bool true) ∧ Below w.heap.size w w' := by
  obtain ⟨a1, a2⟩ := ha
  obtain ⟨b1, b2⟩ := hb
  obtain ⟨c1, c2⟩ := hc
  have hm : Try.prog.follows .mixedOrders = true := by kernel_rfl
  have HM := Lib.hid hm; clear hm
  have HW := Lib.hid iawake_any
  have HH := Lib.hid h
  have HBX := Lib.hid (fun j hj => box3 w x y z 46 j hj)
  have HAL := Lib.hid (al1 w (.cells #[.int .u8 x.id, .int .u8 x.rep, .int .u32 x.seq, .int .u32 x.stamp, .int .i64 x.kind, .int .u8 x.cls, .int .u32 x.val, .int .u8 y.id, .int .u8 y.rep, .int .u32 y.seq, .int .u32 y.stamp, .int .i64 y.kind, .int .u8 y.cls, .int .u32 y.val, .int .u8 z.id, .int .u8 z.rep, .int .u32 z.seq, .int .u32 z.stamp, .int .i64 z.kind, .int .u8 z.cls, .int .u32 z.val] 46))
  have hpok : ∀ j, (pick3 x y z j).ok := fun j => by unfold pick3; split; exact hx; split; exact hy; exact hz
  have HPOK := Lib.hid hpok; clear hpok hx hy hz
  obtain ⟨A, cc, rfl, g1, g2, g3⟩ := h
  clear g1 g2 g3
  simp only [agg3]
  have RR := Lib.hid (fun W (h : ESl W W.heap.size (.slice A zs.length cc) zs) => rRight_any W _ zs h hl)
  go_enter Try.func5, Try.ntmps5
  go_wp2_with fail
  refine (HW.out _).mono ?_
  rintro e w1 ⟨rfl, hb1⟩
  have HB1 := Lib.hid (HAL.out.trans (hb1.mono (by simp)))
  have HX1 := Lib.hid (fun j (hj : j < 3) => (HBX.out j hj).keep hb1 (by simp))
  have hz1 : w.heap.size < w1.heap.size := by have := hb1.size; simp at this; omega
  clear hb1 HBX HAL
  by_cases h300 : 300 < zs.length
  · go_wp2_with fail
    go_ret
    exact ⟨rfl, HB1.out⟩
  · have hr1 := RR.out w1 (HH.out.later HB1.out)
    by_cases hrt : erightB zs = true
    · rw [hrt] at hr1
      have HR1 := Lib.hid hr1; clear hr1 RR
      have HRT := Lib.hid hrt; clear hrt
      go_wp2_with fail
      refine (HR1.out).mono ?_
      rintro e w2 ⟨rfl, hb2⟩
      have HB2 := Lib.hid (HB1.out.trans (hb2.mono (by omega)))
      have HX2 := Lib.hid (fun j (hj : j < 3) => (HX1.out j hj).keep hb2 hz1)
      have hz2 : w1.heap.size ≤ w2.heap.size := hb2.size
      clear hb2 HX1 HR1
      go_wp2_with fail
      go_loopw [11] (fun i wr => ∃ k : Nat, i = .int .i64 k ∧ k ≤ 3 ∧ Hid (∀ j, j < k → reB (pick3 x y z j) = true) ∧ Below w2.heap.size w2 wr) (fun i _ => 3 - (intOf i).toNat)
      case atStart => exact ⟨0, rfl, by omega, Lib.hid (fun j hj => absurd hj (by omega)), Below.refl _ _⟩
      case round =>
        obtain ⟨k, rfl, hk, HO, hb3⟩ := hrel
        have HB3 := Lib.hid (HB2.out.trans (hb3.mono (by omega)))
        have HX3 := Lib.hid (fun j (hj : j < 3) => (HX2.out j hj).keep hb3 (by omega))
        have HBR := Lib.hid hb3
        have hz3 : w2.heap.size ≤ wr.heap.size := hb3.size
        clear hb3
        by_cases hlt : k < 3
        · have hlt' : (k : Int) < 3 := by omega
          have hk0 : (0 : Int) ≤ (k : Int) := by omega
          obtain ⟨d0, d1, d2, d3, d4, d5, d6⟩ := (HX3.out k hlt).all
          obtain ⟨u, hu⟩ : ∃ u, pick3 x y z k = u := ⟨_, rfl⟩
          have hcon := fun W => rRightEntry_any (pick3 x y z k) W (HPOK.out k)
          rw [hu] at d0 d1 d2 d3 d4 d5 d6 hcon
          have HU := Lib.hid hu; clear hu
          simp only [En.agg] at hcon
          by_cases hre : reB u = true
          · rw [hre] at hcon
            have HRE := Lib.hid hre; clear hre
            have HC := Lib.hid hcon; clear hcon
            go_wp2_with fail
            refine (HC.out _).mono ?_
            rintro e w4 ⟨rfl, hb4⟩
            have HB4 := Lib.hid (HBR.out.trans (hb4.mono hz3))
            clear hb4 d0 d1 d2 d3 d4 d5 d6
            go_wp2_with fail
            go_roundw
            case rel =>
              refine ⟨k + 1, by go_num, by omega, Lib.hid (fun j hj => ?_), HB4.out⟩
              rcases Nat.lt_or_ge j k with h | h
              · exact HO.out j h
              · obtain rfl : j = k := by omega
                rw [HU.out]; exact HRE.out
            case measure => simp [intOf]; omega
          · have hre : reB u = false := by simpa using hre
            rw [hre] at hcon
            have HC := Lib.hid hcon; clear hcon
            go_wp2_with fail
            refine (HC.out _).mono ?_
            rintro e w4 ⟨rfl, hb4⟩
            have HB4 := Lib.hid (HB3.out.trans (hb4.mono (by omega)))
            clear hb4 d0 d1 d2 d3 d4 d5 d6
            go_wp2_with fail
            go_ret
            exact ⟨rfl, HB4.out⟩
        · obtain rfl : k = 3 := by omega
          have hre : ∀ j, reB (pick3 x y z j) = true := fun j => by
            by_cases h3 : j < 3
            · exact HO.out j h3
            · have := HO.out 2 (by omega)
              unfold pick3 at this ⊢
              rw [if_neg (by omega), if_neg (by omega)]
              simpa using this
          have HRE := Lib.hid hre; clear hre
          have hT1 : ∀ k, k < 4 → ((wr.alloc (.cells #[.int .i64 0, .int .i64 1, .int .i64 2, .int .i64 (a % 3)] 3)).alloc (.cells #[.int .i64 (b % 3), .int .i64 ((b + 1 + c % 2) % 3), .int .i64 ((b + 2 - c % 2) % 3), .int .i64 (c % 3)] 3)).cell? ⟨wr.heap.size, k, none⟩ = some (.int .i64 ((row1 a k : Nat) : Int)) := by
            intro k hk
            have : k = 0 ∨ k = 1 ∨ k = 2 ∨ k = 3 := by omega
            rcases this with rfl | rfl | rfl | rfl
            · simp [row1]
            · simp [row1]
            · simp [row1]
            · simp [row1]; omega
          have hT2 : ∀ k, k < 4 → ((wr.alloc (.cells #[.int .i64 0, .int .i64 1, .int .i64 2, .int .i64 (a % 3)] 3)).alloc (.cells #[.int .i64 (b % 3), .int .i64 ((b + 1 + c % 2) % 3), .int .i64 ((b + 2 - c % 2) % 3), .int .i64 (c % 3)] 3)).cell? ⟨wr.heap.size + 1, k, none⟩ = some (.int .i64 ((row2 b c k : Nat) : Int)) := by
            intro k hk
            have : k = 0 ∨ k = 1 ∨ k = 2 ∨ k = 3 := by omega
            rcases this with rfl | rfl | rfl | rfl
            · simp [row2]; omega
            · simp [row2]; omega
            · simp [row2]; omega
            · simp [row2]; omega
          have HT1 := Lib.hid hT1; clear hT1
          have HT2 := Lib.hid hT2; clear hT2
          have HB5 := Lib.hid (HB3.out.trans ((al2 wr (.cells #[.int .i64 0, .int .i64 1, .int .i64 2, .int .i64 (a % 3)] 3) (.cells #[.int .i64 (b % 3), .int .i64 ((b + 1 + c % 2) % 3), .int .i64 ((b + 2 - c % 2) % 3), .int .i64 (c % 3)] 3)).mono (by omega)))
          have HX5 := Lib.hid (fun j (hj : j < 3) => (HX3.out j hj).keep (al2 wr (.cells #[.int .i64 0, .int .i64 1, .int .i64 2, .int .i64 (a % 3)] 3) (.cells #[.int .i64 (b % 3), .int .i64 ((b + 1 + c % 2) % 3), .int .i64 ((b + 2 - c % 2) % 3), .int .i64 (c % 3)] 3)) (by omega))
          have hz5 : ((wr.alloc (.cells #[.int .i64 0, .int .i64 1, .int .i64 2, .int .i64 (a % 3)] 3)).alloc (.cells #[.int .i64 (b % 3), .int .i64 ((b + 1 + c % 2) % 3), .int .i64 ((b + 2 - c % 2) % 3), .int .i64 (c % 3)] 3)).heap.size = wr.heap.size + 2 := by simp
          go_wp2_with fail
          generalize (wr.alloc (.cells #[.int .i64 0, .int .i64 1, .int .i64 2, .int .i64 (a % 3)] 3)).alloc (.cells #[.int .i64 (b % 3), .int .i64 ((b + 1 + c % 2) % 3), .int .i64 ((b + 2 - c % 2) % 3), .int .i64 (c % 3)] 3) = w5 at HT1 HT2 HB5 HX5 hz5 ⊢
          have hs5 : wr.heap.size + 2 ≤ w5.heap.size := by omega
          have hs6 : w.heap.size < wr.heap.size := by omega
          clear hz5
          obtain ⟨gt, hgt⟩ : ∃ gt, wr.heap.size = gt := ⟨_, rfl⟩
          rw [hgt] at HT1 HT2 hs5 hs6 ⊢
          clear hgt
          try rw [show ((3 : Nat) : Int) = 3 from rfl]
          have HLN1 := Lib.hid (fun k => seqT_length (f := fun k => pick3 x y z (row1 a k)) HRT.out (fun k => HRE.out _) k)
          have HLN2 := Lib.hid (fun k => seqT_length (f := fun k => pick3 x y z (row2 b c k)) HRT.out (fun k => HRE.out _) k)
          have TK1 := Lib.hid (fun (k : Nat) (W : World) (s : Value) (hk : k < 4) (h : ESl W W.heap.size s (seqT zs (fun k => pick3 x y z (row1 a k)) k)) => take_next HRT.out (fun k => HRE.out (row1 a k)) (fun k => HPOK.out (row1 a k)) k W s (by have := HLN1.out k; omega) h)
          have TK2 := Lib.hid (fun (k : Nat) (W : World) (s : Value) (hk : k < 4) (h : ESl W W.heap.size s (seqT zs (fun k => pick3 x y z (row2 b c k)) k)) => take_next HRT.out (fun k => HRE.out (row2 b c k)) (fun k => HPOK.out (row2 b c k)) k W s (by have := HLN2.out k; omega) h)
          go_loopw [12, 13, 18] (fun s12 s13 s18 wl => ∃ k : Nat, s18 = .int .i64 k ∧ k ≤ 4 ∧ Hid (ESl wl wl.heap.size s12 (seqT zs (fun k => pick3 x y z (row1 a k)) k)) ∧ Hid (ESl wl wl.heap.size s13 (seqT zs (fun k => pick3 x y z (row2 b c k)) k)) ∧ Hid (Below w5.heap.size w5 wl)) (fun _ _ s18 _ => 4 - (intOf s18).toNat)
          case atStart => exact ⟨0, rfl, by omega, Lib.hid (HH.out.later HB5.out), Lib.hid (HH.out.later HB5.out), Lib.hid (Below.refl _ _)⟩
          case round =>
            rename World => wl
            obtain ⟨k, rfl, hk, S1, S2, HBL⟩ := hrel
            by_cases hlt : k < 4
            · have hlt' : (k : Int) < 4 := by omega
              have hk0 : (0 : Int) ≤ (k : Int) := by omega
              have hzl : w5.heap.size ≤ wl.heap.size := HBL.out.size
              have t1 := (HBL.out.cell (p := ⟨gt, k, none⟩) (by show gt < _; omega)).trans (HT1.out k hlt)
              have HXL := Lib.hid (fun j (hj : j < 3) => (HX5.out j hj).keep HBL.out (by omega))
              obtain ⟨d0, d1, d2, d3, d4, d5, d6⟩ := (HXL.out _ (row1_lt a k)).all
              have hj1 := row1_lt a k
              have C1 := Lib.hid (TK1.out k wl _ hlt S1.out)
              have hj1' : ((row1 a k : Nat) : Int) < 3 := by omega
              have hj10 : (0 : Int) ≤ ((row1 a k : Nat) : Int) := by omega
              simp only [En.agg] at C1
              generalize row1 a k = j1 at t1 d0 d1 d2 d3 d4 d5 d6 C1 hj1 hj1' hj10
              generalize pick3 x y z j1 = u1 at d0 d1 d2 d3 d4 d5 d6 C1
              go_wp2_with fail
              refine (C1.out).mono ?_
              rintro e w6 ⟨v6, rfl, hs6, hb6⟩
              have S6 := Lib.hid hs6; clear hs6
              have HB6 := Lib.hid (HBL.out.trans (hb6.mono hzl))
              have S26 := Lib.hid (S2.out.later hb6)
              clear hb6 d0 d1 d2 d3 d4 d5 d6 t1 C1 HXL
              have hz6 : w5.heap.size ≤ w6.heap.size := HB6.out.size
              have t1 := (HB6.out.cell (p := ⟨gt + 1, k, none⟩) (by show gt + 1 < _; omega)).trans (HT2.out k hlt)
              have HXL := Lib.hid (fun j (hj : j < 3) => (HX5.out j hj).keep HB6.out (by omega))
              obtain ⟨d0, d1, d2, d3, d4, d5, d6⟩ := (HXL.out _ (row2_lt b c k)).all
              have hj2 := row2_lt b c k
              have C2 := Lib.hid (TK2.out k w6 _ hlt S26.out)
              have hj2' : ((row2 b c k : Nat) : Int) < 3 := by omega
              have hj20 : (0 : Int) ≤ ((row2 b c k : Nat) : Int) := by omega
              simp only [En.agg] at C2
              generalize row2 b c k = j2 at t1 d0 d1 d2 d3 d4 d5 d6 C2 hj2 hj2' hj20
              generalize pick3 x y z j2 = u2 at d0 d1 d2 d3 d4 d5 d6 C2
              go_wp2_with fail
              refine (C2.out).mono ?_
              rintro e w7 ⟨v7, rfl, hs7, hb7⟩
              have S7 := Lib.hid hs7; clear hs7
              have S67 := Lib.hid (S6.out.later hb7)
              have HB7 := Lib.hid (HB6.out.trans (hb7.mono hz6))
              clear hb7 d0 d1 d2 d3 d4 d5 d6 t1 C2 HXL
              go_wp2_with fail
              go_roundw
              case rel =>
                first
                | exact ⟨k + 1, by go_num, by omega, S67, S7, HB7⟩
                | ((repeat apply Exists.intro); exact ⟨⟨k + 1, by go_num, by omega, S67, S7, HB7⟩, rfl⟩)
                | (trace_state; fail)
              case measure => simp [intOf]; omega
            · obtain rfl : k = 4 := by omega
              have hsame := any_same (x := x) (y := y) (z := z) (a := a) HRT.out (HRE.out 0) (HRE.out 1) (HRE.out 2) b1 c1
              have hup := fun (u : En) (hu : u ∈ seqT zs (fun k => pick3 x y z (row1 a k)) 4) => any_up (x := x) (y := y) (z := z) (a := a) HRT.out (HRE.out 0) (HRE.out 1) (HRE.out 2) hu
              have hln := HLN1.out 4
              generalize seqT zs (fun k => pick3 x y z (row1 a k)) 4 = X at S1 hsame hup hln
              generalize seqT zs (fun k => pick3 x y z (row2 b c k)) 4 = Y at S2 hsame
              have hle : X.length = Y.length := by simpa using congrArg List.length hsame
              have hpt : ∀ (k : Nat) (u : En), X[k]? = some u → ∃ u', Y[k]? = some u' ∧ u'.id = u.id ∧ u'.ver = u.ver := fun k u hu => by
                have := congrArg (fun l => l[k]?) hsame
                simp only [List.getElem?_map, hu, Option.map_some] at this
                cases hq : Y[k]? with
                | none => rw [hq] at this; simp at this
                | some u' =>
                  rw [hq] at this
                  simp at this
                  exact ⟨u', rfl, this.1.symm, this.2.symm⟩
              have HPT := Lib.hid hpt; clear hpt hsame
              have HUP := Lib.hid hup; clear hup
              have HS1 := S1.out
              have HS2 := S2.out
              obtain ⟨A1, k1, rfl, g1, g2, hA1⟩ := HS1
              obtain ⟨A2, k2, rfl, g3, g4, hA2⟩ := HS2
              clear g1 g2 g3 g4
              have HA1 := Lib.hid hA1; clear hA1
              have HA2 := Lib.hid hA2; clear hA2
              have hne : ((X.length : Int) != (Y.length : Int)) = false := by simp [hle]
              have hle1 : X.length ≤ Y.length := by omega
              have hle2 : Y.length ≤ X.length := by omega
              clear hle TK1 TK2 HT1 HT2
              have FF := Lib.hid (fun (W : World) (id : Int) (h : ESl W W.heap.size (.slice A zs.length cc) zs) => rFind_any W _ zs id h hl)
              have HBW := Lib.hid (HB5.out.trans (HBL.out.mono (by omega)))
              have hzl : w5.heap.size ≤ wl.heap.size := HBL.out.size
              go_wp2_with fail
              try rw [show ((4 : Nat) : Int) = 4 from rfl]
              go_loopw [23] (fun i wm => ∃ k : Nat, i = .int .i64 k ∧ k ≤ X.length ∧ Hid (Below wl.heap.size wl wm)) (fun i _ => X.length - (intOf i).toNat)
              case atStart => exact ⟨0, rfl, by omega, Lib.hid (Below.refl _ _)⟩
              case round =>
                rename World => wm
                obtain ⟨k, rfl, hk, HBM⟩ := hrel
                have hzm : wl.heap.size ≤ wm.heap.size := HBM.out.size
                have HBF := Lib.hid (HBW.out.trans (HBM.out.mono (by omega)))
                by_cases hlt : k < X.length
                · have hlty : k < Y.length := by omega
                  obtain ⟨bx, ox, rfl, hbx, hcx⟩ := HA1.out (by intro h; simp [h] at hlt)
                  obtain ⟨by', oy, rfl, hby, hcy⟩ := HA2.out (by intro h; simp [h] at hlty)
                  have hxk : X[k]? = some X[k] := List.getElem?_eq_getElem hlt
                  generalize X[k] = u at hxk
                  obtain ⟨u', hyk, e1, e2⟩ := HPT.out k u hxk
                  have hup := HUP.out u (List.mem_of_getElem? hxk)
                  have XA0 := Lib.hid ((hcx k u hxk).keep HBM.out hbx)
                  have YA0 := Lib.hid ((hcy k u' hyk).keep HBM.out hby)
                  clear hcx hcy hxk hyk
                  obtain ⟨x0, x1, x2, x3, x4, x5, x6⟩ := XA0.out.all
                  have HFI := Lib.hid (FF.out wm u.id (HH.out.later HBF.out))
                  obtain ⟨F, hF⟩ : ∃ F, findE zs u.id = F := ⟨_, rfl⟩
                  rw [hF] at HFI hup
                  clear hF
                  obtain ⟨fw, ok⟩ := F
                  simp only [En.agg] at HFI hup
                  have HUPF := Lib.hid hup; clear hup
                  have E1 := Lib.hid e1; clear e1
                  have E2 := Lib.hid e2; clear e2
                  go_wp2_with fail
                  refine (HFI.out).mono ?_
                  rintro e w8 ⟨rfl, hb8⟩
                  have hz8 : wm.heap.size ≤ w8.heap.size := hb8.size
                  have HB9 := Lib.hid ((HBM.out.trans (hb8.mono hzm)).trans ((al1 w8 (.cells #[.int .u8 fw.id, .int .u8 fw.rep, .int .u32 fw.seq, .int .u32 fw.stamp, .int .i64 fw.kind, .int .u8 fw.cls, .int .u32 fw.val] 37)).mono (by omega)))
                  have XA := Lib.hid ((XA0.out.keep hb8 (by omega)).keep (al1 w8 (.cells #[.int .u8 fw.id, .int .u8 fw.rep, .int .u32 fw.seq, .int .u32 fw.stamp, .int .i64 fw.kind, .int .u8 fw.cls, .int .u32 fw.val] 37)) (by omega))
                  have YA1 := Lib.hid ((YA0.out.keep hb8 (by omega)).keep (al1 w8 (.cells #[.int .u8 fw.id, .int .u8 fw.rep, .int .u32 fw.seq, .int .u32 fw.stamp, .int .i64 fw.kind, .int .u8 fw.cls, .int .u32 fw.val] 37)) (by omega))
                  have FA := Lib.hid (new_entry w8 fw 37)
                  have hz9 : (w8.alloc (.cells #[.int .u8 fw.id, .int .u8 fw.rep, .int .u32 fw.seq, .int .u32 fw.stamp, .int .i64 fw.kind, .int .u8 fw.cls, .int .u32 fw.val] 37)).heap.size = w8.heap.size + 1 := by simp
                  clear hb8 x0 x1 x2 x3 x4 x5 x6 XA0 YA0 HFI
                  go_wp2_with fail
                  generalize w8.alloc (.cells #[.int .u8 fw.id, .int .u8 fw.rep, .int .u32 fw.seq, .int .u32 fw.stamp, .int .i64 fw.kind, .int .u8 fw.cls, .int .u32 fw.val] 37) = w9 at HB9 XA YA1 FA hz9 ⊢
                  have q1 : bx < w9.heap.size := by omega
                  have q2 : by' < w9.heap.size := by omega
                  have q3 : w8.heap.size < w9.heap.size := by omega
                  clear hz9
                  have YA := Lib.hid (fun p : Later w9 => same_cells (YA1.out.later q2 p) E1.out E2.out)
                  clear YA1
                  cases ok
                  · have LS := Lib.hid (fun W => rLess_any u.rep u.seq u.stamp fw.rep fw.seq fw.stamp W)
                    have m0 := fun p : Later w9 => (XA.out.later q1 p).all.1
                    have m1 := fun p : Later w9 => (XA.out.later q1 p).all.2.1
                    have m2 := fun p : Later w9 => (XA.out.later q1 p).all.2.2.1
                    have m3 := fun p : Later w9 => (XA.out.later q1 p).all.2.2.2.1
                    have n0 := fun p : Later w9 => (YA.out p).1
                    have n1 := fun p : Later w9 => (YA.out p).2.1
                    have n2 := fun p : Later w9 => (YA.out p).2.2.1
                    have n3 := fun p : Later w9 => (YA.out p).2.2.2
                    have o1 := fun p : Later w9 => (FA.out.later q3 p).all0.2.1
                    have o2 := fun p : Later w9 => (FA.out.later q3 p).all0.2.2.1
                    have o3 := fun p : Later w9 => (FA.out.later q3 p).all0.2.2.2.1
                    have hm : Try.prog.follows .mixedOrders = true := HM.out
                    refine wp_region_later hm (by kernel_rfl) ?_
                    repeat (any_goals (first | go_big_quiet_step (first | (go_at_call 28; exact Calls.later (LS.out _))) | quiet_step (first | (go_at_call 28; exact Calls.later (LS.out _)))))
                    refine wpQuiet_nil ?_
                    intro wp hw'
                    obtain ⟨lp, hlp⟩ := hw'
                    have hbp := lp.bel
                    rw [← hlp] at hbp
                    clear hlp lp hm m0 m1 m2 m3 n0 n1 n2 n3 o1 o2 o3
                    have HBN := Lib.hid (HB9.out.trans (hbp.mono (by omega)))
                    clear hbp
                    go_wp2
                    go_roundw
                    case rel =>
                      first
                      | exact ⟨k + 1, by go_num, by omega, HBN⟩
                      | exact ⟨by omega, HBN⟩
                      | ((repeat apply Exists.intro); exact ⟨⟨k + 1, by go_num, by omega, HBN⟩, rfl⟩)
                      | ((repeat apply Exists.intro); exact ⟨⟨by omega, HBN⟩, rfl⟩)
                      | (trace_state; fail)
                    case measure => simp [intOf]; omega
                  · have ls := fun W => rLess_any u.rep u.seq u.stamp fw.rep fw.seq fw.stamp W
                    rw [show ltV ⟨u.rep, u.seq, u.stamp⟩ ⟨fw.rep, fw.seq, fw.stamp⟩ = false from HUPF.out rfl] at ls
                    have LS := Lib.hid ls; clear ls
                    have m0 := fun p : Later w9 => (XA.out.later q1 p).all.1
                    have m1 := fun p : Later w9 => (XA.out.later q1 p).all.2.1
                    have m2 := fun p : Later w9 => (XA.out.later q1 p).all.2.2.1
                    have m3 := fun p : Later w9 => (XA.out.later q1 p).all.2.2.2.1
                    have n0 := fun p : Later w9 => (YA.out p).1
                    have n1 := fun p : Later w9 => (YA.out p).2.1
                    have n2 := fun p : Later w9 => (YA.out p).2.2.1
                    have n3 := fun p : Later w9 => (YA.out p).2.2.2
                    have o1 := fun p : Later w9 => (FA.out.later q3 p).all0.2.1
                    have o2 := fun p : Later w9 => (FA.out.later q3 p).all0.2.2.1
                    have o3 := fun p : Later w9 => (FA.out.later q3 p).all0.2.2.2.1
                    have hm : Try.prog.follows .mixedOrders = true := HM.out
                    refine wp_region_later hm (by kernel_rfl) ?_
                    repeat (any_goals (first | go_big_quiet_step (first | (go_at_call 28; exact Calls.later (LS.out _))) | quiet_step (first | (go_at_call 28; exact Calls.later (LS.out _)))))
                    refine wpQuiet_nil ?_
                    intro wp hw'
                    obtain ⟨lp, hlp⟩ := hw'
                    have hbp := lp.bel
                    rw [← hlp] at hbp
                    clear hlp lp hm m0 m1 m2 m3 n0 n1 n2 n3 o1 o2 o3
                    have HBN := Lib.hid (HB9.out.trans (hbp.mono (by omega)))
                    clear hbp
                    go_wp2
                    go_roundw
                    case rel =>
                      first
                      | exact ⟨k + 1, by go_num, by omega, HBN⟩
                      | exact ⟨by omega, HBN⟩
                      | ((repeat apply Exists.intro); exact ⟨⟨k + 1, by go_num, by omega, HBN⟩, rfl⟩)
                      | ((repeat apply Exists.intro); exact ⟨⟨by omega, HBN⟩, rfl⟩)
                      | (trace_state; fail)
                    case measure => simp [intOf]; omega
                · go_wp2_with fail
                  go_ret
                  exact ⟨rfl, HBF.out⟩
    · have hrt : erightB zs = false := by simpa using hrt
      rw [hrt] at hr1
      have HR1 := Lib.hid hr1; clear hr1 RR
      go_wp2_with fail
      refine (HR1.out).mono ?_
      rintro e w2 ⟨rfl, hb2⟩
      have HB2 := Lib.hid (HB1.out.trans (hb2.mono (by omega)))
      clear hb2
      go_wp2_with fail
      go_ret
      exact ⟨rfl, HB2.out⟩
end Go.Proofs.Ytfjaeohfigcciaa
