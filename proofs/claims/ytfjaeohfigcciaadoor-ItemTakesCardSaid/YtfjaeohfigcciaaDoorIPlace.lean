/- The contracts of item.place and of slices.BinarySearchFunc below it: where an ID is, or would be, and whether it is there. -/
import Derived.Test.YtfjaeohfigcciaaDoorIRight
import Derived.Deep.LoopGhost
namespace Go.Proofs.YtfjaeohfigcciaaDoor
open Go.RowKit

/-- how many entries stand ahead of an ID -/
def posE (zs : List En) (id : Int) : Nat := zs.countP fun x => decide (x.id < id)

theorem count_at (p : En → Bool) : ∀ (l : List En) (i : Nat), i ≤ l.length → (∀ t, t < i → p l[t]! = true) → (∀ t, i ≤ t → t < l.length → p l[t]! = false) → l.countP p = i
  | [], i, hi, _, _ => by simp at hi; simp [hi]
  | a :: r, 0, _, _, h2 => by
    rw [List.countP_eq_zero]
    intro x hx
    obtain ⟨t, ht, rfl⟩ := List.getElem_of_mem hx
    have := h2 t (Nat.zero_le _) ht
    rw [getElem!_pos (a :: r) t ht] at this
    simp [this]
  | a :: r, i + 1, hi, h1, h2 => by
    have ha : p a = true := by simpa using h1 0 (Nat.succ_pos _)
    rw [List.countP_cons_of_pos ha, count_at p r i (by simpa using hi) (fun t ht => by simpa using h1 (t + 1) (by omega)) (fun t h3 h4 => by simpa using h2 (t + 1) (by omega) (by simpa using h4))]

set_option maxHeartbeats 400000 in
theorem placeC_any (x : En) (id : Int) (w : World) :
    Calls Tryd.prog 62 #[x.agg, .int .u8 id] w fun e w' => e = .returned (.int .i64 (icmpI x.id id)) ∧ Below w.heap.size w w' := by
  have c := fun W => icmp8_any x.id id W
  generalize icmpI x.id id = q at c ⊢
  have C := Lib.hid c; clear c
  simp only [En.agg]
  go_enter Tryd.func62, Tryd.ntmps62
  go_wp2_with (go_at_call 57; refine (C.out _).mono ?_; rintro e w' ⟨rfl, rfl⟩)
  go_ret
  exact ⟨rfl, al1 _ _⟩

theorem icmp_neg (a b : Int) : icmpI a b < 0 ↔ a < b := by
  unfold icmpI
  split
  · simp [*]
  · split <;> simp [*]
theorem icmp_zero (a b : Int) : icmpI a b = 0 ↔ a = b := by
  unfold icmpI
  split
  · constructor <;> intro <;> omega
  · split
    · constructor <;> intro <;> omega
    · constructor <;> intro <;> omega

set_option maxHeartbeats 2000000 in
theorem BSF_any (id : Int) (v : Value) (zs : List En) (w : World) (h : ESl w w.heap.size v zs) (hl : zs.length ≤ 4611686018427387903) (hmono : ∀ a b, a ≤ b → b < zs.length → zs[b]!.id < id → zs[a]!.id < id) :
    Calls Tryd.prog 61 #[v, .int .u8 id, .func (.func 62) #[] #[]] w fun e w' => e = .returned (.tuple #[.int .i64 (posE zs id : Nat), .bool (decide (posE zs id < zs.length) && decide (zs[posE zs id]!.id = id))]) ∧ Below w.heap.size w w' := by
  obtain ⟨A, c, rfl, _, hok, hA⟩ := h
  have HA := Lib.hid hA; clear hA
  clear hok
  have M := Lib.hid hmono; clear hmono
  obtain ⟨cnt, hcnt⟩ : ∃ cnt, posE zs id = cnt := ⟨_, rfl⟩
  rw [hcnt]
  have CN := Lib.hid hcnt; clear hcnt
  obtain ⟨fin, hfin⟩ : ∃ fin, (decide (cnt < zs.length) && decide (zs[cnt]!.id = id)) = fin := ⟨_, rfl⟩
  rw [hfin]
  have FIN := Lib.hid hfin; clear hfin
  go_enter Tryd.func61, Tryd.ntmps61
  go_wp2
  go_loopg [9, 10] zs.length (fun kx s9 s10 wr => ∃ lo hi : Nat, s9 = .int .i64 lo ∧ s10 = .int .i64 hi ∧ lo ≤ hi ∧ hi ≤ zs.length ∧ hi - lo ≤ kx ∧ Hid (Below w.heap.size w wr) ∧
    Hid ((∀ t, t < lo → zs[t]!.id < id) ∧ (∀ t, hi ≤ t → t < zs.length → id ≤ zs[t]!.id)))
  case atStart => exact ⟨0, zs.length, rfl, rfl, Nat.zero_le _, Nat.le_refl _, by omega, Lib.hid (Below.refl _ _), Lib.hid ⟨fun t ht => absurd ht (Nat.not_lt_zero _), fun t h1 h2 => by omega⟩⟩
  case round =>
    obtain ⟨lo, hi, rfl, rfl, hlh, hin, hg, S1, I⟩ := hrel
    by_cases hlt : lo < hi
    · obtain ⟨b, off, rfl, hbw, hc⟩ := HA.out (by intro h; simp [h] at hin; omega)
      have hyk : zs[(lo + hi) / 2]? = some zs[(lo + hi) / 2] := List.getElem?_eq_getElem (by omega)
      generalize zs[(lo + hi) / 2] = y at hyk
      have Y := Lib.hid (egetBang_of hyk)
      obtain ⟨c0, c1, c2, c3, c4, c5, c6⟩ := ((hc _ y hyk).keep S1.out hbw).all
      clear hc hyk
      have hcm := fun W => placeC_any y id W
      simp only [En.agg] at hcm
      have hic := icmp_neg y.id id
      generalize icmpI y.id id = q at hcm hic
      have HC := Lib.hid hcm; clear hcm
      have HI := Lib.hid hic; clear hic
      by_cases hyx : q < 0
      · go_wp2_with fail
        refine (HC.out _).mono ?_
        rintro e w1 ⟨rfl, hb1⟩
        have HBN := Lib.hid (S1.out.trans (hb1.mono S1.out.size))
        clear hb1
        go_wp2
        go_roundg (hi - ((lo + hi) / 2 + 1))
        case measure => omega
        case rel =>
          have I2 : Hid ((∀ t, t < (lo + hi) / 2 + 1 → zs[t]!.id < id) ∧ (∀ t, hi ≤ t → t < zs.length → id ≤ zs[t]!.id)) := Lib.hid ⟨fun t ht => M.out t ((lo + hi) / 2) (by omega) (by omega) (by rw [Y.out]; exact HI.out.1 hyx), I.out.2⟩
          exact ⟨(lo + hi) / 2 + 1, hi, by rw [show ((lo : Int) + (hi : Int)) / 2 + 1 = (((lo + hi) / 2 + 1 : Nat) : Int) by omega], rfl, by omega, hin, Nat.le_refl _, HBN, I2⟩
      · go_wp2_with fail
        refine (HC.out _).mono ?_
        rintro e w1 ⟨rfl, hb1⟩
        have HBN := Lib.hid (S1.out.trans (hb1.mono S1.out.size))
        clear hb1
        go_wp2
        go_roundg ((lo + hi) / 2 - lo)
        case measure => omega
        case rel =>
          have I2 : Hid ((∀ t, t < lo → zs[t]!.id < id) ∧ (∀ t, (lo + hi) / 2 ≤ t → t < zs.length → id ≤ zs[t]!.id)) := Lib.hid ⟨I.out.1, fun t ht htn => Int.not_lt.1 fun h => by have := M.out ((lo + hi) / 2) t ht htn h; rw [Y.out] at this; have := HI.out.2 this; omega⟩
          exact ⟨lo, (lo + hi) / 2, rfl, by rw [show ((lo : Int) + (hi : Int)) / 2 = (((lo + hi) / 2 : Nat) : Int) by omega], by omega, by omega, Nat.le_refl _, HBN, I2⟩
    · obtain rfl : hi = lo := by omega
      have ecnt : cnt = hi := by
        rw [← CN.out]
        refine count_at _ zs hi hin (fun t ht => ?_) (fun t h3 h4 => ?_)
        · exact decide_eq_true (I.out.1 t ht)
        · exact decide_eq_false (by have := I.out.2 t h3 h4; omega)
      subst ecnt
      by_cases hn : cnt < zs.length
      · obtain ⟨b, off, rfl, hbw, hc⟩ := HA.out (by intro h; simp [h] at hn)
        have hyk : zs[cnt]? = some zs[cnt] := List.getElem?_eq_getElem hn
        generalize zs[cnt] = y at hyk
        have Y := Lib.hid (egetBang_of hyk)
        obtain ⟨c0, c1, c2, c3, c4, c5, c6⟩ := ((hc _ y hyk).keep S1.out hbw).all
        clear hc hyk
        have hcm := fun W => placeC_any y id W
        simp only [En.agg] at hcm
        have hic := icmp_zero y.id id
        generalize icmpI y.id id = q at hcm hic
        have HC := Lib.hid hcm; clear hcm
        have HI := Lib.hid hic; clear hic
        by_cases hyx : q = 0
        · have HE := Lib.hid (HI.out.1 hyx)
          subst hyx
          clear HI
          go_wp2_with fail
          refine (HC.out _).mono ?_
          rintro e w1 ⟨rfl, hb1⟩
          have HBN := Lib.hid (S1.out.trans (hb1.mono S1.out.size))
          clear hb1
          go_wp2
          go_ret2
          exact ⟨by rw [← FIN.out, Y.out]; simp [hn, HE.out], HBN.out⟩
        · have hyx' : (q == 0) = false := by simp [hyx]
          have HYX := Lib.hid hyx; clear hyx
          go_wp2_with fail
          refine (HC.out _).mono ?_
          rintro e w1 ⟨rfl, hb1⟩
          have HBN := Lib.hid (S1.out.trans (hb1.mono S1.out.size))
          clear hb1
          go_wp2
          go_ret2
          exact ⟨by rw [← FIN.out, Y.out]; simp [hn]; exact fun h => HYX.out (HI.out.2 h), HBN.out⟩
      · have hn' : decide (cnt < zs.length) = false := by simp; omega
        go_wp2
        go_ret2
        exact ⟨by rw [← FIN.out]; simp [hn], S1.out⟩

set_option maxHeartbeats 400000 in
theorem place_any (id : Int) (v : Value) (zs : List En) (w : World) (h : ESl w w.heap.size v zs) (hl : zs.length ≤ 4611686018427387903) (hmono : ∀ a b, a ≤ b → b < zs.length → zs[b]!.id < id → zs[a]!.id < id) :
    Calls Tryd.prog 42 #[v, .int .u8 id] w fun e w' => e = .returned (.tuple #[.int .i64 (posE zs id : Nat), .bool (decide (posE zs id < zs.length) && decide (zs[posE zs id]!.id = id))]) ∧ Below w.heap.size w w' := by
  have H := Lib.hid (BSF_any id v zs w h hl hmono)
  clear hmono h hl
  generalize (decide (posE zs id < zs.length) && decide (zs[posE zs id]!.id = id)) = q at H ⊢
  generalize posE zs id = p at H ⊢
  go_enter Tryd.func42, Tryd.ntmps42
  go_wp2_with fail
  refine (H.out).mono ?_
  rintro e w1 ⟨rfl, hb1⟩
  go_wp2
  go_ret2
  exact ⟨rfl, hb1⟩
end Go.Proofs.YtfjaeohfigcciaaDoor
