/- The contract of the reference's put. -/
import Derived.Test.YtfjaeohfigcciaaDoorMarks
namespace Go.Proofs.YtfjaeohfigcciaaDoor
open Go.RowKit Go.Sort

theorem grownM_below {B : Nat} {a w w' : World} {base : Nat} {v : Value} {ms : List Int} (h : Below B a w) (ho : OwnM w base v ms) (hg : w.grownBy w' v.ownBlock) (hB : B ≤ base) (hw : B ≤ w.heap.size) : Below B a w' :=
  h.grown hg hw (fun k hk => by have := (ho.lt k hk).1; omega)
theorem one_sm (w : World) (g : Nat) (n : Int) (hg : g = w.heap.size) (hn : 0 ≤ n ∧ n ≤ 4294967296) : Sm (w.alloc (.cells #[.int .u64 n] 58)) (g + 1) (.slice (some ⟨g, 0, none⟩) 1 1) [n] := by
  subst hg
  refine ⟨_, 1, rfl, by simp, (fun h => by simp at h), by simpa using hn, fun _ => ⟨w.heap.size, 0, rfl, by omega, fun j m hj => ?_⟩⟩
  match j, hj with
  | 0, hj => simp at hj; subst hj; simp
  | j + 1, hj => simp at hj

theorem sm_take {w : World} {B : Nat} {A : Option Addr} {len c k : Nat} {ms : List Int} (h : Sm w B (.slice A len c) ms) (hk : k ≤ ms.length) : Sm w B (.slice A k c) (ms.take k) := by
  obtain ⟨A', c', hv, hc, hn, hok, hA⟩ := h
  cases hv
  refine ⟨A, c, by rw [List.length_take, Nat.min_eq_left hk], by rw [List.length_take]; omega, hn, fun m hm => hok m (List.mem_of_mem_take hm), fun hp => ?_⟩
  obtain ⟨b, off, rfl, hlt, hcell⟩ := hA hp
  refine ⟨b, off, rfl, hlt, fun j m hj => hcell j m ?_⟩
  rw [List.getElem?_take] at hj
  split at hj
  · exact hj
  · cases hj
theorem sm_drop {w : World} {B : Nat} {b off len c k : Nat} {ms : List Int} (h : Sm w B (.slice (some ⟨b, off, none⟩) len c) ms) (hk : k ≤ ms.length) : Sm w B (.slice (some ⟨b, off + k, none⟩) (len - k) (c - k)) (ms.drop k) := by
  obtain ⟨A', c', hv, hc, hn, hok, hA⟩ := h
  cases hv
  refine ⟨_, c - k, by rw [List.length_drop], by rw [List.length_drop]; omega, (fun h => by simp at h), fun m hm => hok m (List.mem_of_mem_drop hm), fun hp => ?_⟩
  obtain ⟨b', off', he, hlt, hcell⟩ := hA (by omega)
  cases he
  refine ⟨b, off + k, rfl, hlt, fun j m hj => ?_⟩
  rw [List.getElem?_drop] at hj
  have := hcell (k + j) m hj
  rw [← Nat.add_assoc] at this
  exact this

theorem sm_empty (w : World) (B : Nat) (A : Option Addr) (c : Nat) (hn : A = none → c = 0) (hA : 0 < c → ∃ b off, A = some ⟨b, off, none⟩ ∧ b < B) : Sm w B (.slice A 0 c) [] :=
  ⟨A, c, rfl, by simp, hn, by simp, fun hp => by
    obtain ⟨b, off, h1, h2⟩ := hA hp
    exact ⟨b, off, h1, h2, fun j m hj => by simp at hj⟩⟩

theorem sm_tail {w w2 : World} {B : Nat} {A : Option Addr} {c len k : Nat} {ms : List Int} (h : Sm w B (.slice A len c) ms) (hk : k = ms.length) : Sm w2 B (.slice (if c = k then A else Option.map (fun x => x.add k) A) (len - k) (c - k)) [] := by
  obtain ⟨A', c', hv, hc, hn, hok, hA⟩ := h
  cases hv
  subst hk
  rw [Nat.sub_self]
  refine sm_empty _ _ _ _ (fun h => ?_) (fun h => ?_)
  · by_cases hc' : c = ms.length
    · omega
    · rw [if_neg hc'] at h
      cases A with
      | none => have := hn rfl; omega
      | some ad => simp at h
  · obtain ⟨b, off, rfl, hlt, _⟩ := hA (by omega)
    rw [if_neg (by omega)]
    refine ⟨b, off + ms.length, ?_, hlt⟩
    simp only [Option.map_some, Option.some.injEq]
    unfold Addr.add
    split <;> simp_all

set_option maxHeartbeats 2000000 in
set_option maxRecDepth 100000 in
theorem put_any (v : Value) (ms : List Int) (n : Int) (w : World) (L : Nat) (how : OwnM w L v ms) (hoks : ∀ m ∈ ms, 0 ≤ m ∧ m ≤ 4294967296) (hL : L ≤ w.heap.size) (hz : ms.length ≤ 2000) (hn : 0 ≤ n ∧ n ≤ 4294967296) :
    Calls Tryd.prog 47 #[v, .int .u64 n] w (PutPost w L ms n) := by
  have h := how.sm hoks
  have HOW := Lib.hid how; clear how
  have H := Lib.hid h
  obtain ⟨A, c, rfl, hlc, hcz, hok, hA⟩ := h
  have HA := Lib.hid hA; clear hA
  have HK := Lib.hid hok; clear hok
  have HZ := Lib.hid hcz; clear hcz
  obtain ⟨n1, n2⟩ := hn
  go_enter Tryd.func47, Tryd.ntmps47
  go_wp2
  go_loop [5] (fun i => ∃ k : Nat, i = .int .i64 k ∧ k ≤ ms.length ∧ Hid (∀ (j : Nat) (m : Int), j < k → ms[j]? = some m → m < n)) (fun i => ms.length - (intOf i).toNat)
  case atStart => exact ⟨0, rfl, by omega, Lib.hid (fun j _ hj => absurd hj (by omega))⟩
  case round =>
    obtain ⟨k, rfl, hk, HO⟩ := hrel
    by_cases hlt : k < ms.length
    · obtain ⟨b, off, rfl, hbw, hc⟩ := HA.out (by omega)
      have hxk : ms[k]? = some ms[k] := List.getElem?_eq_getElem hlt
      generalize ms[k] = x at hxk
      obtain ⟨o1, o2⟩ := HK.out x (List.mem_of_getElem? hxk)
      have c0 := hc k x hxk
      have HC := Lib.hid hc; clear hc
      have HX := Lib.hid hxk; clear hxk
      by_cases q1 : x < n
      · go_wp2
        go_round
        case rel =>
          refine ⟨k + 1, by go_num, by omega, Lib.hid (fun j m hj hm => ?_)⟩
          rcases Nat.lt_or_ge j k with h | h
          · exact HO.out j m h hm
          · obtain rfl : j = k := by omega
            rw [HX.out] at hm; cases hm; exact q1
        case measure => simp [intOf]; omega
      · by_cases q2 : x = n
        · have q2' : (x == n) = true := by simp [q2]
          have HQ := Lib.hid q2; clear q2
          go_wp2
          go_ret
          exact ⟨_, ms, rfl, put_same (k := k) (HX.out.trans (by rw [HQ.out])), HK.out, HOW.out, Below.refl _ _⟩
        · have q2' : (x == n) = false := by simp [q2]
          have HP := Lib.hid (put_new hk HO.out (fun m hm => by rw [HX.out] at hm; cases hm; omega))
          clear q2
          go_upto_region 6 with fail
          go_cut [6] (fun s wx => OwnM wx w.heap.size s [] ∧ wx = w)
          case first =>
            go_wp2
            go_meet
            case rel => exact ⟨OwnM.nil _ _, rfl⟩
          case rest =>
            obtain ⟨ho, hw⟩ := hcut
            obtain rfl : w = wc := hw.symm
            have hck : k ≠ c := by omega
            have hlen := List.length_take_le k ms
            go_upto_region 8 with (at_builtin; (refine append_marks rfl _ _ rfl w.heap.size _ [] rfl ho _ _ (ms.take k) rfl (sm_take H.out hk) (by simp; omega) (Nat.le_refl _) ?_); intro v1 w1 ho1 hg1)
            have hb1 : Below w.heap.size w w1 := grownM_below (Below.refl _ _) ho hg1 (Nat.le_refl _) (Nat.le_refl _)
            have hz1 := hb1.size
            have HB1 := Lib.hid hb1; clear hb1
            go_upto_region 9 with (at_builtin; (refine append_marks rfl _ _ rfl w.heap.size _ _ rfl (ho1.alloc _) _ _ [n] rfl (one_sm _ _ n (by simp) ⟨n1, n2⟩) (by simp; omega) (by simp; omega) ?_); intro v2 w2 ho2 hg2)
            have hb2 : Below w.heap.size w w2 := grownM_below (HB1.out.alloc hz1 _) (ho1.alloc _) hg2 (Nat.le_refl _) (by simp; omega)
            have hz2 := hb2.size
            have HB2 := Lib.hid hb2; clear hb2
            go_wp2_with (at_builtin; (refine append_marks rfl _ _ rfl w.heap.size _ _ rfl ho2 _ _ (ms.drop k) rfl ((sm_drop H.out hk).below HB2.out) (by simp; omega) hz2 ?_); intro v3 w3 ho3 hg3)
            go_ret
            rw [List.nil_append] at ho3
            refine ⟨v3, _, rfl, HP.out, fun m hm => ?_, ho3.mono hL, grownM_below HB2.out ho2 hg3 (Nat.le_refl _) hz2⟩
            rcases (HP.out.2.1 m).1 hm with rfl | hm
            · exact ⟨n1, n2⟩
            · exact HK.out m hm
    · have HKL : Hid (k = ms.length) := Lib.hid (by omega)
      have HP := Lib.hid (put_new hk HO.out (fun m hm => by rw [List.getElem?_eq_none (by omega)] at hm; cases hm))
      have hlen := List.length_take_le k ms
      have hlt' : decide (k < ms.length) = false := by simp; omega
      go_upto_region 6 with fail
      go_cut [6] (fun s wx => OwnM wx w.heap.size s [] ∧ wx = w)
      case first =>
        go_wp2
        go_meet
        case rel => exact ⟨OwnM.nil _ _, rfl⟩
      case rest =>
        obtain ⟨ho, hw⟩ := hcut
        obtain rfl : w = wc := hw.symm
        go_upto_region 8 with (at_builtin; (refine append_marks rfl _ _ rfl w.heap.size _ [] rfl ho _ _ (ms.take k) rfl (sm_take H.out hk) (by simp; omega) (Nat.le_refl _) ?_); intro v1 w1 ho1 hg1)
        have hb1 : Below w.heap.size w w1 := grownM_below (Below.refl _ _) ho hg1 (Nat.le_refl _) (Nat.le_refl _)
        have hz1 := hb1.size
        have HB1 := Lib.hid hb1; clear hb1
        go_upto_region 9 with (at_builtin; (refine append_marks rfl _ _ rfl w.heap.size _ _ rfl (ho1.alloc _) _ _ [n] rfl (one_sm _ _ n (by simp) ⟨n1, n2⟩) (by simp; omega) (by simp; omega) ?_); intro v2 w2 ho2 hg2)
        have hb2 : Below w.heap.size w w2 := grownM_below (HB1.out.alloc hz1 _) (ho1.alloc _) hg2 (Nat.le_refl _) (by simp; omega)
        have hz2 := hb2.size
        have HB2 := Lib.hid hb2; clear hb2
        go_wp2_with (at_builtin; (refine append_marks rfl _ _ rfl w.heap.size _ _ rfl ho2 w.heap.size _ [] rfl (sm_tail H.out HKL.out) (by simp; omega) hz2 ?_); intro v3 w3 ho3 hg3)
        all_goals
          go_ret
          have hdr : ms.drop k = [] := List.drop_of_length_le (by omega)
          rw [List.nil_append] at ho3
          have ho4 : OwnM w3 L v3 (ms.take k ++ [n] ++ ms.drop k) := by rw [hdr]; exact ho3.mono hL
          refine ⟨v3, _, rfl, HP.out, fun m hm => ?_, ho4, grownM_below HB2.out ho2 hg3 (Nat.le_refl _) hz2⟩
          rcases (HP.out.2.1 m).1 hm with rfl | hm
          · exact ⟨n1, n2⟩
          · exact HK.out m hm
end Go.Proofs.YtfjaeohfigcciaaDoor

