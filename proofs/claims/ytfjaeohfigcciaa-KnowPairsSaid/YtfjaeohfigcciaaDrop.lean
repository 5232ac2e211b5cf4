/- The contract of know.Drop. -/
import Derived.Test.YtfjaeohfigcciaaAround
namespace Go.Proofs.Ytfjaeohfigcciaa
open Go.RowKit Go.Sort

def dropL (zs : List Rn) (p n : Int) : List Rn := zs.flatMap fun x => if covB x p n then arL x n else [x]
def lim (l : List Rn) : Except Int (List Rn) := if l.length ≤ 64 then .ok l else .error 5
def dropR (zs : List Rn) (p n : Int) : Except Int (List Rn) := if rightB zs = true ∧ rrB ⟨p, n, n⟩ = true then lim (dropL zs p n) else .error 9

/-- runs, or a code, come back -/
def ResPost (w : World) (res : Except Int (List Rn)) (e : Ending) (w' : World) : Prop :=
  match res with
  | .ok l => ∃ v, e = .returned (.tuple #[v, .nilIface]) ∧ Sl w' w'.heap.size v l ∧ Below w.heap.size w w'
  | .error c => e = .returned (.tuple #[.slice none 0 0, .iface 57 (.int .i64 c)]) ∧ Below w.heap.size w w'

theorem within_any (v : Value) (l : List Rn) (w w0 : World) (base : Nat) (h : Own w base v l) (hok : ∀ x ∈ l, x.ok) (hl : l.length ≤ 1000) (hb : Below w0.heap.size w0 w) :
    Calls Try.prog 32 #[v] w (ResPost w0 (lim l)) := by
  obtain ⟨A, c, rfl, hn, hA⟩ := h.form
  by_cases h64 : l.length ≤ 64
  · refine (within_yes A l.length c w h64).mono fun e w' ⟨he, hw⟩ => ?_
    subst hw
    rw [lim, if_pos h64]
    exact ⟨_, he, h.sl hok, hb⟩
  · refine (within_no A l.length c w (by omega) hl).mono fun e w' ⟨he, hw⟩ => ?_
    subst hw
    rw [lim, if_neg h64]
    exact ⟨he, hb⟩

theorem arL_ok {x : Rn} {n : Int} (hx : x.ok) (hn : 0 ≤ n ∧ n ≤ 4294967295) : ∀ y ∈ arL x n, y.ok := by
  intro y hy
  obtain ⟨h1, h2, h3⟩ := hx
  simp only [arL, List.mem_append] at hy
  rcases hy with hy | hy
  · split at hy
    · simp at hy; subst hy; refine ⟨h1, h2, ?_, ?_⟩ <;> simp <;> omega
    · simp at hy
  · split at hy
    · simp at hy; subst hy; refine ⟨h1, ⟨?_, ?_⟩, h3⟩ <;> simp <;> omega
    · simp at hy
theorem arL_len (x : Rn) (n : Int) : (arL x n).length ≤ 2 := by
  simp only [arL, List.length_append]
  split <;> split <;> simp
theorem dropL_ok {zs : List Rn} {p n : Int} (h : ∀ x ∈ zs, x.ok) (hn : 0 ≤ n ∧ n ≤ 4294967295) : ∀ y ∈ dropL zs p n, y.ok := by
  intro y hy
  simp only [dropL, List.mem_flatMap] at hy
  obtain ⟨x, hx, hy⟩ := hy
  split at hy
  · exact arL_ok (h x hx) hn y hy
  · simp at hy; subst hy; exact h y hx
theorem dropL_len (zs : List Rn) (p n : Int) : (dropL zs p n).length ≤ zs.length * 2 := by
  induction zs with
  | nil => simp [dropL]
  | cons x l ih =>
    simp only [dropL, List.flatMap_cons, List.length_append, List.length_cons] at *
    have := arL_len x n
    split <;> simp_all <;> omega
theorem dropL_take {zs : List Rn} {k : Nat} {x : Rn} (p n : Int) (h : zs[k]? = some x) : dropL (zs.take (k + 1)) p n = dropL (zs.take k) p n ++ (if covB x p n then arL x n else [x]) := by
  obtain ⟨hk, hx⟩ := List.getElem?_eq_some_iff.1 h
  rw [List.take_succ_eq_append_getElem hk, hx]
  simp [dropL]

/-- where Drop's loop stands -/
def DropRel (w : World) (ys : List Rn) (s : Value) (wr : World) : Prop := Own wr w.heap.size s ys ∧ Below w.heap.size w wr

theorem DropRel.step {w wr wx w' : World} {ys zs : List Rn} {s s' : Value} (h : DropRel w ys s wr) (hx : Below wr.heap.size wr wx) (hg : wx.grownBy w' s.ownBlock) (ho : Own w' w.heap.size s' zs) : DropRel w zs s' w' := by
  refine ⟨ho, grown_below (h.2.trans (hx.mono h.2.size)) (h.1.below hx) hg (Nat.le_refl _) (Nat.le_trans h.2.size hx.size)⟩

set_option maxHeartbeats 1000000 in
theorem Drop_wrong1 (v : Value) (zs : List Rn) (p n : Int) (w : World) (h : Sl w w.heap.size v zs) (hx : rightB zs = false) :
    Calls Try.prog 9 #[v, .int .u8 p, .int .u32 n] w (ResPost w (.error 9)) := by
  have hr := Right_any w v zs h
  rw [hx] at hr
  have HR := Lib.hid hr; clear hr hx
  go_enter Try.func9, Try.ntmps9
  go_wp2_with fail
  refine (HR.out).mono ?_
  rintro e w1 ⟨rfl, hb1⟩
  go_wp2_with fail
  go_ret2
  exact ⟨rfl, hb1⟩

set_option maxHeartbeats 1000000 in
theorem Drop_wrong2 (v : Value) (zs : List Rn) (p n : Int) (w : World) (h : Sl w w.heap.size v zs) (hx : rightB zs = true) (hy : rrB ⟨p, n, n⟩ = false) :
    Calls Try.prog 9 #[v, .int .u8 p, .int .u32 n] w (ResPost w (.error 9)) := by
  have hr := Right_any w v zs h
  rw [hx] at hr
  have HR := Lib.hid hr; clear hr hx
  have hq := fun W => rightRun_any p n n W
  rw [hy] at hq
  have HQ := Lib.hid hq; clear hq hy
  go_enter Try.func9, Try.ntmps9
  go_wp2_with fail
  refine (HR.out).mono ?_
  rintro e w1 ⟨rfl, hb1⟩
  go_wp2_with fail
  refine (HQ.out _).mono ?_
  rintro e w2 ⟨rfl, rfl⟩
  go_wp2_with fail
  go_ret2
  exact ⟨rfl, hb1.alloc hb1.size _⟩

set_option maxHeartbeats 2000000 in
theorem Drop_right (v : Value) (zs : List Rn) (p n : Int) (w : World) (hn : 0 ≤ n ∧ n ≤ 4294967295) (h : Sl w w.heap.size v zs) (hx : rightB zs = true) (hy : rrB ⟨p, n, n⟩ = true) :
    Calls Try.prog 9 #[v, .int .u8 p, .int .u32 n] w (ResPost w (lim (dropL zs p n))) := by
  have h64 : zs.length ≤ 64 := by simp [rightB] at hx; exact hx.1
  have hr := Right_any w v zs h
  rw [hx] at hr
  have HR := Lib.hid hr; clear hr hx
  have hq := fun W => rightRun_any p n n W
  rw [hy] at hq
  have HQ := Lib.hid hq; clear hq hy
  obtain ⟨A, c, rfl, _, hok, hA⟩ := h
  have HA := Lib.hid hA; clear hA
  have HK := Lib.hid hok; clear hok
  obtain ⟨n1, n2⟩ := hn
  generalize hL : lim (dropL zs p n) = L
  have HL := Lib.hid hL; clear hL
  go_enter Try.func9, Try.ntmps9
  go_wp2_with fail
  refine (HR.out).mono ?_
  rintro e w1 ⟨rfl, hb1⟩
  go_wp2_with fail
  refine (HQ.out _).mono ?_
  rintro e w2 ⟨rfl, rfl⟩
  go_wp2_with fail
  go_loopw [8, 25] (fun s i wr => ∃ k : Nat, i = .int .i64 k ∧ k ≤ zs.length ∧ DropRel w (dropL (zs.take k) p n) s wr) (fun _ i _ => zs.length - (intOf i).toNat)
  case atStart => exact ⟨0, rfl, by omega, Own.nil _ _, hb1.alloc hb1.size _⟩
  case round =>
    obtain ⟨k, rfl, hk, H⟩ := hrel
    by_cases hlt : k < zs.length
    · obtain ⟨b, off, rfl, hbw, hc⟩ := HA.out (by intro h; simp [h] at hlt)
      have hxk : zs[k]? = some zs[k] := List.getElem?_eq_getElem hlt
      generalize zs[k] = x at hxk
      have hxo := HK.out x (List.mem_of_getElem? hxk)
      have hdl := dropL_len (zs.take k) p n
      have hdt := dropL_take p n hxk
      rw [List.length_take] at hdl
      have hdl' : (dropL (zs.take k) p n).length ≤ 128 := by omega
      clear hdl
      obtain ⟨c0, c1, c2⟩ := (hc k x hxk).keep H.2 hbw
      clear hc
      have HX := Lib.hid hxk; clear hxk
      have HO := Lib.hid hxo; clear hxo
      have HT := Lib.hid hdt; clear hdt
      have H0 := Lib.hid H
      have ho := H.1
      have hsz := H.2.size
      clear H
      generalize hY : dropL (zs.take k) p n = Y at hdl' ho HT H0
      clear hY
      by_cases hcv : covB x p n = true
      · have hq := fun W => covers_any x.r x.lo x.hi p n W
        rw [show covB ⟨x.r, x.lo, x.hi⟩ p n = true from hcv] at hq
        have HC := Lib.hid hq; clear hq
        have HV := Lib.hid hcv; clear hcv
        go_wp2_with fail
        refine (HC.out _).mono ?_
        rintro e w3 ⟨rfl, rfl⟩
        go_wp2_with fail
        refine (around_any x.r x.lo x.hi n _ HO.out.1 HO.out.2.1 HO.out.2.2 ⟨n1, n2⟩).mono ?_
        rintro e w4 ⟨v4, rfl, ho4, hb4⟩
        have hown := ((ho.alloc (.cells #[.int .u8 x.r, .int .u32 x.lo, .int .u32 x.hi] 55)).alloc (.cells #[.int .u8 x.r, .int .u32 x.lo, .int .u32 x.hi] 55)).below hb4
        have hsl := ho4.sl (arL_ok HO.out ⟨n1, n2⟩)
        have hal := arL_len x n
        have hbx : Below wr.heap.size wr w4 := (((Below.refl _ wr).alloc (Nat.le_refl _) _).alloc (by simp) _).trans (hb4.mono (by simp; omega))
        have hsx := hbx.size
        have HBX := Lib.hid hbx; clear hbx
        clear ho4 hb4
        go_wp2_with (at_builtin; (refine append_runs rfl _ _ rfl w.heap.size _ Y rfl hown _ _ (arL x n) rfl hsl (by omega) (by omega) ?_); intro v1 w5 ho1 hg1)
        go_roundw
        case rel =>
          refine ⟨k + 1, by go_num, by omega, ?_⟩
          rw [HT.out, if_pos HV.out]
          exact H0.out.step HBX.out hg1 ho1
        case measure => simp [intOf]; omega
      · have hcv : covB x p n = false := by simpa using hcv
        have hq := fun W => covers_any x.r x.lo x.hi p n W
        rw [show covB ⟨x.r, x.lo, x.hi⟩ p n = false from hcv] at hq
        have HC := Lib.hid hq; clear hq
        have HV := Lib.hid hcv; clear hcv
        go_wp2_with fail
        refine (HC.out _).mono ?_
        rintro e w3 ⟨rfl, rfl⟩
        go_wp2_with (at_builtin; (refine append_runs rfl _ _ rfl w.heap.size _ Y rfl (((ho.alloc _).alloc _).alloc _) _ _ [⟨x.r, x.lo, x.hi⟩] rfl (one_sl _ _ x.r x.lo x.hi (by simp) HO.out) (by simp; omega) (by simp; omega) ?_); intro v1 w5 ho1 hg1)
        go_roundw
        case rel =>
          refine ⟨k + 1, by go_num, by omega, ?_⟩
          rw [HT.out, if_neg (by rw [HV.out]; simp)]
          exact H0.out.step ((((Below.refl _ wr).alloc (Nat.le_refl _) _).alloc (by simp) _).alloc (by simp; omega) _) hg1 ho1
        case measure => simp [intOf]; omega
    · have hkk : k = zs.length := by omega
      have ht : zs.take k = zs := List.take_of_length_le (by omega)
      rw [ht] at H
      have hdl := dropL_len zs p n
      have hw := within_any _ _ _ w _ H.1 (dropL_ok HK.out ⟨n1, n2⟩) (by omega) H.2
      rw [HL.out] at hw
      have HW := Lib.hid hw; clear hw hdl ht hkk H
      go_wp2_with fail
      refine (HW.out).mono ?_
      cases L with
      | ok l =>
        rintro e w9 ⟨v9, rfl, hv9, hb9⟩
        have H9 := Lib.hid hv9; clear hv9
        go_wp2_with fail
        go_ret2
        exact ⟨v9, rfl, H9.out, hb9⟩
      | error cc =>
        rintro e w9 ⟨rfl, hb9⟩
        go_wp2_with fail
        go_ret2
        exact ⟨rfl, hb9⟩

theorem Drop_any (v : Value) (zs : List Rn) (p n : Int) (w : World) (hn : 0 ≤ n ∧ n ≤ 4294967295) (h : Sl w w.heap.size v zs) :
    Calls Try.prog 9 #[v, .int .u8 p, .int .u32 n] w (ResPost w (dropR zs p n)) := by
  unfold dropR
  by_cases hx : rightB zs = true
  · by_cases hy : rrB ⟨p, n, n⟩ = true
    · rw [if_pos ⟨hx, hy⟩]; exact Drop_right v zs p n w hn h hx hy
    · rw [if_neg (fun h => hy h.2)]; exact Drop_wrong2 v zs p n w h hx (by simpa using hy)
  · rw [if_neg (fun h => hx h.1)]; exact Drop_wrong1 v zs p n w h (by simpa using hx)
end Go.Proofs.Ytfjaeohfigcciaa

