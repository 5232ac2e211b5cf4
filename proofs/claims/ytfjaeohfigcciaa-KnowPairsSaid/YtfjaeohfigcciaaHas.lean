/- The contract of know.Has: a pair is in a set just where the runs are right and one of them covers it. -/
import Derived.Test.YtfjaeohfigcciaaRight
import Derived.Test.YtfjaeohfigcciaaLays
namespace Go.Proofs.Ytfjaeohfigcciaa
open Go.RowKit Go.Sort Go.Shelf

def hasB (zs : List Rn) (p n : Int) : Bool := rightB zs && zs.any (covB · p n)

set_option maxHeartbeats 400000 in
theorem IndexFunc_none (A : Option Addr) (c : Nat) (f : Value) (w : World) :
    Calls Try.prog 49 #[.slice A 0 c, f] w fun e w' => e = .returned (.int .i64 (-1)) ∧ w' = w := by
  go_enter Try.func49, Try.ntmps49
  go_wp2
  refine wp_loop_rounds 1 ?_
  rw [rounds_succ]
  go_wp2
  go_ret
  exact ⟨rfl, rfl⟩
set_option maxHeartbeats 400000 in
theorem ContainsFunc_none (A : Option Addr) (c : Nat) (f : Value) (w : World) :
    Calls Try.prog 36 #[.slice A 0 c, f] w fun e w' => e = .returned (.bool false) ∧ w' = w := by
  go_enter Try.func36, Try.ntmps36
  go_wp2_with (go_at_call 49; refine (IndexFunc_none _ _ _ _).mono ?_; rintro e w' ⟨rfl, rfl⟩)
  go_ret
  exact ⟨rfl, rfl⟩

set_option maxHeartbeats 400000 in
theorem HasC_pred (p n : Int) (B1 B2 : Nat) (w : World) (h1 : B1 < w.heap.size) (h2 : B2 < w.heap.size) (c1 : w.cell? ⟨B1, 0, none⟩ = some (.int .u8 p)) (c2 : w.cell? ⟨B2, 0, none⟩ = some (.int .u32 n)) :
    PredBelow Try.prog 37 #[.pointer (some ⟨B1, 0, none⟩), .pointer (some ⟨B2, 0, none⟩)] (fun x : Rn => .agg x.enc.toArray) (fun x => covB x p n) w := fun W x hb => by
  have d1 : W.cell? ⟨B1, 0, none⟩ = some (.int .u8 p) := (hb.cell (p := ⟨B1, 0, none⟩) h1).trans c1
  have d2 : W.cell? ⟨B2, 0, none⟩ = some (.int .u32 n) := (hb.cell (p := ⟨B2, 0, none⟩) h2).trans c2
  have s1 : B1 < W.heap.size := Nat.lt_of_lt_of_le h1 hb.size
  have s2 : B2 < W.heap.size := Nat.lt_of_lt_of_le h2 hb.size
  have con := fun W' => covers_any x.r x.lo x.hi p n W'
  rw [show covB ⟨x.r, x.lo, x.hi⟩ p n = covB x p n from rfl] at con
  show Calls Try.prog 37 #[.agg #[.int .u8 x.r, .int .u32 x.lo, .int .u32 x.hi], .pointer (some ⟨B1, 0, none⟩), .pointer (some ⟨B2, 0, none⟩)] W fun e w' => e = .returned (.bool (covB x p n)) ∧ Below w.heap.size w w'
  generalize covB x p n = q at con ⊢
  clear c1 c2
  have n1 : B1 ≠ W.heap.size := by omega
  have n2 : B2 ≠ W.heap.size := by omega
  go_enter Try.func37, Try.ntmps37
  go_wp2_with (go_at_call 30; refine (con _).mono ?_; rintro e w' ⟨rfl, rfl⟩)
  go_ret
  exact ⟨rfl, (hb.alloc hb.size _).alloc (by simp; have := hb.size; omega) _⟩

theorem Sl.alloc {w : World} {B : Nat} {v : Value} {zs : List Rn} (h : Sl w B v zs) (hB : B ≤ w.heap.size) (o : Obj) : Sl (w.alloc o) B v zs := h.below ((Below.refl B w).alloc hB o)

/-- slices.ContainsFunc with know.Has's closure, whatever the slice -/
theorem Contains_any (p n : Int) (B1 B2 : Nat) (v : Value) (zs : List Rn) (w : World) (h : Sl w w.heap.size v zs) (h64 : zs.length ≤ 64) (h1 : B1 < w.heap.size) (h2 : B2 < w.heap.size) (c1 : w.cell? ⟨B1, 0, none⟩ = some (.int .u8 p)) (c2 : w.cell? ⟨B2, 0, none⟩ = some (.int .u32 n)) :
    Calls Try.prog 36 #[v, .func (.func 37) #[] #[.pointer (some ⟨B1, 0, none⟩), .pointer (some ⟨B2, 0, none⟩)]] w fun e w' => e = .returned (.bool (zs.any (covB · p n))) ∧ Below w.heap.size w w' := by
  obtain ⟨A, c, rfl, _, hok, hA⟩ := h
  rcases zs with _ | ⟨x0, zs⟩
  · exact (ContainsFunc_none A c _ w).mono fun e w' ⟨he, hw⟩ => ⟨he, by subst hw; exact Below.refl _ _⟩
  · obtain ⟨b, off, rfl, hb, hc⟩ := hA (by simp)
    have eg : ∀ args w, (callFunc 37 args).run Try.prog w = .ok (.enter 37 args) w := enters_of Try.func37 (by kernel_rfl) rfl
    have hcon := AnyQ.slices_ContainsFunc Try.lContains 3 Try.isAgg55 Try.sizeOf55 Rn.enc (fun _ => rfl) (fun x => covB x p n) 37 _ eg b off (x0 :: zs).length c (x0 :: zs) w
      (HasC_pred p n B1 B2 w h1 h2 c1 c2) (Nat.le_refl _) (by omega) hb (fun j hj i u hi => by
        have hat := hc j _ (List.getElem?_eq_getElem hj)
        have hg : (x0 :: zs)[j]! = (x0 :: zs)[j] := by simp [List.getElem!_eq_getElem?_getD, List.getElem?_eq_getElem hj]
        rw [hg] at hi
        generalize (x0 :: zs)[j] = y at hi hat
        obtain ⟨q0, q1, q2⟩ := hat
        match i, hi with
        | 0, hi => simp [Rn.enc] at hi; rw [← hi]; exact q0
        | 1, hi => simp [Rn.enc] at hi; rw [← hi]; exact q1
        | 2, hi => simp [Rn.enc] at hi; rw [← hi]; exact q2
        | i + 3, hi => simp [Rn.enc] at hi)
    rw [List.take_length] at hcon
    exact hcon

set_option maxHeartbeats 1000000 in
theorem Has_any (p n : Int) (v : Value) (zs : List Rn) (w : World) (h : Sl w w.heap.size v zs) :
    Calls Try.prog 12 #[v, .int .u8 p, .int .u32 n] w fun e w' => e = .returned (.bool (hasB zs p n)) ∧ Below w.heap.size w w' := by
  have hr := Right_any ((w.alloc (.cells #[.int .u8 p] 5)).alloc (.cells #[.int .u32 n] 23)) v zs (((h.alloc (Nat.le_refl _) _).alloc (by simp) _).more (by simp; omega))
  have hcs : Below w.heap.size w ((w.alloc (.cells #[.int .u8 p] 5)).alloc (.cells #[.int .u32 n] 23)) := ((Below.refl _ w).alloc (Nat.le_refl _) _).alloc (by simp) _
  have hk := fun w' (hb : Below ((w.alloc (.cells #[.int .u8 p] 5)).alloc (.cells #[.int .u32 n] 23)).heap.size ((w.alloc (.cells #[.int .u8 p] 5)).alloc (.cells #[.int .u32 n] 23)) w') (h64 : zs.length ≤ 64) =>
    Contains_any p n w.heap.size (w.heap.size + 1) v zs w' ((h.below (hcs.trans (hb.mono (by simp; omega)))).more (by have := hb.size; simp at this; omega)) h64 (by have := hb.size; simp at this; omega) (by have := hb.size; simp at this; omega)
      ((hb.cell (p := ⟨w.heap.size, 0, none⟩) (by simp; omega)).trans (by simp)) ((hb.cell (p := ⟨w.heap.size + 1, 0, none⟩) (by simp)).trans (by simp))
  have hback := fun w' (hb : Below ((w.alloc (.cells #[.int .u8 p] 5)).alloc (.cells #[.int .u32 n] 23)).heap.size ((w.alloc (.cells #[.int .u8 p] 5)).alloc (.cells #[.int .u32 n] 23)) w') => hcs.trans (hb.mono (by simp; omega))
  have HR := Lib.hid hr; clear hr
  have HK := Lib.hid hk; clear hk
  have HB := Lib.hid hback; clear hback
  clear hcs h
  by_cases hx : rightB zs = true
  · have h64 : zs.length ≤ 64 := by simp [rightB] at hx; exact hx.1
    have e : hasB zs p n = zs.any (covB · p n) := by simp [hasB, hx]
    rw [e]; clear e
    have hr := HR.out
    rw [hx] at hr
    have HR := Lib.hid hr; clear hr hx
    generalize zs.any (covB · p n) = q at HK ⊢
    go_enter Try.func12, Try.ntmps12
    go_wp2_with fail
    refine (HR.out).mono ?_
    rintro e w1 ⟨rfl, hb1⟩
    go_wp2_with fail
    refine (HK.out w1 hb1 h64).mono ?_
    rintro e w2 ⟨rfl, hb2⟩
    go_wp2_with fail
    go_ret
    exact ⟨rfl, (HB.out w1 hb1).trans (hb2.mono (by have := hb1.size; simp at this; omega))⟩
  · have hx : rightB zs = false := by simpa using hx
    have e : hasB zs p n = false := by simp [hasB, hx]
    rw [e]; clear e
    have hr := HR.out
    rw [hx] at hr
    have HR := Lib.hid hr; clear hr hx
    go_enter Try.func12, Try.ntmps12
    go_wp2_with fail
    refine (HR.out).mono ?_
    rintro e w1 ⟨rfl, hb1⟩
    go_wp2_with fail
    go_ret
    exact ⟨rfl, HB.out w1 hb1⟩

end Go.Proofs.Ytfjaeohfigcciaa

