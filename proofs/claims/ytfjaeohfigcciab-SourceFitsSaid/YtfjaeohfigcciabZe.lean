/- Texts in one: Has, RApp, App, Around, Drop, Join, Math. -/
import Derived.Test.YtfjaeohfigcciabZb
import Derived.Test.YtfjaeohfigcciabLays
import Derived.Test.YtfjaeohfigcciabRows
import Derived.WalkKit
import Derived.Laws.AppendOwnNone
import Derived.Lib.Hide
import Derived.Deep.DeepCutAuto
import Derived.RegionTactic
import Derived.BigRegion
/- The contract of know.Has: a pair is in a set just where the runs are right and one of them covers it. -/
namespace Go.Proofs.Ytfjaeohfigcciab
open Go.RowKit Go.Sort Go.Shelf

def hasB (zs : List Rn) (p n : Int) : Bool := rightB zs && zs.any (covB · p n)

set_option maxHeartbeats 400000 in
theorem IndexFunc_none (A : Option Addr) (c : Nat) (f : Value) (w : World) :
    Calls Try.prog 52 #[.slice A 0 c, f] w fun e w' => e = .returned (.int .i64 (-1)) ∧ w' = w := by
  go_enter Try.func52, Try.ntmps52
  go_wp2
  refine wp_loop_rounds 1 ?_
  rw [rounds_succ]
  go_wp2
  go_ret
  exact ⟨rfl, rfl⟩
set_option maxHeartbeats 400000 in
theorem ContainsFunc_none (A : Option Addr) (c : Nat) (f : Value) (w : World) :
    Calls Try.prog 45 #[.slice A 0 c, f] w fun e w' => e = .returned (.bool false) ∧ w' = w := by
  go_enter Try.func45, Try.ntmps45
  go_wp2_with (go_at_call 52; refine (IndexFunc_none _ _ _ _).mono ?_; rintro e w' ⟨rfl, rfl⟩)
  go_ret
  exact ⟨rfl, rfl⟩

set_option maxHeartbeats 400000 in
theorem HasC_pred (p n : Int) (B1 B2 : Nat) (w : World) (h1 : B1 < w.heap.size) (h2 : B2 < w.heap.size) (c1 : w.cell? ⟨B1, 0, none⟩ = some (.int .u8 p)) (c2 : w.cell? ⟨B2, 0, none⟩ = some (.int .u32 n)) :
    PredBelow Try.prog 50 #[.pointer (some ⟨B1, 0, none⟩), .pointer (some ⟨B2, 0, none⟩)] (fun x : Rn => .agg x.enc.toArray) (fun x => covB x p n) w := fun W x hb => by
  have d1 : W.cell? ⟨B1, 0, none⟩ = some (.int .u8 p) := (hb.cell (p := ⟨B1, 0, none⟩) h1).trans c1
  have d2 : W.cell? ⟨B2, 0, none⟩ = some (.int .u32 n) := (hb.cell (p := ⟨B2, 0, none⟩) h2).trans c2
  have s1 : B1 < W.heap.size := Nat.lt_of_lt_of_le h1 hb.size
  have s2 : B2 < W.heap.size := Nat.lt_of_lt_of_le h2 hb.size
  have con := fun W' => covers_any x.r x.lo x.hi p n W'
  rw [show covB ⟨x.r, x.lo, x.hi⟩ p n = covB x p n from rfl] at con
  show Calls Try.prog 50 #[.agg #[.int .u8 x.r, .int .u32 x.lo, .int .u32 x.hi], .pointer (some ⟨B1, 0, none⟩), .pointer (some ⟨B2, 0, none⟩)] W fun e w' => e = .returned (.bool (covB x p n)) ∧ Below w.heap.size w w'
  generalize covB x p n = q at con ⊢
  clear c1 c2
  have n1 : B1 ≠ W.heap.size := by omega
  have n2 : B2 ≠ W.heap.size := by omega
  go_enter Try.func50, Try.ntmps50
  go_wp2_with (go_at_call 38; refine (con _).mono ?_; rintro e w' ⟨rfl, rfl⟩)
  go_ret
  exact ⟨rfl, (hb.alloc hb.size _).alloc (by simp; have := hb.size; omega) _⟩

theorem Sl.alloc {w : World} {B : Nat} {v : Value} {zs : List Rn} (h : Sl w B v zs) (hB : B ≤ w.heap.size) (o : Obj) : Sl (w.alloc o) B v zs := h.below ((Below.refl B w).alloc hB o)

/-- slices.ContainsFunc with know.Has's closure, whatever the slice -/
theorem Contains_any (p n : Int) (B1 B2 : Nat) (v : Value) (zs : List Rn) (w : World) (h : Sl w w.heap.size v zs) (h64 : zs.length ≤ 64) (h1 : B1 < w.heap.size) (h2 : B2 < w.heap.size) (c1 : w.cell? ⟨B1, 0, none⟩ = some (.int .u8 p)) (c2 : w.cell? ⟨B2, 0, none⟩ = some (.int .u32 n)) :
    Calls Try.prog 45 #[v, .func (.func 50) #[] #[.pointer (some ⟨B1, 0, none⟩), .pointer (some ⟨B2, 0, none⟩)]] w fun e w' => e = .returned (.bool (zs.any (covB · p n))) ∧ Below w.heap.size w w' := by
  obtain ⟨A, c, rfl, _, hok, hA⟩ := h
  rcases zs with _ | ⟨x0, zs⟩
  · exact (ContainsFunc_none A c _ w).mono fun e w' ⟨he, hw⟩ => ⟨he, by subst hw; exact Below.refl _ _⟩
  · obtain ⟨b, off, rfl, hb, hc⟩ := hA (by simp)
    have eg : ∀ args w, (callFunc 50 args).run Try.prog w = .ok (.enter 50 args) w := enters_of Try.func50 (by kernel_rfl) rfl
    have hcon := AnyQ.slices_ContainsFunc Try.lContains 3 Try.isAgg49 Try.sizeOf49 Rn.enc (fun _ => rfl) (fun x => covB x p n) 50 _ eg b off (x0 :: zs).length c (x0 :: zs) w
      (HasC_pred p n B1 B2 w h1 h2 c1 c2) (Nat.le_refl _) (by omega) hb (fun j hj i u hi => by
        have hat := hc j _ (List.getElem?_eq_getElem hj)
        have hg : (x0 :: zs)[j]! = (x0 :: zs)[j] := by simp [List.getElem!_eq_getElem?_getD, List.getElem?_eq_getElem hj]
        rw [hg] at hi
        generalize (x0 :: zs)[j] = y at hi hat
        obtain ⟨q0, q1, q2⟩ := hat
        match i, hi with
        | 0, hi => simp [Rn.enc] at hi; rw [← hi]; exact q0
        | 1, hi => simp [Rn.enc] at hi; rw [← hi]; exact q1
        | 2, hi => simp [Rn.enc] at hi; rw [← hi]; exact q2
        | i + 3, hi => simp [Rn.enc] at hi)
    rw [List.take_length] at hcon
    exact hcon

set_option maxHeartbeats 1000000 in
theorem Has_any (p n : Int) (v : Value) (zs : List Rn) (w : World) (h : Sl w w.heap.size v zs) :
    Calls Try.prog 41 #[v, .int .u8 p, .int .u32 n] w fun e w' => e = .returned (.bool (hasB zs p n)) ∧ Below w.heap.size w w' := by
  have hr := Right_any ((w.alloc (.cells #[.int .u8 p] 5)).alloc (.cells #[.int .u32 n] 22)) v zs (((h.alloc (Nat.le_refl _) _).alloc (by simp) _).more (by simp; omega))
  have hcs : Below w.heap.size w ((w.alloc (.cells #[.int .u8 p] 5)).alloc (.cells #[.int .u32 n] 22)) := ((Below.refl _ w).alloc (Nat.le_refl _) _).alloc (by simp) _
  have hk := fun w' (hb : Below ((w.alloc (.cells #[.int .u8 p] 5)).alloc (.cells #[.int .u32 n] 22)).heap.size ((w.alloc (.cells #[.int .u8 p] 5)).alloc (.cells #[.int .u32 n] 22)) w') (h64 : zs.length ≤ 64) =>
    Contains_any p n w.heap.size (w.heap.size + 1) v zs w' ((h.below (hcs.trans (hb.mono (by simp; omega)))).more (by have := hb.size; simp at this; omega)) h64 (by have := hb.size; simp at this; omega) (by have := hb.size; simp at this; omega)
      ((hb.cell (p := ⟨w.heap.size, 0, none⟩) (by simp; omega)).trans (by simp)) ((hb.cell (p := ⟨w.heap.size + 1, 0, none⟩) (by simp)).trans (by simp))
  have hback := fun w' (hb : Below ((w.alloc (.cells #[.int .u8 p] 5)).alloc (.cells #[.int .u32 n] 22)).heap.size ((w.alloc (.cells #[.int .u8 p] 5)).alloc (.cells #[.int .u32 n] 22)) w') => hcs.trans (hb.mono (by simp; omega))
  have HR := Lib.hid hr; clear hr
  have HK := Lib.hid hk; clear hk
  have HB := Lib.hid hback; clear hback
  clear hcs h
  by_cases hx : rightB zs = true
  · have h64 : zs.length ≤ 64 := by simp [rightB] at hx; exact hx.1
    have e : hasB zs p n = zs.any (covB · p n) := by simp [hasB, hx]
    rw [e]; clear e
    have hr := HR.out
    rw [hx] at hr
    have HR := Lib.hid hr; clear hr hx
    generalize zs.any (covB · p n) = q at HK ⊢
    go_enter Try.func41, Try.ntmps41
    go_wp2_with fail
    refine (HR.out).mono ?_
    rintro e w1 ⟨rfl, hb1⟩
    go_wp2_with fail
    refine (HK.out w1 hb1 h64).mono ?_
    rintro e w2 ⟨rfl, hb2⟩
    go_wp2_with fail
    go_ret
    exact ⟨rfl, (HB.out w1 hb1).trans (hb2.mono (by have := hb1.size; simp at this; omega))⟩
  · have hx : rightB zs = false := by simpa using hx
    have e : hasB zs p n = false := by simp [hasB, hx]
    rw [e]; clear e
    have hr := HR.out
    rw [hx] at hr
    have HR := Lib.hid hr; clear hr hx
    go_enter Try.func41, Try.ntmps41
    go_wp2_with fail
    refine (HR.out).mono ?_
    rintro e w1 ⟨rfl, hb1⟩
    go_wp2_with fail
    go_ret
    exact ⟨rfl, HB.out w1 hb1⟩

end Go.Proofs.Ytfjaeohfigcciab

/- append onto a slice of runs that is the call's own; a block that grew. -/
namespace Go.Proofs.Ytfjaeohfigcciab
open Go.RowKit Go.Sort

theorem infoRun : (Try.prog.info? 49).map (fun i => (i.zero, i.size, i.bytes)) = some (some (.agg #[.int .u8 0, .int .u32 0, .int .u32 0]), 3, 12) := by kernel_rfl

/-- append of runs, from whatever slice of runs -/
theorem append_runs {ops : Array Oper} {rest : List Oper} {o : Oper} {a : Act} {w : World} {Q : Exit → Act → World → Prop} (hgd : o.guard = none) (s x : Operand)
    (ho : o.op = .call { callee := .builtin .append, args := #[s, x], argTypes := #[23, 23] })
    (base : Nat) (v : Value) (zs : List Rn) (hs : a.eval s = v) (hown : Own w base v zs) (B : Nat) (v2 : Value) (ys : List Rn) (hx : a.eval x = v2) (hsl : Sl w B v2 ys)
    (hlen : zs.length + ys.length ≤ 10000) (hbase : base ≤ w.heap.size)
    (h : ∀ v' w', Own w' base v' (zs ++ ys) → w.grownBy w' v.ownBlock → wpList Try.prog ops Q rest (a.put o.dst v') w') : wpList Try.prog ops Q (o :: rest) a w := by
  obtain ⟨i0, hi, hz0, hz1, hz2⟩ := info_parts infoRun
  obtain ⟨A, c, rfl, hn, hok, hA⟩ := hsl
  rcases A with _ | ad
  · have hy : ys = [] := by
      by_cases hne : ys = []
      · exact hne
      · obtain ⟨b, off, h, _⟩ := hA hne
        cases h
    subst hy
    obtain rfl := hn rfl
    refine wpList_append_own_none hgd s x 23 ho base 49 i0 3 Try.underlying23 hi v zs.length (flat zs) hs hown hx ?_
    have := h v w (by simpa using hown) ⟨rfl, rfl, rfl, Nat.le_refl _, fun _ _ _ => rfl⟩
    exact this
  · refine wpList_append_own w hgd s x 23 ho base 49 i0 _ 3 12 Try.underlying23 hi hz0 hz1 hz2 rfl (by decide) v zs.length (flat zs) hs hown ad ys.length c (flat ys) hx (flat_length ys) ?_ (flat_one_cell ys) (by unfold maxLen; omega) (by omega) hbase ?_
    · intro j u hu
      have hjl : j < ys.length * 3 := by
        have := (List.getElem?_eq_some_iff.1 hu).1
        rw [flat_length] at this
        exact this
      have hne : ys ≠ [] := by rintro rfl; simp at hjl
      obtain ⟨b, off, hbo, _, hc⟩ := hA hne
      cases hbo
      have hj3 : j / 3 < ys.length := by omega
      have hg := flat_get ys (j / 3) (j % 3) ys[j / 3] (List.getElem?_eq_getElem hj3) (by omega)
      rw [show j / 3 * 3 + j % 3 = j by omega, hu] at hg
      obtain ⟨q0, q1, q2⟩ := hc (j / 3) _ (List.getElem?_eq_getElem hj3)
      generalize ys[j / 3] = y at hg q0 q1 q2
      have e : ∀ m, (⟨b, off, none⟩ : Addr).add m = ⟨b, off + m, none⟩ := fun m => by unfold Addr.add; split <;> simp_all
      rw [e]
      have h3 : j % 3 = 0 ∨ j % 3 = 1 ∨ j % 3 = 2 := by omega
      rcases h3 with h3 | h3 | h3
      · rw [h3] at hg; simp [Rn.enc] at hg; subst hg
        rw [show off + j = off + j / 3 * 3 by omega]; exact q0
      · rw [h3] at hg; simp [Rn.enc] at hg; subst hg
        rw [show off + j = off + j / 3 * 3 + 1 by omega]; exact q1
      · rw [h3] at hg; simp [Rn.enc] at hg; subst hg
        rw [show off + j = off + j / 3 * 3 + 2 by omega]; exact q2
    · intro v' w' h1 h2 _
      refine h v' w' ?_ h2
      unfold Own
      rw [flat_append, List.length_append]
      exact h1

/-- a slice of one run, just built -/
theorem one_sl (w : World) (g : Nat) (r lo hi : Int) (hg : g = w.heap.size) (hx : Rn.ok ⟨r, lo, hi⟩) : Sl (w.alloc (.cells #[.int .u8 r, .int .u32 lo, .int .u32 hi] 49)) (g + 1) (.slice (some ⟨g, 0, none⟩) 1 1) [⟨r, lo, hi⟩] := by
  subst hg
  refine ⟨some ⟨w.heap.size, 0, none⟩, 1, rfl, (fun h => by simp at h), by simpa using hx, fun _ => ⟨w.heap.size, 0, rfl, by omega, fun j y hj => ?_⟩⟩
  match j, hj with
  | 0, hj => simp at hj; subst hj; exact ⟨by simp, by simp, by simp⟩
  | j + 1, hj => simp at hj

end Go.Proofs.Ytfjaeohfigcciab

/- append onto a slice of the call's own, and the contracts of know.withinLimit and know.around. -/
namespace Go.Proofs.Ytfjaeohfigcciab
open Go.RowKit Go.Sort

set_option maxHeartbeats 400000 in
theorem within_yes (A : Option Addr) (n c : Nat) (w : World) (h : n ≤ 64) :
    Calls Try.prog 40 #[.slice A n c] w fun e w' => e = .returned (.tuple #[.slice A n c, .nilIface]) ∧ w' = w := by
  go_enter Try.func40, Try.ntmps40
  go_wp2
  go_ret2
  exact ⟨rfl, rfl⟩
set_option maxHeartbeats 400000 in
theorem within_no (A : Option Addr) (n c : Nat) (w : World) (h : 64 < n) (hn : n ≤ 1000) :
    Calls Try.prog 40 #[.slice A n c] w fun e w' => e = .returned (.tuple #[.slice none 0 0, .iface 60 (.int .i64 5)]) ∧ w' = w := by
  go_enter Try.func40, Try.ntmps40
  go_wp2
  go_ret2
  exact ⟨rfl, rfl⟩
end Go.Proofs.Ytfjaeohfigcciab

/- The contract of know.around: what is left of a run if one of its numbers goes. -/
namespace Go.Proofs.Ytfjaeohfigcciab
open Go.RowKit Go.Sort

def arL (x : Rn) (n : Int) : List Rn := (if x.lo < n then [⟨x.r, x.lo, n - 1⟩] else []) ++ (if n < x.hi then [⟨x.r, n + 1, x.hi⟩] else [])

/-- a new slice of the call's own comes back -/
def OwnPost (w : World) (ys : List Rn) (e : Ending) (w' : World) : Prop := ∃ v, e = .returned v ∧ Own w' w.heap.size v ys ∧ Below w.heap.size w w'

theorem grown_below {B : Nat} {a w w' : World} {base : Nat} {v : Value} {zs : List Rn} (h : Below B a w) (ho : Own w base v zs) (hg : w.grownBy w' v.ownBlock) (hB : B ≤ base) (hw : B ≤ w.heap.size) : Below B a w' :=
  h.grown hg hw (fun k hk => by have := (ho.lt k hk).1; omega)
theorem grown_cell {w w' : World} {base : Nat} {v : Value} {zs : List Rn} (ho : Own w base v zs) (hg : w.grownBy w' v.ownBlock) {p : Addr} (hp : p.block < base) (hw : p.block < w.heap.size) : w'.cell? p = w.cell? p :=
  World.cell?_of_block (hg.block p.block hw (fun e => by have := (ho.lt p.block e.symm).1; omega))

/-- where around stands: its own slice so far, the box of its run -/
def ArRel (w : World) (x : Rn) (ys : List Rn) (s : Value) (wx : World) : Prop := Own wx (w.heap.size + 1) s ys ∧ RnAt wx w.heap.size 0 x ∧ Below w.heap.size w wx ∧ w.heap.size + 1 ≤ wx.heap.size

theorem ArRel.step {w : World} {x : Rn} {ys : List Rn} {s s' : Value} {wx wx' : World} {y : Rn} (h : ArRel w x ys s wx) (ob : Obj) (hg : (wx.alloc ob).grownBy wx' s.ownBlock) (ho : Own wx' (w.heap.size + 1) s' (ys ++ [y])) : ArRel w x (ys ++ [y]) s' wx' := by
  obtain ⟨h1, ⟨c0, c1, c2⟩, h3, h4⟩ := h
  have hb : Below w.heap.size w (wx.alloc ob) := h3.alloc (by omega) ob
  have hs : w.heap.size + 1 ≤ (wx.alloc ob).heap.size := by simp; omega
  have hc : ∀ o, wx'.cell? ⟨w.heap.size, o, none⟩ = wx.cell? ⟨w.heap.size, o, none⟩ := fun o =>
    (grown_cell (h1.alloc ob) hg (p := ⟨w.heap.size, o, none⟩) (by simp) (by simp at hs ⊢; omega)).trans (World.cell?_alloc_lt wx ob _ (by simp; omega))
  exact ⟨ho, ⟨(hc _).trans c0, (hc _).trans c1, (hc _).trans c2⟩, grown_below hb (h1.alloc ob) hg (by omega) (by omega), Nat.le_trans hs hg.size⟩

set_option maxHeartbeats 1000000 in
theorem around_any (r lo hi n : Int) (w : World) (hr : 0 ≤ r ∧ r ≤ 255) (hlo : 0 ≤ lo ∧ lo ≤ 4294967295) (hhi : 0 ≤ hi ∧ hi ≤ 4294967295) (hn : 0 ≤ n ∧ n ≤ 4294967295) :
    Calls Try.prog 39 #[.agg #[.int .u8 r, .int .u32 lo, .int .u32 hi], .int .u32 n] w (OwnPost w (arL ⟨r, lo, hi⟩ n)) := by
  obtain ⟨l1, l2⟩ := hlo
  obtain ⟨k1, k2⟩ := hhi
  obtain ⟨n1, n2⟩ := hn
  generalize hL : arL ⟨r, lo, hi⟩ n = L
  have HL := Lib.hid hL; clear hL
  go_enter Try.func39, Try.ntmps39
  go_upto_region 1 with fail
  go_cut [5] (fun s wx => ArRel w ⟨r, lo, hi⟩ [] s wx)
  case first =>
    go_wp2
    go_meet
    case rel => exact ⟨Own.nil _ _, ⟨by simp, by simp, by simp⟩, (Below.refl _ _).alloc (Nat.le_refl _) _, by simp⟩
  case rest =>
    have H0 := Lib.hid hcut
    obtain ⟨ho, ⟨c0, c1, c2⟩, hb, hs⟩ := hcut
    have HB := Lib.hid hb; clear hb
    go_upto_if 9 with fail
    go_cut [5] (fun s wx => ArRel w ⟨r, lo, hi⟩ (if lo < n then [⟨r, lo, n - 1⟩] else []) s wx)
    case first =>
      by_cases h1 : lo < n
      · have o1 : Rn.ok ⟨r, lo, n - 1⟩ := ⟨hr, ⟨l1, l2⟩, by simp; omega, by simp; omega⟩
        go_wp2_with (at_builtin; (refine append_runs rfl _ _ rfl (w.heap.size + 1) _ [] rfl (ho.alloc _) _ _ [⟨r, lo, n - 1⟩] rfl (one_sl _ _ r lo (n - 1) (by simp) o1) (by simp) (by simp; omega) ?_); intro v1 w1 ho1 hg1)
        go_meet
        case rel => rw [if_pos h1]; exact H0.out.step _ hg1 ho1
      · go_wp2
        go_meet
        case rel => rw [if_neg (by omega)]; exact H0.out
    case rest =>
      clear ho c0 c1 c2 hs HB H0
      generalize hM : (if lo < n then [(⟨r, lo, n - 1⟩ : Rn)] else []) = M at hcut
      have hML : M.length ≤ 1 := by rw [← hM]; split <;> simp
      have HM := Lib.hid hM; clear hM
      have H0 := Lib.hid hcut
      obtain ⟨ho, ⟨c0, c1, c2⟩, hb, hs⟩ := hcut
      have HB := Lib.hid hb; clear hb
      by_cases h2 : n < hi
      · have o2 : Rn.ok ⟨r, n + 1, hi⟩ := ⟨hr, by simp; omega, k1, k2⟩
        go_wp2_with (at_builtin; (refine append_runs rfl _ _ rfl (w.heap.size + 1) _ M rfl (ho.alloc _) _ _ [⟨r, n + 1, hi⟩] rfl (one_sl _ _ r (n + 1) hi (by simp) o2) (by simp; omega) (by simp; omega) ?_); intro v1 w1 ho1 hg1)
        go_ret
        obtain ⟨q1, _, q3, q4⟩ := H0.out.step _ hg1 ho1
        refine ⟨v1, rfl, ?_, q3⟩
        rw [← HL.out, arL, HM.out, if_pos h2]
        exact q1.mono (by omega)
      · go_wp2
        go_ret
        refine ⟨_, rfl, ?_, HB.out⟩
        rw [← HL.out, arL, HM.out, if_neg (show ¬ (n < hi) by omega), List.append_nil]
        exact ho.mono (by omega)
end Go.Proofs.Ytfjaeohfigcciab

/- The contract of know.Drop. -/
namespace Go.Proofs.Ytfjaeohfigcciab
open Go.RowKit Go.Sort

def dropL (zs : List Rn) (p n : Int) : List Rn := zs.flatMap fun x => if covB x p n then arL x n else [x]
def lim (l : List Rn) : Except Int (List Rn) := if l.length ≤ 64 then .ok l else .error 5
def dropR (zs : List Rn) (p n : Int) : Except Int (List Rn) := if rightB zs = true ∧ rrB ⟨p, n, n⟩ = true then lim (dropL zs p n) else .error 9

/-- runs, or a code, come back -/
def ResPost (w : World) (res : Except Int (List Rn)) (e : Ending) (w' : World) : Prop :=
  match res with
  | .ok l => ∃ v, e = .returned (.tuple #[v, .nilIface]) ∧ Sl w' w'.heap.size v l ∧ Below w.heap.size w w'
  | .error c => e = .returned (.tuple #[.slice none 0 0, .iface 60 (.int .i64 c)]) ∧ Below w.heap.size w w'

theorem within_any (v : Value) (l : List Rn) (w w0 : World) (base : Nat) (h : Own w base v l) (hok : ∀ x ∈ l, x.ok) (hl : l.length ≤ 1000) (hb : Below w0.heap.size w0 w) :
    Calls Try.prog 40 #[v] w (ResPost w0 (lim l)) := by
  obtain ⟨A, c, rfl, hn, hA⟩ := h.form
  by_cases h64 : l.length ≤ 64
  · refine (within_yes A l.length c w h64).mono fun e w' ⟨he, hw⟩ => ?_
    subst hw
    rw [lim, if_pos h64]
    exact ⟨_, he, h.sl hok, hb⟩
  · refine (within_no A l.length c w (by omega) hl).mono fun e w' ⟨he, hw⟩ => ?_
    subst hw
    rw [lim, if_neg h64]
    exact ⟨he, hb⟩

theorem arL_ok {x : Rn} {n : Int} (hx : x.ok) (hn : 0 ≤ n ∧ n ≤ 4294967295) : ∀ y ∈ arL x n, y.ok := by
  intro y hy
  obtain ⟨h1, h2, h3⟩ := hx
  simp only [arL, List.mem_append] at hy
  rcases hy with hy | hy
  · split at hy
    · simp at hy; subst hy; refine ⟨h1, h2, ?_, ?_⟩ <;> simp <;> omega
    · simp at hy
  · split at hy
    · simp at hy; subst hy; refine ⟨h1, ⟨?_, ?_⟩, h3⟩ <;> simp <;> omega
    · simp at hy
theorem arL_len (x : Rn) (n : Int) : (arL x n).length ≤ 2 := by
  simp only [arL, List.length_append]
  split <;> split <;> simp
theorem dropL_ok {zs : List Rn} {p n : Int} (h : ∀ x ∈ zs, x.ok) (hn : 0 ≤ n ∧ n ≤ 4294967295) : ∀ y ∈ dropL zs p n, y.ok := by
  intro y hy
  simp only [dropL, List.mem_flatMap] at hy
  obtain ⟨x, hx, hy⟩ := hy
  split at hy
  · exact arL_ok (h x hx) hn y hy
  · simp at hy; subst hy; exact h y hx
theorem dropL_len (zs : List Rn) (p n : Int) : (dropL zs p n).length ≤ zs.length * 2 := by
  induction zs with
  | nil => simp [dropL]
  | cons x l ih =>
    simp only [dropL, List.flatMap_cons, List.length_append, List.length_cons] at *
    have := arL_len x n
    split <;> simp_all <;> omega
theorem dropL_take {zs : List Rn} {k : Nat} {x : Rn} (p n : Int) (h : zs[k]? = some x) : dropL (zs.take (k + 1)) p n = dropL (zs.take k) p n ++ (if covB x p n then arL x n else [x]) := by
  obtain ⟨hk, hx⟩ := List.getElem?_eq_some_iff.1 h
  rw [List.take_succ_eq_append_getElem hk, hx]
  simp [dropL]

/-- where Drop's loop stands -/
def DropRel (w : World) (ys : List Rn) (s : Value) (wr : World) : Prop := Own wr w.heap.size s ys ∧ Below w.heap.size w wr

theorem DropRel.step {w wr wx w' : World} {ys zs : List Rn} {s s' : Value} (h : DropRel w ys s wr) (hx : Below wr.heap.size wr wx) (hg : wx.grownBy w' s.ownBlock) (ho : Own w' w.heap.size s' zs) : DropRel w zs s' w' := by
  refine ⟨ho, grown_below (h.2.trans (hx.mono h.2.size)) (h.1.below hx) hg (Nat.le_refl _) (Nat.le_trans h.2.size hx.size)⟩

set_option maxHeartbeats 1000000 in
theorem Drop_wrong1 (v : Value) (zs : List Rn) (p n : Int) (w : World) (h : Sl w w.heap.size v zs) (hx : rightB zs = false) :
    Calls Try.prog 25 #[v, .int .u8 p, .int .u32 n] w (ResPost w (.error 9)) := by
  have hr := Right_any w v zs h
  rw [hx] at hr
  have HR := Lib.hid hr; clear hr hx
  go_enter Try.func25, Try.ntmps25
  go_wp2_with fail
  refine (HR.out).mono ?_
  rintro e w1 ⟨rfl, hb1⟩
  go_wp2_with fail
  go_ret2
  exact ⟨rfl, hb1⟩

set_option maxHeartbeats 1000000 in
theorem Drop_wrong2 (v : Value) (zs : List Rn) (p n : Int) (w : World) (h : Sl w w.heap.size v zs) (hx : rightB zs = true) (hy : rrB ⟨p, n, n⟩ = false) :
    Calls Try.prog 25 #[v, .int .u8 p, .int .u32 n] w (ResPost w (.error 9)) := by
  have hr := Right_any w v zs h
  rw [hx] at hr
  have HR := Lib.hid hr; clear hr hx
  have hq := fun W => rightRun_any p n n W
  rw [hy] at hq
  have HQ := Lib.hid hq; clear hq hy
  go_enter Try.func25, Try.ntmps25
  go_wp2_with fail
  refine (HR.out).mono ?_
  rintro e w1 ⟨rfl, hb1⟩
  go_wp2_with fail
  refine (HQ.out _).mono ?_
  rintro e w2 ⟨rfl, rfl⟩
  go_wp2_with fail
  go_ret2
  exact ⟨rfl, hb1.alloc hb1.size _⟩

set_option maxHeartbeats 2000000 in
theorem Drop_right (v : Value) (zs : List Rn) (p n : Int) (w : World) (hn : 0 ≤ n ∧ n ≤ 4294967295) (h : Sl w w.heap.size v zs) (hx : rightB zs = true) (hy : rrB ⟨p, n, n⟩ = true) :
    Calls Try.prog 25 #[v, .int .u8 p, .int .u32 n] w (ResPost w (lim (dropL zs p n))) := by
  have h64 : zs.length ≤ 64 := by simp [rightB] at hx; exact hx.1
  have hr := Right_any w v zs h
  rw [hx] at hr
  have HR := Lib.hid hr; clear hr hx
  have hq := fun W => rightRun_any p n n W
  rw [hy] at hq
  have HQ := Lib.hid hq; clear hq hy
  obtain ⟨A, c, rfl, _, hok, hA⟩ := h
  have HA := Lib.hid hA; clear hA
  have HK := Lib.hid hok; clear hok
  obtain ⟨n1, n2⟩ := hn
  generalize hL : lim (dropL zs p n) = L
  have HL := Lib.hid hL; clear hL
  go_enter Try.func25, Try.ntmps25
  go_wp2_with fail
  refine (HR.out).mono ?_
  rintro e w1 ⟨rfl, hb1⟩
  go_wp2_with fail
  refine (HQ.out _).mono ?_
  rintro e w2 ⟨rfl, rfl⟩
  go_wp2_with fail
  go_loopw [8, 25] (fun s i wr => ∃ k : Nat, i = .int .i64 k ∧ k ≤ zs.length ∧ DropRel w (dropL (zs.take k) p n) s wr) (fun _ i _ => zs.length - (intOf i).toNat)
  case atStart => exact ⟨0, rfl, by omega, Own.nil _ _, hb1.alloc hb1.size _⟩
  case round =>
    obtain ⟨k, rfl, hk, H⟩ := hrel
    by_cases hlt : k < zs.length
    · obtain ⟨b, off, rfl, hbw, hc⟩ := HA.out (by intro h; simp [h] at hlt)
      have hxk : zs[k]? = some zs[k] := List.getElem?_eq_getElem hlt
      generalize zs[k] = x at hxk
      have hxo := HK.out x (List.mem_of_getElem? hxk)
      have hdl := dropL_len (zs.take k) p n
      have hdt := dropL_take p n hxk
      rw [List.length_take] at hdl
      have hdl' : (dropL (zs.take k) p n).length ≤ 128 := by omega
      clear hdl
      obtain ⟨c0, c1, c2⟩ := (hc k x hxk).keep H.2 hbw
      clear hc
      have HX := Lib.hid hxk; clear hxk
      have HO := Lib.hid hxo; clear hxo
      have HT := Lib.hid hdt; clear hdt
      have H0 := Lib.hid H
      have ho := H.1
      have hsz := H.2.size
      clear H
      generalize hY : dropL (zs.take k) p n = Y at hdl' ho HT H0
      clear hY
      by_cases hcv : covB x p n = true
      · have hq := fun W => covers_any x.r x.lo x.hi p n W
        rw [show covB ⟨x.r, x.lo, x.hi⟩ p n = true from hcv] at hq
        have HC := Lib.hid hq; clear hq
        have HV := Lib.hid hcv; clear hcv
        go_wp2_with fail
        refine (HC.out _).mono ?_
        rintro e w3 ⟨rfl, rfl⟩
        go_wp2_with fail
        refine (around_any x.r x.lo x.hi n _ HO.out.1 HO.out.2.1 HO.out.2.2 ⟨n1, n2⟩).mono ?_
        rintro e w4 ⟨v4, rfl, ho4, hb4⟩
        have hown := ((ho.alloc (.cells #[.int .u8 x.r, .int .u32 x.lo, .int .u32 x.hi] 49)).alloc (.cells #[.int .u8 x.r, .int .u32 x.lo, .int .u32 x.hi] 49)).below hb4
        have hsl := ho4.sl (arL_ok HO.out ⟨n1, n2⟩)
        have hal := arL_len x n
        have hbx : Below wr.heap.size wr w4 := (((Below.refl _ wr).alloc (Nat.le_refl _) _).alloc (by simp) _).trans (hb4.mono (by simp; omega))
        have hsx := hbx.size
        have HBX := Lib.hid hbx; clear hbx
        clear ho4 hb4
        go_wp2_with (at_builtin; (refine append_runs rfl _ _ rfl w.heap.size _ Y rfl hown _ _ (arL x n) rfl hsl (by omega) (by omega) ?_); intro v1 w5 ho1 hg1)
        go_roundw
        case rel =>
          refine ⟨k + 1, by go_num, by omega, ?_⟩
          rw [HT.out, if_pos HV.out]
          exact H0.out.step HBX.out hg1 ho1
        case measure => simp [intOf]; omega
      · have hcv : covB x p n = false := by simpa using hcv
        have hq := fun W => covers_any x.r x.lo x.hi p n W
        rw [show covB ⟨x.r, x.lo, x.hi⟩ p n = false from hcv] at hq
        have HC := Lib.hid hq; clear hq
        have HV := Lib.hid hcv; clear hcv
        go_wp2_with fail
        refine (HC.out _).mono ?_
        rintro e w3 ⟨rfl, rfl⟩
        go_wp2_with (at_builtin; (refine append_runs rfl _ _ rfl w.heap.size _ Y rfl (((ho.alloc _).alloc _).alloc _) _ _ [⟨x.r, x.lo, x.hi⟩] rfl (one_sl _ _ x.r x.lo x.hi (by simp) HO.out) (by simp; omega) (by simp; omega) ?_); intro v1 w5 ho1 hg1)
        go_roundw
        case rel =>
          refine ⟨k + 1, by go_num, by omega, ?_⟩
          rw [HT.out, if_neg (by rw [HV.out]; simp)]
          exact H0.out.step ((((Below.refl _ wr).alloc (Nat.le_refl _) _).alloc (by simp) _).alloc (by simp; omega) _) hg1 ho1
        case measure => simp [intOf]; omega
    · have hkk : k = zs.length := by omega
      have ht : zs.take k = zs := List.take_of_length_le (by omega)
      rw [ht] at H
      have hdl := dropL_len zs p n
      have hw := within_any _ _ _ w _ H.1 (dropL_ok HK.out ⟨n1, n2⟩) (by omega) H.2
      rw [HL.out] at hw
      have HW := Lib.hid hw; clear hw hdl ht hkk H
      go_wp2_with fail
      refine (HW.out).mono ?_
      cases L with
      | ok l =>
        rintro e w9 ⟨v9, rfl, hv9, hb9⟩
        have H9 := Lib.hid hv9; clear hv9
        go_wp2_with fail
        go_ret2
        exact ⟨v9, rfl, H9.out, hb9⟩
      | error cc =>
        rintro e w9 ⟨rfl, hb9⟩
        go_wp2_with fail
        go_ret2
        exact ⟨rfl, hb9⟩

theorem Drop_any (v : Value) (zs : List Rn) (p n : Int) (w : World) (hn : 0 ≤ n ∧ n ≤ 4294967295) (h : Sl w w.heap.size v zs) :
    Calls Try.prog 25 #[v, .int .u8 p, .int .u32 n] w (ResPost w (dropR zs p n)) := by
  unfold dropR
  by_cases hx : rightB zs = true
  · by_cases hy : rrB ⟨p, n, n⟩ = true
    · rw [if_pos ⟨hx, hy⟩]; exact Drop_right v zs p n w hn h hx hy
    · rw [if_neg (fun h => hy h.2)]; exact Drop_wrong2 v zs p n w h hx (by simpa using hy)
  · rw [if_neg (fun h => hx h.1)]; exact Drop_wrong1 v zs p n w h (by simpa using hx)
end Go.Proofs.Ytfjaeohfigcciab

/- The contract of know.joined: runs in order, those that overlap or touch made one. -/
namespace Go.Proofs.Ytfjaeohfigcciab
open Go.RowKit Go.Sort

def joinS (out : List Rn) (x : Rn) : List Rn :=
  match out[out.length - 1]? with
  | none => out ++ [x]
  | some l => if apB l x then out ++ [x] else out.set (out.length - 1) ⟨l.r, l.lo, max l.hi x.hi⟩
def joinL (zs : List Rn) : List Rn := zs.foldl joinS []

theorem joinS_nil (x : Rn) : joinS [] x = [] ++ [x] := rfl
theorem joinS_app {Y : List Rn} {m : Nat} {y x : Rn} (hm : Y.length = m + 1) (hy : Y[m]? = some y) (h : apB y x = true) : joinS Y x = Y ++ [x] := by
  unfold joinS
  rw [show Y[Y.length - 1]? = some y by rw [hm]; exact hy]
  simp only [h, if_true]
theorem joinS_set {Y : List Rn} {m : Nat} {y x : Rn} (hm : Y.length = m + 1) (hy : Y[m]? = some y) (h : apB y x = false) : joinS Y x = Y.set m ⟨y.r, y.lo, max y.hi x.hi⟩ := by
  unfold joinS
  rw [show Y[Y.length - 1]? = some y by rw [hm]; exact hy]
  simp only [h, hm, Nat.add_sub_cancel]
  rfl
theorem joinS_len (Y : List Rn) (x : Rn) : (joinS Y x).length ≤ Y.length + 1 := by
  unfold joinS; split
  · simp
  · split <;> simp
theorem joinS_ok {Y : List Rn} {x : Rn} (h : ∀ y ∈ Y, y.ok) (hx : x.ok) : ∀ y ∈ joinS Y x, y.ok := by
  intro y hy
  unfold joinS at hy
  split at hy
  · simp at hy
    rcases hy with hy | rfl
    · exact h y hy
    · exact hx
  · rename_i l hl
    split at hy
    · simp at hy
      rcases hy with hy | rfl
      · exact h y hy
      · exact hx
    · rcases List.mem_or_eq_of_mem_set hy with hy | rfl
      · exact h y hy
      · obtain ⟨a1, a2, a3⟩ := h l (List.mem_of_getElem? hl)
        obtain ⟨b1, b2, b3⟩ := hx
        refine ⟨a1, a2, ?_, ?_⟩ <;> simp <;> omega
theorem joinL_take {zs : List Rn} {k : Nat} {x : Rn} (h : zs[k]? = some x) : joinL (zs.take (k + 1)) = joinS (joinL (zs.take k)) x := by
  obtain ⟨hk, hx⟩ := List.getElem?_eq_some_iff.1 h
  rw [List.take_succ_eq_append_getElem hk, hx]
  simp [joinL]
theorem foldl_ok (zs : List Rn) : ∀ Y : List Rn, (∀ y ∈ Y, y.ok) → (∀ x ∈ zs, x.ok) → (∀ y ∈ zs.foldl joinS Y, y.ok) ∧ (zs.foldl joinS Y).length ≤ Y.length + zs.length := by
  induction zs with
  | nil => intro Y h _; exact ⟨h, by simp⟩
  | cons x l ih =>
    intro Y h hx
    have := ih (joinS Y x) (joinS_ok h (hx x (by simp))) (fun z hz => hx z (by simp [hz]))
    refine ⟨this.1, ?_⟩
    have h2 := joinS_len Y x
    have h3 := this.2
    simp only [List.foldl_cons, List.length_cons]
    omega
theorem joinL_ok {zs : List Rn} (h : ∀ x ∈ zs, x.ok) : ∀ y ∈ joinL zs, y.ok := (foldl_ok zs [] (by simp) h).1
theorem joinL_len {zs : List Rn} (h : ∀ x ∈ zs, x.ok) : (joinL zs).length ≤ zs.length := by have := (foldl_ok zs [] (by simp) h).2; unfold joinL; simpa using this

theorem Own.form' {w : World} {base : Nat} {v : Value} {zs : List Rn} (h : Own w base v zs) : ∃ A n c, v = .slice A n c ∧ n = zs.length ∧ (A = none → c = 0) ∧ (zs ≠ [] → ∃ g, A = some ⟨g, 0, none⟩ ∧ base ≤ g ∧ g < w.heap.size) := by
  obtain ⟨A, c, h1, h2, h3⟩ := h.form
  exact ⟨A, _, c, h1, rfl, h2, h3⟩

end Go.Proofs.Ytfjaeohfigcciab

/- Runs as sets of pairs: what joining and dropping do to them, and that right runs tell their set in one way only. Plain lists and numbers. -/
namespace Go.Proofs.Ytfjaeohfigcciab

/-- the runs are right, but for how many they are -/
def Good (l : List Rn) : Prop := (∀ x ∈ l, rrB x = true) ∧ l.Pairwise (fun x y => apB x y = true)
def covs (l : List Rn) (p n : Int) : Bool := l.any (covB · p n)

theorem rr_iff (x : Rn) : rrB x = true ↔ x.r < 8 ∧ 1 ≤ x.lo ∧ x.lo ≤ x.hi := by simp [rrB]
theorem ap_iff (x y : Rn) : apB x y = true ↔ x.r < y.r ∨ (x.r = y.r ∧ x.hi + 1 < y.lo) := by simp [apB]
theorem cov_iff (x : Rn) (p n : Int) : covB x p n = true ↔ x.r = p ∧ x.lo ≤ n ∧ n ≤ x.hi := by simp [covB]
theorem covs_iff (l : List Rn) (p n : Int) : covs l p n = true ↔ ∃ x ∈ l, x.r = p ∧ x.lo ≤ n ∧ n ≤ x.hi := by simp [covs, cov_iff]

theorem bang_eq {zs : List Rn} {i : Nat} (h : i < zs.length) : zs[i]! = zs[i] := by simp [List.getElem!_eq_getElem?_getD, List.getElem?_eq_getElem h]

theorem right_iff (zs : List Rn) : rightB zs = true ↔ zs.length ≤ 64 ∧ Good zs := by
  simp only [rightB, Bool.and_eq_true, decide_eq_true_eq, List.all_eq_true, List.mem_range]
  refine and_congr_right fun _ => ?_
  constructor
  · intro h
    have hr : ∀ i (hi : i < zs.length), rrB zs[i] = true := fun i hi => by
      have := h i hi
      simp only [okAt, bang_eq hi, Bool.and_eq_true] at this
      exact this.1
    have hs : ∀ i (hi : i + 1 < zs.length), apB zs[i] zs[i + 1] = true := fun i hi => by
      have := h (i + 1) hi
      simp only [okAt, bang_eq hi, Nat.add_sub_cancel, bang_eq (show i < zs.length by omega), Bool.and_eq_true, Bool.or_eq_true, decide_eq_true_eq] at this
      rcases this.2 with h0 | h0
      · omega
      · exact h0
    refine ⟨fun x hx => ?_, ?_⟩
    · obtain ⟨i, hi, rfl⟩ := List.mem_iff_getElem.1 hx
      exact hr i hi
    · rw [List.pairwise_iff_getElem]
      intro i j hi hj hij
      obtain ⟨d, rfl⟩ : ∃ d, j = i + 1 + d := ⟨j - (i + 1), by omega⟩
      clear hij
      induction d with
      | zero => exact hs i hj
      | succ d ih =>
        have h1 := ih (by omega)
        have h2 := hs (i + 1 + d) (by omega)
        have h3 := hr (i + 1 + d) (by omega)
        rw [ap_iff] at h1 h2 ⊢
        rw [rr_iff] at h3
        simp only [← Nat.add_assoc] at h2 ⊢
        omega
  · rintro ⟨h1, h2⟩ i hi
    simp only [okAt, bang_eq hi, Bool.and_eq_true, Bool.or_eq_true, decide_eq_true_eq]
    refine ⟨h1 _ (List.getElem_mem hi), ?_⟩
    rcases Nat.eq_zero_or_pos i with h0 | h0
    · exact .inl h0
    · right
      rw [bang_eq (show i - 1 < zs.length by omega)]
      exact List.pairwise_iff_getElem.1 h2 (i - 1) i (by omega) hi (by omega)

theorem covs_cons (x : Rn) (l : List Rn) (p n : Int) : covs (x :: l) p n = (covB x p n || covs l p n) := rfl
theorem covs_append (a b : List Rn) (p n : Int) : covs (a ++ b) p n = (covs a p n || covs b p n) := by simp [covs]
theorem covs_perm {a b : List Rn} (h : a.Perm b) (p n : Int) : covs a p n = covs b p n := by
  rw [Bool.eq_iff_iff, covs_iff, covs_iff]
  constructor <;> rintro ⟨x, hx, h'⟩
  · exact ⟨x, h.mem_iff.1 hx, h'⟩
  · exact ⟨x, h.mem_iff.2 hx, h'⟩

theorem joinS_concat (Z : List Rn) (y x : Rn) : joinS (Z ++ [y]) x = if apB y x then Z ++ [y] ++ [x] else Z ++ [⟨y.r, y.lo, max y.hi x.hi⟩] := by
  by_cases h : apB y x = true
  · rw [joinS_app (m := Z.length) (by simp) (by simp) h, if_pos h]
  · rw [joinS_set (m := Z.length) (y := y) (by simp) (by simp) (by simpa using h), if_neg h]
    simp

/-- what holds behind each step of the joining -/
def JoinInv (P Y : List Rn) : Prop := Good Y ∧ (∀ p n, covs Y p n = covs P p n) ∧ (∀ y ∈ Y, ∃ x ∈ P, x.r = y.r ∧ x.lo = y.lo)

theorem JoinInv.step {P Y : List Rn} {x : Rn} (h : JoinInv P Y) (hx : rrB x = true) (hs : ∀ z ∈ P, ¬ (x.r < z.r ∨ (x.r = z.r ∧ x.lo < z.lo))) : JoinInv (P ++ [x]) (joinS Y x) := by
  obtain ⟨⟨g1, g2⟩, hc, hl⟩ := h
  rcases List.eq_nil_or_concat Y with rfl | ⟨Z, y, rfl⟩
  · refine ⟨⟨by simpa [joinS] using hx, by simp [joinS]⟩, fun p n => ?_, fun y hy => ?_⟩
    · rw [covs_append, ← hc p n]; simp [joinS, covs]
    · simp [joinS] at hy; subst hy; exact ⟨y, by simp, rfl, rfl⟩
  · rw [List.concat_eq_append] at *
    rw [joinS_concat]
    have hy := g1 y (by simp)
    obtain ⟨z, hz, e1, e2⟩ := hl y (by simp)
    have hzx := hs z hz
    rw [List.pairwise_append] at g2
    obtain ⟨p1, _, p3⟩ := g2
    by_cases ha : apB y x = true
    · rw [if_pos ha]
      refine ⟨⟨?_, ?_⟩, fun p n => ?_, fun w hw => ?_⟩
      · intro w hw
        simp only [List.mem_append, List.mem_singleton] at hw
        rcases hw with hw | rfl
        · exact g1 w (by simpa using hw)
        · exact hx
      · rw [List.pairwise_append]
        refine ⟨List.pairwise_append.2 ⟨p1, by simp, p3⟩, by simp, fun a ha' b hb => ?_⟩
        simp at hb; subst hb
        simp only [List.mem_append, List.mem_singleton] at ha'
        rcases ha' with ha' | rfl
        · have := p3 a ha' y (by simp)
          rw [ap_iff] at this ha ⊢
          rw [rr_iff] at hy
          omega
        · exact ha
      · rw [covs_append, covs_append P, ← hc p n]
      · simp only [List.mem_append, List.mem_singleton] at hw
        rcases hw with hw | rfl
        · obtain ⟨q, hq, e⟩ := hl w (by simpa using hw)
          exact ⟨q, by simp [hq], e⟩
        · exact ⟨w, by simp, rfl, rfl⟩
    · rw [if_neg ha]
      have ha' : ¬ (y.r < x.r ∨ (y.r = x.r ∧ y.hi + 1 < x.lo)) := by rw [← ap_iff]; exact ha
      rw [rr_iff] at hx hy
      refine ⟨⟨?_, ?_⟩, fun p n => ?_, fun w hw => ?_⟩
      · intro w hw
        simp only [List.mem_append, List.mem_singleton] at hw
        rcases hw with hw | rfl
        · exact g1 w (by simp [hw])
        · rw [rr_iff]; simp only; omega
      · rw [List.pairwise_append]
        refine ⟨p1, by simp, fun a ha'' b hb => ?_⟩
        simp at hb; subst hb
        have := p3 a ha'' y (by simp)
        rw [ap_iff] at this ⊢
        exact this
      · rw [covs_append, covs_append P, ← hc p n, covs_append, Bool.or_assoc]
        congr 1
        rw [Bool.eq_iff_iff, Bool.or_eq_true]
        simp only [covs_iff, List.mem_singleton, exists_eq_left]
        omega
      · simp only [List.mem_append, List.mem_singleton] at hw
        rcases hw with hw | rfl
        · obtain ⟨q, hq, e⟩ := hl w (by simp [hw])
          exact ⟨q, by simp [hq], e⟩
        · exact ⟨z, by simp [hz], e1, e2⟩

/-- no later one is less than an earlier one -/
def Ordered (l : List Rn) : Prop := l.Pairwise (fun x y => ¬ (y.r < x.r ∨ (y.r = x.r ∧ y.lo < x.lo)))

theorem join_foldl (l : List Rn) : ∀ P Y, JoinInv P Y → (∀ x ∈ l, rrB x = true) → Ordered (P ++ l) → JoinInv (P ++ l) (l.foldl joinS Y) := by
  induction l with
  | nil => intro P Y h _ _; simpa using h
  | cons x l ih =>
    intro P Y h hr ho
    have h1 : JoinInv (P ++ [x]) (joinS Y x) := h.step (hr x (by simp)) fun z hz => by
      have := (List.pairwise_append.1 ho).2.2 z hz x (by simp)
      exact this
    have := ih (P ++ [x]) (joinS Y x) h1 (fun y hy => hr y (by simp [hy])) (by simpa using ho)
    simpa using this

theorem joinL_good {l : List Rn} (hr : ∀ x ∈ l, rrB x = true) (ho : Ordered l) : Good (joinL l) ∧ ∀ p n, covs (joinL l) p n = covs l p n := by
  have := join_foldl l [] [] ⟨⟨by simp, by simp⟩, fun _ _ => rfl, by simp⟩ hr (by simpa using ho)
  simp only [List.nil_append] at this
  exact ⟨this.1, this.2.1⟩

theorem arL_mem {x z : Rn} {p n : Int} (hx : rrB x = true) (hc : covB x p n = true) (hz : z ∈ arL x n) : z.r = x.r ∧ x.lo ≤ z.lo ∧ z.hi ≤ x.hi ∧ rrB z = true ∧ (z.hi < n ∨ n < z.lo) := by
  rw [rr_iff] at hx
  rw [cov_iff] at hc
  simp only [arL, List.mem_append] at hz
  rw [rr_iff]
  rcases hz with hz | hz <;> split at hz <;> simp at hz <;> subst hz
  · exact ⟨rfl, Int.le_refl _, by simp only; omega, ⟨hx.1, hx.2.1, by simp only; omega⟩, .inl (by simp only; omega)⟩
  · exact ⟨rfl, by simp only; omega, Int.le_refl _, ⟨hx.1, by simp only; omega, by simp only; omega⟩, .inr (by simp only; omega)⟩
theorem arL_pair (x : Rn) (n : Int) : (arL x n).Pairwise (fun x y => apB x y = true) := by
  unfold arL
  split <;> split <;> simp [ap_iff]
  omega
theorem arL_covs {x : Rn} {p n q m : Int} (hc : covB x p n = true) : covs (arL x n) q m = (covB x q m && !decide (m = n)) := by
  rw [cov_iff] at hc
  rw [Bool.eq_iff_iff, covs_iff, Bool.and_eq_true, cov_iff]
  simp only [arL, List.mem_append, Bool.not_eq_true', decide_eq_false_iff_not]
  constructor
  · rintro ⟨z, hz, h⟩
    rcases hz with hz | hz <;> split at hz <;> simp at hz <;> subst hz <;> simp only at h <;> omega
  · rintro ⟨h, hm⟩
    rcases Int.lt_or_gt_of_ne hm with h1 | h1
    · exact ⟨⟨x.r, x.lo, n - 1⟩, .inl (by rw [if_pos (by omega)]; simp), by simp only; omega⟩
    · exact ⟨⟨x.r, n + 1, x.hi⟩, .inr (by rw [if_pos (by omega)]; simp), by simp only; omega⟩

theorem dropL_good {zs : List Rn} {p n : Int} (h : Good zs) : Good (dropL zs p n) ∧ ∀ q m, covs (dropL zs p n) q m = (covs zs q m && !(decide (q = p) && decide (m = n))) := by
  obtain ⟨h1, h2⟩ := h
  have hin : ∀ x ∈ zs, ∀ z ∈ (if covB x p n then arL x n else [x]), z.r = x.r ∧ x.lo ≤ z.lo ∧ z.hi ≤ x.hi ∧ rrB z = true := by
    intro x hx z hz
    split at hz
    · rename_i hc
      obtain ⟨a, b, c, d, _⟩ := arL_mem (h1 x hx) hc hz
      exact ⟨a, b, c, d⟩
    · simp at hz; subst hz; exact ⟨rfl, Int.le_refl _, Int.le_refl _, h1 z hx⟩
  refine ⟨⟨?_, ?_⟩, fun q m => ?_⟩
  · intro z hz
    simp only [dropL, List.mem_flatMap] at hz
    obtain ⟨x, hx, hz⟩ := hz
    exact (hin x hx z hz).2.2.2
  · unfold dropL
    rw [List.pairwise_flatMap]
    refine ⟨fun x _ => ?_, ?_⟩
    · split
      · exact arL_pair x n
      · simp
    · rw [List.pairwise_iff_getElem] at h2 ⊢
      intro i j hi hj hij a ha b hb
      have hap := h2 i j hi hj hij
      have h3 := hin _ (List.getElem_mem hi) a ha
      have h4 := hin _ (List.getElem_mem hj) b hb
      rw [ap_iff] at hap ⊢
      omega
  · clear h2 hin
    induction zs with
    | nil => simp [dropL, covs]
    | cons x l ih =>
      have ih' := ih (fun y hy => h1 y (by simp [hy]))
      rw [covs_cons]
      have : dropL (x :: l) p n = (if covB x p n then arL x n else [x]) ++ dropL l p n := by simp [dropL]
      rw [this, covs_append, ih', Bool.and_or_distrib_right]
      congr 1
      split
      · rename_i hc
        rw [arL_covs hc]
        rw [cov_iff] at hc
        by_cases hq : q = p
        · simp [hq]
        · have : covB x q m = false := by
            rw [← Bool.not_eq_true, cov_iff]; omega
          simp [this]
      · rename_i hc
        rw [cov_iff] at hc
        simp only [covs, List.any_cons, List.any_nil, Bool.or_false]
        by_cases hqm : q = p ∧ m = n
        · obtain ⟨rfl, rfl⟩ := hqm
          have : covB x q m = false := by rw [← Bool.not_eq_true, cov_iff]; exact hc
          simp [this]
        · have : (decide (q = p) && decide (m = n)) = false := by simp; omega
          simp [this]

theorem Good.tail {x : Rn} {l : List Rn} (h : Good (x :: l)) : Good l := ⟨fun y hy => h.1 y (by simp [hy]), (List.pairwise_cons.1 h.2).2⟩
/-- the first run begins the set -/
theorem Good.first {x : Rn} {l : List Rn} (h : Good (x :: l)) {p n : Int} (hc : covs (x :: l) p n = true) : x.r < p ∨ (x.r = p ∧ x.lo ≤ n) := by
  obtain ⟨z, hz, h1, h2, _⟩ := (covs_iff _ _ _).1 hc
  rcases List.mem_cons.1 hz with rfl | hz
  · omega
  · have := (List.pairwise_cons.1 h.2).1 z hz
    have hx := h.1 x (by simp)
    rw [ap_iff] at this
    rw [rr_iff] at hx
    omega
/-- behind the first run nothing of its replica follows at once -/
theorem Good.next {x : Rn} {l : List Rn} (h : Good (x :: l)) : covs (x :: l) x.r (x.hi + 1) = false := by
  rw [← Bool.not_eq_true, covs_iff]
  rintro ⟨z, hz, h1, h2, h3⟩
  rcases List.mem_cons.1 hz with rfl | hz
  · omega
  · have := (List.pairwise_cons.1 h.2).1 z hz
    rw [ap_iff] at this
    omega
theorem Good.rest {x : Rn} {l : List Rn} (h : Good (x :: l)) (p n : Int) : covs l p n = (covs (x :: l) p n && !covB x p n) := by
  rw [covs_cons]
  by_cases hc : covB x p n = true
  · simp only [hc, Bool.true_or, Bool.not_true, Bool.and_false]
    rw [← Bool.not_eq_true, covs_iff]
    rintro ⟨z, hz, h1, h2, h3⟩
    have := (List.pairwise_cons.1 h.2).1 z hz
    rw [ap_iff] at this
    rw [cov_iff] at hc
    omega
  · have : covB x p n = false := by simpa using hc
    simp [this]
/-- right runs tell their set in one way only -/
theorem canon : ∀ (A B : List Rn), Good A → Good B → (∀ p n, covs A p n = covs B p n) → A = B
  | [], [], _, _, _ => rfl
  | [], y :: B, _, hB, h => by
    have hy := hB.1 y (by simp)
    rw [rr_iff] at hy
    have : covs (y :: B) y.r y.lo = true := (covs_iff _ _ _).2 ⟨y, by simp, rfl, by omega, by omega⟩
    rw [← h] at this
    simp [covs] at this
  | x :: A, [], hA, _, h => by
    have hx := hA.1 x (by simp)
    rw [rr_iff] at hx
    have : covs (x :: A) x.r x.lo = true := (covs_iff _ _ _).2 ⟨x, by simp, rfl, by omega, by omega⟩
    rw [h] at this
    simp [covs] at this
  | x :: A, y :: B, hA, hB, h => by
    have hx := hA.1 x (by simp)
    have hy := hB.1 y (by simp)
    rw [rr_iff] at hx hy
    have c1 : covs (x :: A) x.r x.lo = true := (covs_iff _ _ _).2 ⟨x, by simp, rfl, by omega, by omega⟩
    have c2 : covs (y :: B) y.r y.lo = true := (covs_iff _ _ _).2 ⟨y, by simp, rfl, by omega, by omega⟩
    have f1 := hA.first ((h _ _).trans c2)
    have f2 := hB.first ((h _ _).symm.trans c1)
    have n1 := hA.next
    have n2 := hB.next
    have e1 : x.r = y.r := by omega
    have e2 : x.lo = y.lo := by omega
    have e3 : x.hi = y.hi := by
      rcases Int.lt_trichotomy x.hi y.hi with hlt | heq | hgt
      · rw [h] at n1
        have : covs (y :: B) x.r (x.hi + 1) = true := (covs_iff _ _ _).2 ⟨y, by simp, e1.symm, by omega, by omega⟩
        rw [this] at n1; cases n1
      · exact heq
      · rw [← h] at n2
        have : covs (x :: A) y.r (y.hi + 1) = true := (covs_iff _ _ _).2 ⟨x, by simp, e1, by omega, by omega⟩
        rw [this] at n2; cases n2
    have exy : x = y := by
      cases x; cases y
      simp only at e1 e2 e3
      subst e1 e2 e3
      rfl
    subst exy
    rw [canon A B hA.tail hB.tail fun p n => by rw [hA.rest, hB.rest, h]]

end Go.Proofs.Ytfjaeohfigcciab

