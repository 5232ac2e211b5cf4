/- Texts in one: TC4, TakeO, Concat, Order, Union, DropO, UnionO, PTMath, Awake, LawMath, PAcc, TCMath. -/
import Derived.Shelf.SlSortCmp.NoneTotal
import Derived.Test.YtfjaeohfigcciabGreatDoorQF27
import Derived.Test.YtfjaeohfigcciabGreatDoorQF02
import Derived.Test.YtfjaeohfigcciabGreatDoorQF03
import Derived.Test.YtfjaeohfigcciabGreatDoorQF26
import Derived.Test.YtfjaeohfigcciabGreatDoorQF16
set_option linter.unusedVariables false
set_option linter.unusedSimpArgs false
set_option linter.unusedSectionVars false
set_option linter.unnecessarySimpa false
namespace Go.Proofs.YtfjaeohfigcciabGreatDoor
open Go.RowKit

def sureOf {α : Type} (o : Option Int) (x : α) : Except Int α := match o with | some c => .error c | none => .ok x
theorem rep_row_one (r : Rp) (l : Ls) : (repR r l).all (·.oneCell') = true := by simp [repR, repRow, Rp.cells, Value.oneCell']
theorem rep_row_size (r : Rp) (l : Ls) : (Tryz.prog.info? 28).map (·.size) = some (repR r l).size := rep_size1

set_option maxHeartbeats 8000000 in
set_option maxRecDepth 100000 in
theorem tBeginC_any (r : Rp) (lr : Ls) (src : Int) (W : World) (g g1 : Nat) (hbr : Blk W g (repR r lr) 28) (hc1 : W.cell? ⟨g1, 0, none⟩ = some (.int .u8 src)) (hv : RpV W W.heap.size (.agg (repR r lr)) r) (hsrc : 0 ≤ src ∧ src ≤ 255)
    (h1 : r.know.length ≤ 1000) (h2 : r.held.length ≤ 1000) (h3 : r.ses.offer.length ≤ 1000) :
    Calls Tryz.prog 45 #[.pointer (some ⟨g, 0, none⟩), .pointer (some ⟨g1, 0, none⟩)] W (RepSure W (sureOf (refuseB r src) (beginP r src))) := by
  have hb0 := al1 W (.cells #[.int .u8 0, .int .u8 0, .int .u32 0, .int .u32 0, .slice none 0 0, .slice none 0 0, .bool false, .int .u32 0, .int .u8 0, .int .u8 0, .int .u32 0, .slice none 0 0, .int .u32 0] 28)
  have HC := Lib.hid (show Calls _ _ _ _ (RepSure _ (sureOf (refuseB r src) (beginP r src))) from tbegun_any (.agg (repR r lr)) r src (W.alloc (.cells #[.int .u8 0, .int .u8 0, .int .u32 0, .int .u32 0, .slice none 0 0, .slice none 0 0, .bool false, .int .u32 0, .int .u8 0, .int .u8 0, .int .u32 0, .slice none 0 0, .int .u32 0] 28)) (hv.later hb0) hsrc h1 h2 h3)
  generalize sureOf (refuseB r src) (beginP r src) = res at HC ⊢
  have BO := Lib.hid (Blk.new W #[.int .u8 0, .int .u8 0, .int .u32 0, .int .u32 0, .slice none 0 0, .slice none 0 0, .bool false, .int .u32 0, .int .u8 0, .int .u8 0, .int .u32 0, .slice none 0 0, .int .u32 0] 28)
  have BR := Lib.hid (hbr.keep hb0)
  have c1 := (hb0.cell (p := ⟨g1, 0, none⟩) (World.block_lt_of_cell? W ⟨g1, 0, none⟩ hc1)).trans hc1
  have hi := rep_row_size r lr
  have hl : W.heap.size < (W.alloc (.cells #[.int .u8 0, .int .u8 0, .int .u32 0, .int .u32 0, .slice none 0 0, .slice none 0 0, .bool false, .int .u32 0, .int .u8 0, .int .u8 0, .int .u32 0, .slice none 0 0, .int .u32 0] 28)).heap.size := by simp
  clear hbr hc1 hv h1 h2 h3
  generalize repR r lr = cs at HC BR hi ⊢
  go_enter Tryz.func45, Tryz.ntmps45
  go_upto_region 1 with fail
  have HB := Lib.hid hb0; clear hb0
  generalize W.alloc (.cells #[.int .u8 0, .int .u8 0, .int .u32 0, .int .u32 0, .slice none 0 0, .slice none 0 0, .bool false, .int .u32 0, .int .u8 0, .int .u8 0, .int .u32 0, .slice none 0 0, .int .u32 0] 28) = W0 at HC BO BR HB c1 hl ⊢
  go_wp2_with (refine wpList_load_row rfl _ _ rfl g rfl 28 cs (0, 0) _ BR.out.at_ Tryz.underlying28 rfl hi ?_)
  refine (HC.out).mono ?_
  cases res with
  | error c =>
    rintro e w1 ⟨rfl, hb⟩
    exact ⟨rfl, rfl, HB.out.trans (hb.mono HB.out.size)⟩
  | ok x =>
    rintro e w1 ⟨v, rfl, hv, hav, hb⟩
    obtain ⟨c2, rfl, hs, h1⟩ := hv.row
    have hi2 : (Tryz.prog.info? 28).map (·.size) = some c2.size := by rw [hs]; exact rep_size1
    have BO := Lib.hid (BO.out.keep hb)
    have HV := Lib.hid (hv.rowOff (g := W.heap.size) (hav.mono fun k hk => by omega) c2)
    have HA := Lib.hid (hav.mono fun k (hk : W0.heap.size ≤ k) => (by omega : W.heap.size ≤ k))
    have HB := Lib.hid (HB.out.trans (hb.mono HB.out.size)); clear hb hv hav
    have hz : (w1.setRow W.heap.size c2).heap.size = w1.heap.size := by simp [World.setRow]
    rw [← hz] at HV
    clear hz
    go_wp2_with (refine wpList_store_row rfl _ _ _ rfl W.heap.size c2 rfl rfl 28 _ BO.out.at_ hi2 (by rw [hs]; rfl) h1 ?_)
    refine bodyPost_ret (v := .agg c2) (results_cell_row Tryz.results45 _ _ (W.heap.size) 28 c2 (0, 0) _ rfl (BO.out.row c2).at_ Tryz.underlying28 rfl hi2) rfl ?_
    exact ⟨_, rfl, HV.out, HA.out, below_setRow1 (B := W.heap.size) (r := W.heap.size) HB.out (Nat.le_refl _) _⟩

end Go.Proofs.YtfjaeohfigcciabGreatDoor

namespace Go.Proofs.YtfjaeohfigcciabGreatDoor
open Go.RowKit

/-- entries of the call's own, or a code, come back -/
def TakeOwn (w : World) (res : Option (List En)) (e : Ending) (w' : World) : Prop :=
  match res with
  | some l => ∃ v, e = .returned (.tuple #[v, .nilIface]) ∧ (EOwn w' w.heap.size v l ∧ ESl w' w'.heap.size v l) ∧ Below w.heap.size w w'
  | none => e = .returned (.tuple #[.slice none 0 0, .iface 74 (.int .i64 9)]) ∧ Below w.heap.size w w'

set_option maxHeartbeats 1000000 in
theorem Take_wrong1O (v : Value) (zs : List En) (x : En) (w : World) (h : ESl w w.heap.size v zs) (hl : zs.length ≤ 9000) (hr : erightB zs = false) :
    Calls Tryz.prog 108 #[v, x.agg] w (TakeOwn w none) := by
  simp only [En.agg]
  have hq := iRight_any _ v zs (h.later (al1 w (.cells #[.int .u8 x.id, .int .u8 x.rep, .int .u32 x.seq, .int .u32 x.stamp, .int .i64 x.kind, .int .u8 x.cls, .int .u32 x.val] 62))) (by omega)
  rw [hr] at hq
  have HR := Lib.hid hq; clear hq hr h
  go_enter Tryz.func108, Tryz.ntmps108
  go_wp2_with fail
  refine (HR.out).mono ?_
  rintro e w1 ⟨rfl, hb1⟩
  go_wp2_with fail
  go_ret2
  exact ⟨rfl, (al1 w _).trans (hb1.mono (by simp))⟩

set_option maxHeartbeats 1000000 in
theorem Take_wrong2O (v : Value) (zs : List En) (x : En) (w : World) (h : ESl w w.heap.size v zs) (hl : zs.length ≤ 9000) (hx : x.ok) (hr : erightB zs = true) (he : reB x = false) :
    Calls Tryz.prog 108 #[v, x.agg] w (TakeOwn w none) := by
  have he' := fun W => irightEntry_any x W hx
  simp only [En.agg] at he' ⊢
  rw [he] at he'
  have HE := Lib.hid he'; clear he' he hx
  have hq := iRight_any _ v zs (h.later (al1 w (.cells #[.int .u8 x.id, .int .u8 x.rep, .int .u32 x.seq, .int .u32 x.stamp, .int .i64 x.kind, .int .u8 x.cls, .int .u32 x.val] 62))) (by omega)
  rw [hr] at hq
  have HR := Lib.hid hq; clear hq hr h
  have HN := Lib.hid (new_entry w x 62)
  go_enter Tryz.func108, Tryz.ntmps108
  go_wp2_with fail
  refine (HR.out).mono ?_
  rintro e w1 ⟨rfl, hb1⟩
  obtain ⟨c0, c1, c2, c3, c4, c5, c6⟩ := (HN.out.keep hb1 (by simp)).all0
  have HB := Lib.hid ((al1 w _).trans (hb1.mono (by simp)))
  clear hb1 HN
  go_wp2_with fail
  refine (HE.out _).mono ?_
  rintro e w2 ⟨rfl, hb2⟩
  go_wp2_with fail
  go_ret2
  exact ⟨rfl, HB.out.trans (hb2.mono HB.out.size)⟩

set_option maxRecDepth 100000 in
set_option maxHeartbeats 2000000 in
theorem Take_rightO (v : Value) (zs : List En) (x : En) (w : World) (h : ESl w w.heap.size v zs) (hl : zs.length ≤ 9000) (hx : x.ok) (hr : erightB zs = true) (he : reB x = true) :
    Calls Tryz.prog 108 #[v, x.agg] w (TakeOwn w (some (takeL zs x))) := by
  have hm : Tryz.prog.follows .mixedOrders = true := by kernel_rfl
  have HM := Lib.hid hm; clear hm
  have he' := fun W => irightEntry_any x W hx
  have hok := h.okAll
  have htok := takeL_ok hok hx
  have hmo := right_mono hr x.id
  simp only [En.agg] at he' ⊢
  rw [he] at he'
  have HE := Lib.hid he'; clear he' he
  have HMO := Lib.hid hmo; clear hmo
  have HXO := Lib.hid hx; clear hx
  have HOK := Lib.hid hok; clear hok
  have HTK := Lib.hid htok; clear htok
  have hq := iRight_any _ v zs (h.later (al1 w (.cells #[.int .u8 x.id, .int .u8 x.rep, .int .u32 x.seq, .int .u32 x.stamp, .int .i64 x.kind, .int .u8 x.cls, .int .u32 x.val] 62))) (by omega)
  rw [hr] at hq
  have HR := Lib.hid hq; clear hq hr
  have HH := Lib.hid h; clear h
  have HN := Lib.hid (new_entry w x 62)
  obtain ⟨T, hT⟩ : ∃ T, takeL zs x = T := ⟨_, rfl⟩
  rw [hT]
  rw [hT] at HTK
  have HT := Lib.hid hT; clear hT
  have hp := posE_le zs x.id
  go_enter Tryz.func108, Tryz.ntmps108
  go_wp2_with fail
  refine (HR.out).mono ?_
  rintro e w1 ⟨rfl, hb1⟩
  obtain ⟨c0, c1, c2, c3, c4, c5, c6⟩ := (HN.out.keep hb1 (by simp)).all0
  have HN1 := Lib.hid (HN.out.keep hb1 (by simp))
  have HB1 := Lib.hid ((al1 w _).trans (hb1.mono (by simp)))
  have hs1 : w.heap.size < w1.heap.size := by have := hb1.size; simp at this; omega
  clear hb1 HN HR
  go_wp2_with fail
  refine (HE.out _).mono ?_
  rintro e w2 ⟨rfl, hb2⟩
  have HB2 := Lib.hid (HB1.out.trans (hb2.mono HB1.out.size))
  have HN2 := Lib.hid (HN1.out.keep hb2 hs1)
  have hs2 : w.heap.size < w2.heap.size := by have := hb2.size; omega
  clear hb2 HN1 HB1 HE c0 c1 c2 c3 c4 c5 c6
  have HC := Lib.hid (Clone_any v zs w2 (HH.out.later HB2.out) (by omega))
  go_wp2_with fail
  refine (HC.out).mono ?_
  rintro e w3 ⟨v3, rfl, ho3, hb3⟩
  have HO3 := Lib.hid ho3; clear ho3
  have HB3 := Lib.hid (HB2.out.trans (hb3.mono HB2.out.size))
  have HN3 := Lib.hid (HN2.out.keep hb3 hs2)
  have hs3 : w2.heap.size ≤ w3.heap.size := hb3.size
  obtain ⟨c0, c1, c2, c3, c4, c5, c6⟩ := HN3.out.all0
  clear hb3 HC HN2
  have HP := Lib.hid (place_any x.id v3 zs w3 (HO3.out.sl HOK.out) (by omega) HMO.out)
  obtain ⟨p, hpe⟩ : ∃ p, posE zs x.id = p := ⟨_, rfl⟩
  rw [hpe] at HP hp
  have HPE := Lib.hid hpe; clear hpe
  obtain ⟨fd, hfd⟩ : ∃ fd, (decide (p < zs.length) && decide (zs[p]!.id = x.id)) = fd := ⟨_, rfl⟩
  rw [hfd] at HP
  have HFD := Lib.hid hfd; clear hfd
  go_wp2_with fail
  refine (HP.out).mono ?_
  rintro e w4 ⟨rfl, hb4⟩
  have HO4 := Lib.hid (HO3.out.below hb4)
  have HB4 := Lib.hid (HB3.out.trans (hb4.mono HB3.out.size))
  have HN4 := Lib.hid (HN3.out.keep hb4 (by omega))
  have hs4 : w3.heap.size ≤ w4.heap.size := hb4.size
  clear hb4 HP HN3 HO3 c0 c1 c2 c3 c4 c5 c6
  obtain ⟨c0, c1, c2, c3, c4, c5, c6⟩ := HN4.out.all0
  cases fd
  · -- not there: it is laid in
    have hown : v3.ownBlock ≠ some w4.heap.size := fun h => by have := HO4.out.lt _ h; omega
    have HI := Lib.hid (Insert_any v3 zs p w4.heap.size w2.heap.size x _ (HO4.out.alloc (.cells #[.int .u8 x.id, .int .u8 x.rep, .int .u32 x.seq, .int .u32 x.stamp, .int .i64 x.kind, .int .u8 x.cls, .int .u32 x.val] 62)) (by simp; omega) (oneNew_alloc w4 x) hown HXO.out hl hp)
    clear hown
    go_wp2_with fail
    refine (HI.out).mono ?_
    rintro e w5 ⟨v5, rfl, ho5, hb5⟩
    have HO5 := Lib.hid ho5; clear ho5
    have HB5 := Lib.hid ((HB4.out.alloc HB4.out.size (.cells #[.int .u8 x.id, .int .u8 x.rep, .int .u32 x.seq, .int .u32 x.stamp, .int .i64 x.kind, .int .u8 x.cls, .int .u32 x.val] 62)).trans (hb5.mono (by omega)))
    clear hb5 HI
    go_wp2_with fail
    go_ret2
    have ht : T = insL zs p x := by
      rw [← HT.out, takeL, HPE.out, HFD.out]
      rfl
    refine ⟨v5, rfl, ?_, HB5.out⟩
    have := HTK.out
    rw [ht] at this ⊢
    exact ⟨HO5.out.mono HB2.out.size, HO5.out.sl this⟩
  · have hpl : p < zs.length := by
      have := HFD.out
      simp at this
      exact this.1
    have hyk : zs[p]? = some zs[p] := List.getElem?_eq_getElem hpl
    generalize zs[p] = y at hyk
    have HY := Lib.hid (egetBang_of hyk)
    obtain ⟨A, cc, rfl, _, hA⟩ := HO4.out.form
    obtain ⟨g, rfl, hg1, hg2⟩ := hA (by intro h; simp [h] at hpl)
    have HYA := Lib.hid (HO4.out.cell rfl hyk)
    clear hyk hA
    have m0 := fun p : Later w4 => (HN4.out.later (by omega) p).all0.1
    have m1 := fun p : Later w4 => (HN4.out.later (by omega) p).all0.2.1
    have m2 := fun p : Later w4 => (HN4.out.later (by omega) p).all0.2.2.1
    have m3 := fun p : Later w4 => (HN4.out.later (by omega) p).all0.2.2.2.1
    have m4 := fun p : Later w4 => (HN4.out.later (by omega) p).all0.2.2.2.2.1
    have m5 := fun p : Later w4 => (HN4.out.later (by omega) p).all0.2.2.2.2.2.1
    have m6 := fun p : Later w4 => (HN4.out.later (by omega) p).all0.2.2.2.2.2.2
    have y0 := fun p : Later w4 => (HYA.out.later hg2 p).all.1
    have y1 := fun p : Later w4 => (HYA.out.later hg2 p).all.2.1
    have y2 := fun p : Later w4 => (HYA.out.later hg2 p).all.2.2.1
    have y3 := fun p : Later w4 => (HYA.out.later hg2 p).all.2.2.2.1
    have y4 := fun p : Later w4 => (HYA.out.later hg2 p).all.2.2.2.2.1
    have y5 := fun p : Later w4 => (HYA.out.later hg2 p).all.2.2.2.2.2.1
    have y6 := fun p : Later w4 => (HYA.out.later hg2 p).all.2.2.2.2.2.2
    have r1 := fun W => replaces_any x y W
    simp only [En.agg] at r1
    obtain ⟨rp, hrp⟩ : ∃ rp, repB x y = rp := ⟨_, rfl⟩
    rw [hrp] at r1
    have HRP := Lib.hid hrp; clear hrp
    have R1 := Lib.hid r1; clear r1
    go_wp2_with fail
    have hm : Tryz.prog.follows .mixedOrders = true := HM.out
    refine wp_region_later hm (by kernel_rfl) ?_
    repeat (any_goals (first | go_big_quiet_step (first | (go_at_call 133; exact Calls.later (R1.out _))) | quiet_step (first | (go_at_call 133; exact Calls.later (R1.out _)))))
    refine wpQuiet_nil ?_
    intro wp hw'
    obtain ⟨lp, hlp⟩ := hw'
    have hbp := lp.bel
    rw [← hlp] at hbp
    clear hlp lp m0 m1 m2 m3 m4 m5 m6 y0 y1 y2 y3 y4 y5 y6 c0 c1 c2 c3 c4 c5 c6
    have HO5 := Lib.hid (HO4.out.below hbp)
    have HB5 := Lib.hid (HB4.out.trans (hbp.mono HB4.out.size))
    obtain ⟨c0, c1, c2, c3, c4, c5, c6⟩ := (HN4.out.keep hbp (by omega)).all0
    obtain ⟨d0, d1, d2, d3, d4, d5, d6⟩ := (HYA.out.keep hbp hg2).all
    have hs5 : w4.heap.size ≤ wp.heap.size := hbp.size
    have f := fun j => frozen_own HO5.out j
    clear hbp hm
    cases rp
    · clear f
      go_wp2_with fail
      go_ret2
      have ht : T = zs := by
        rw [← HT.out, takeL, HPE.out, HFD.out, HY.out, HRP.out]
        rfl
      refine ⟨_, rfl, ?_, HB5.out⟩
      have := HTK.out
      rw [ht] at this ⊢
      exact ⟨HO5.out.mono HB2.out.size, HO5.out.sl this⟩
    · go_wp2_with fail
      go_ret2
      have ht : T = zs.set p x := by
        rw [← HT.out, takeL, HPE.out, HFD.out, HY.out, HRP.out]
        rfl
      obtain ⟨q1, q2⟩ := HO5.out.put hpl x hg1
      refine ⟨_, rfl, ?_, HB5.out.trans (q2.mono (by omega))⟩
      have := HTK.out
      rw [ht] at this ⊢
      have q3 := q1.sl this
      exact ⟨q1.mono HB2.out.size, q3⟩

theorem Take_anyO (v : Value) (zs : List En) (x : En) (w : World) (h : ESl w w.heap.size v zs) (hl : zs.length ≤ 9000) (hx : x.ok) :
    Calls Tryz.prog 108 #[v, x.agg] w (TakeOwn w (takeR zs x)) := by
  unfold takeR
  by_cases hr : erightB zs = true
  · by_cases he : reB x = true
    · rw [if_pos ⟨hr, he⟩]; exact Take_rightO v zs x w h hl hx hr he
    · rw [if_neg (fun h => he h.2)]; exact Take_wrong2O v zs x w h hl hx hr (by simpa using he)
  · rw [if_neg (fun h => hr h.1)]; exact Take_wrong1O v zs x w h hl (by simpa using hr)
end Go.Proofs.YtfjaeohfigcciabGreatDoor

namespace Go.Proofs.YtfjaeohfigcciabGreatDoor
open Go.RowKit Go.Sort Go.Shelf

theorem Grow_any (n : Nat) (w : World) (hn : n ≤ 1000) : Calls Tryz.prog 147 #[.slice none 0 0, .int .i64 n] w (OwnPost w []) := by
  rcases Nat.eq_zero_or_pos n with h0 | h0
  · subst h0
    have hcon := Any8.slices_Grow_room Tryz.lGrow none 0 0 0 w (Nat.le_refl _) (by omega) (by omega) (by omega)
    exact hcon.mono fun e w' ⟨he, hw⟩ => ⟨_, he, by subst hw; exact ⟨Own.nil _ _, Below.refl _ _⟩⟩
  · obtain ⟨i0, hi, hz0, hz1, hz2⟩ := info_parts infoRun
    have hcon := Any8.slices_Grow_grow Tryz.lGrow i0 _ hi hz0 (by omega) none 0 0 n [] w (Nat.le_refl _) (by omega) (by rw [hz2]; omega) (by omega) (by simp) (fun _ => rfl) (fun a h => by cases h)
    refine hcon.mono fun e w' ⟨he, hw⟩ => ⟨_, he, ?_, ?_⟩
    · subst hw
      have h1 := grownCap_ge w (0 + n) 0 67
      have h2 := grownCap_le_maxLen w (0 + n) 0 67 (by unfold maxLen; omega)
      exact World.ownsRow_made (base := w.heap.size) (e := 67) (size := 3) w.drew _ _ (by simp) h2 (by
        simp only [Array.size_append, List.size_toArray, size_zeroCells, List.length_nil]
        show 0 + (0 + n - 0) * 3 + (grownCap w (0 + n) 0 67 - (0 + n)) * 3 = grownCap w (0 + n) 0 67 * 3
        omega)
    · subst hw
      exact ((Below.refl _ w).drew).alloc (by simp) _

theorem Grow_int (q : Int) (w : World) (h0 : 0 ≤ q) (h1 : q ≤ 1000) : Calls Tryz.prog 147 #[.slice none 0 0, .int .i64 q] w (OwnPost w []) := by
  obtain ⟨n, rfl⟩ := Int.eq_ofNat_of_zero_le h0
  exact Grow_any n w (by omega)

set_option maxHeartbeats 2000000 in
theorem Concat_any (va vb : Value) (zs ys : List Rn) (gs : Nat) (w : World) (hg : gs < w.heap.size) (c0 : w.cell? ⟨gs, 0, none⟩ = some va) (c1 : w.cell? ⟨gs, 1, none⟩ = some vb)
    (ha : Sl w w.heap.size va zs) (hb : Sl w w.heap.size vb ys) (hz : zs.length ≤ 100) (hy : ys.length ≤ 100) :
    Calls Tryz.prog 134 #[.slice (some ⟨gs, 0, none⟩) 2 2] w (OwnPost w (zs ++ ys)) := by
  have HA := Lib.hid ha
  have HB := Lib.hid hb
  obtain ⟨A1, k1, rfl, _, _, _⟩ := ha
  obtain ⟨A2, k2, rfl, _, _, _⟩ := hb
  go_enter Tryz.func134, Tryz.ntmps134
  go_wp2
  refine wp_loop_rounds 3 ?_
  rw [rounds_succ]
  go_wp2
  rw [rounds_succ]
  go_wp2
  rw [rounds_succ]
  go_wp2_with fail
  refine (Grow_int _ _ (by omega) (by omega)).mono ?_
  rintro e w1 ⟨v6, rfl, ho, hbl⟩
  have d0 := (hbl.cell (p := ⟨gs, 0, none⟩) hg).trans c0
  have d1 := (hbl.cell (p := ⟨gs, 1, none⟩) hg).trans c1
  have hz1 := hbl.size
  have HBL := Lib.hid hbl; clear hbl
  clear c0 c1
  go_wp2_with fail
  refine wp_loop_rounds 3 ?_
  rw [rounds_succ]
  go_wp2_with (at_builtin; (refine append_runs rfl _ _ rfl w.heap.size _ [] rfl ho _ _ zs rfl (HA.out.below HBL.out) (by simp; omega) hz1 ?_); intro v7 w2 ho2 hg2)
  have hb2 : Below w.heap.size w w2 := grown_below HBL.out ho hg2 (Nat.le_refl _) hz1
  have e0 := (hb2.cell (p := ⟨gs, 0, none⟩) hg).trans ((HBL.out.cell (p := ⟨gs, 0, none⟩) hg).symm.trans d0)
  have e1 := (hb2.cell (p := ⟨gs, 1, none⟩) hg).trans ((HBL.out.cell (p := ⟨gs, 1, none⟩) hg).symm.trans d1)
  have hz2 := hb2.size
  have HB2 := Lib.hid hb2; clear hb2
  rw [List.nil_append] at ho2
  clear d0 d1
  rw [rounds_succ]
  go_wp2_with (at_builtin; (refine append_runs rfl _ _ rfl w.heap.size _ zs rfl ho2 _ _ ys rfl (HB.out.below HB2.out) (by omega) hz2 ?_); intro v8 w3 ho3 hg3)
  have hb3 : Below w.heap.size w w3 := grown_below HB2.out ho2 hg3 (Nat.le_refl _) hz2
  have HB3 := Lib.hid hb3; clear hb3
  have HO3 := Lib.hid ho3; clear ho3
  clear e0 e1 ho ho2 hg2 hg3
  rw [rounds_succ]
  go_wp2
  go_ret
  exact ⟨v8, rfl, HO3.out, HB3.out⟩
end Go.Proofs.YtfjaeohfigcciabGreatDoor

namespace Go.Proofs.YtfjaeohfigcciabGreatDoor
open Go.RowKit Go.Sort Go.Shelf

def ltR (x y : Rn) : Prop := x.r < y.r ∨ (x.r = y.r ∧ x.lo < y.lo)
instance : DecidableRel ltR := fun x y => by unfold ltR; infer_instance
theorem lt_cmpR (x y : Rn) : ltOf cmpR x y = decide (ltR x y) := by
  unfold ltOf cmpR cmpI ltR
  by_cases h : x.r = y.r
  · simp only [h, if_true]
    by_cases h1 : x.lo < y.lo
    · simp [h1]
    · by_cases h2 : y.lo < x.lo <;> simp [h1, h2]
  · simp only [h, if_false]
    by_cases h1 : x.r < y.r
    · simp [h1]
    · by_cases h2 : y.r < x.r <;> simp [h1, h2]
theorem lt_iff (x y : Rn) : ltOf cmpR x y = true ↔ x.r < y.r ∨ (x.r = y.r ∧ x.lo < y.lo) := by
  rw [lt_cmpR, decide_eq_true_iff]; exact Iff.rfl
theorem nlt_iff (x y : Rn) : ltOf cmpR x y = false ↔ ¬ (x.r < y.r ∨ (x.r = y.r ∧ x.lo < y.lo)) := by
  rw [← Bool.not_eq_true, lt_iff]
theorem swoR : SWO (ltOf cmpR) where
  irrefl x := by rw [nlt_iff]; omega
  trans x y z h1 h2 := by
    rw [lt_iff] at h1 h2 ⊢
    omega
  ntrans x y z h1 h2 := by
    rw [nlt_iff] at h1 h2 ⊢
    omega

theorem cmpLaysR (blk off size : Nat) (w : World) : CmpLays Tryz.prog 136 #[] Rn.enc 3 cmpR blk off size w := fun _ _ _ _ x y =>
  (ordC_any x.r x.lo x.hi y.r y.lo y.hi _).mono fun _ _ ⟨he, hw⟩ => ⟨he, 0, _, hw.trans ((alloc_eq_grow _ _).trans ((congrArg (fun u => grow u _) (alloc_eq_grow _ _)).trans (grow_grow _ _ _)))⟩

theorem enc_get (x : Rn) (c : Nat) (hc : c < 3) : ∃ u, x.enc[c]? = some u ∧ x.enc[c]! = u := by
  match c, hc with
  | 0, _ => exact ⟨_, rfl, rfl⟩
  | 1, _ => exact ⟨_, rfl, rfl⟩
  | 2, _ => exact ⟨_, rfl, rfl⟩

theorem Own.holds {w : World} {base g c n : Nat} {zs : List Rn} (h : Own w base (.slice (some ⟨g, 0, none⟩) n c) zs) (hn : n = zs.length) : HoldsK Rn.enc 3 w g 0 zs.toArray := by
  intro t ht
  rw [size_flatK] at ht
  simp only [List.size_toArray] at ht
  refine ⟨?_, h.frozen hn _⟩
  rw [get_flatK _ _ _ t (by simpa using ht)]
  have hj : t / 3 < zs.length := by omega
  have hc := World.ownsRow.cellAt (by subst hn; exact h) t (by omega)
  have hg := flat_get zs (t / 3) (t % 3) zs[t / 3] (List.getElem?_eq_getElem hj) (by omega)
  rw [show t / 3 * 3 + t % 3 = t by omega] at hg
  obtain ⟨u, hu1, hu2⟩ := enc_get zs[t / 3] (t % 3) (by omega)
  rw [Nat.zero_add, hc, hg, hu1]
  have hz : zs.toArray[t / 3]! = zs[t / 3] := by simp [hj]
  rw [hz, hu2]
  rfl

theorem HoldsK.run {w : World} {g : Nat} {d : Array Rn} (h : HoldsK Rn.enc 3 w g 0 d) {j : Nat} {x : Rn} (hj : d.toList[j]? = some x) : RnAt w g (0 + j * 3) x := by
  have hlt : j < d.size := by have := (List.getElem?_eq_some_iff.1 hj).1; simpa using this
  have hx : d[j]! = x := by
    rw [Array.getElem?_toList] at hj
    simp [Array.getElem!_eq_getD, Array.getD_eq_getD_getElem?, hj]
  have h0 := (h.cell hlt (c := 0) (by omega)).1
  have h1 := (h.cell hlt (c := 1) (by omega)).1
  have h2 := (h.cell hlt (c := 2) (by omega)).1
  rw [hx] at h0 h1 h2
  exact ⟨h0, h1, h2⟩

theorem below_sortWorld {B : Nat} (w : World) (g n : Nat) (d : Array Rn) (os : Array Obj) (hB : B ≤ g) (hw : B ≤ w.heap.size) : Below B w (sortWorldK Rn.enc 3 w g 0 n d os) := by
  refine ⟨rfl, rfl, rfl, ?_, fun i hi => ?_⟩
  · simp [sortWorldK, putRowK]
  · show ((putRowK Rn.enc 3 (Sort.ahead w n) g 0 d).heap ++ os)[i]? = w.heap[i]?
    rw [Array.getElem?_append_left (by simp [putRowK]; omega)]
    simp only [putRowK, putRow, mapBlock, Array.getElem?_modify]
    rw [if_neg (by omega)]
    rfl

/-- slices.SortFunc on a slice of the call's own -/
theorem Sort_any (v : Value) (zs : List Rn) (w : World) (base : Nat) (h : Own w base v zs) (hok : ∀ x ∈ zs, x.ok) (hl : zs.length ≤ 1000) (hB : base ≤ w.heap.size) :
    Calls Tryz.prog 135 #[v, .func (.func 136) #[] #[]] w fun e w' => e = .returned (.tuple #[]) ∧ ∃ l : List Rn, l.Perm zs ∧ Ordered l ∧ Sl w' w'.heap.size v l ∧ Below base w w' := by
  obtain ⟨A, n, c, rfl, hn, hcz, hA⟩ := h.form'
  by_cases hne : zs = []
  · subst hne
    obtain rfl : n = 0 := hn
    refine (AnyF.slices_SortFunc_none Tryz.lSort A c _ w).mono fun e w' ⟨he, hw⟩ => ?_
    subst hw
    exact ⟨he, [], List.Perm.refl _, List.Pairwise.nil, h.sl hok, Below.refl _ _⟩
  · obtain ⟨g, rfl, hg1, hg2⟩ := hA hne
    have eg : ∀ args w, (callFunc 136 args).run Tryz.prog w = .ok (.enter 136 args) w := enters_of Tryz.func136 (by kernel_rfl) rfl
    have hH := h.holds hn
    have hcon := AnyQ.slices_SortFunc Tryz.lSort 3 Tryz.isAgg67 Tryz.sizeOf67 Rn.enc (fun _ => rfl) (fun x u hu => by simp [Rn.enc] at hu; rcases hu with rfl | rfl | rfl <;> rfl) cmpR swoR 136 #[] g 0 c zs.toArray w eg (cmpLaysR g 0 _ w) hH hg2 (by simp; omega)
    rw [List.size_toArray, ← hn] at hcon
    refine hcon.mono fun e w' ⟨he, d', q, os, hp, hs, hw⟩ => ⟨he, d'.toList, ?_, ?_, ?_, ?_⟩
    · obtain ⟨h1, _, h3⟩ := hp
      have h1' : d'.size = n := by rw [h1]; simp [hn]
      have e1 : (d'.extract 0 n).toList = d'.toList := by rw [← h1']; simp
      have e2 : (zs.toArray.extract 0 n).toList = zs := by rw [hn]; simp
      rw [e1, e2] at h3
      exact h3
    · have h1 : d'.size = n := by have := hp.1; simp at this; omega
      refine List.pairwise_iff_getElem.2 fun i j hi hj hij => ?_
      rw [Array.length_toList] at hi hj
      have := hs i j (Nat.zero_le _) hij (by omega)
      rw [nlt_iff] at this
      simp only [getElem!_pos d' i hi, getElem!_pos d' j hj] at this
      simpa using this
    · have h1 : d'.size = n := by have := hp.1; simp at this; omega
      have hperm : d'.toList.Perm zs := by
        obtain ⟨h1, _, h3⟩ := hp
        have h1' : d'.size = n := by rw [h1]; simp [hn]
        have e1 : (d'.extract 0 n).toList = d'.toList := by rw [← h1']; simp
        have e2 : (zs.toArray.extract 0 n).toList = zs := by rw [hn]; simp
        rw [e1, e2] at h3
        exact h3
      have hHd : HoldsK Rn.enc 3 w' g 0 d' := by
        rw [hw]
        exact holdsK_grow _ _ _ _ _ _ _ (by simp [putRowK]; exact hg2) (holdsK_putRowK _ _ _ _ _ zs.toArray d' (holdsK_ahead _ _ _ _ _ _ _ hH) (by simp; omega))
      refine ⟨_, c, by rw [Array.length_toList, h1], (fun h => by simp at h), fun x hx => hok x (hperm.mem_iff.1 hx), fun _ => ⟨g, 0, rfl, ?_, fun j x hj => HoldsK.run hHd hj⟩⟩
      rw [hw]; simp [sortWorldK, putRowK]; omega
    · rw [hw]; exact below_sortWorld w g q d' os hg1 hB
end Go.Proofs.YtfjaeohfigcciabGreatDoor

namespace Go.Proofs.YtfjaeohfigcciabGreatDoor
open Go.RowKit Go.Sort Go.Shelf

def leR (x y : Rn) : Bool := decide (¬ (y.r < x.r ∨ (y.r = x.r ∧ y.lo < x.lo)))
def unionL (zs ys : List Rn) : List Rn := joinL ((zs ++ ys).mergeSort leR)
def unionR (zs ys : List Rn) : Except Int (List Rn) := if rightB zs = true ∧ rightB ys = true then lim (unionL zs ys) else .error 9
def addR (zs : List Rn) (p n : Int) : Except Int (List Rn) := unionR zs [⟨p, n, n⟩]

theorem union_good {zs ys l : List Rn} (hz : rightB zs = true) (hy : rightB ys = true) (hp : l.Perm (zs ++ ys)) (ho : Ordered l) :
    Good (joinL l) ∧ ∀ p n, covs (joinL l) p n = (covs zs p n || covs ys p n) := by
  have hr : ∀ x ∈ l, rrB x = true := fun x hx => by
    rcases List.mem_append.1 (hp.mem_iff.1 hx) with h | h
    · exact ((right_iff zs).1 hz).2.1 x h
    · exact ((right_iff ys).1 hy).2.1 x h
  obtain ⟨h1, h2⟩ := joinL_good hr ho
  exact ⟨h1, fun p n => by rw [h2, covs_perm hp, covs_append]⟩
theorem mergeSort_ordered (l : List Rn) : Ordered (l.mergeSort leR) := by
  have := List.pairwise_mergeSort (le := leR) (fun a b c h1 h2 => by simp only [leR, decide_eq_true_eq] at *; omega) (fun a b => by simp only [leR, Bool.or_eq_true, decide_eq_true_eq]; omega) l
  exact this.imp fun h => by simpa only [leR, decide_eq_true_eq] using h
theorem unionL_good {zs ys : List Rn} (hz : rightB zs = true) (hy : rightB ys = true) : Good (unionL zs ys) ∧ ∀ p n, covs (unionL zs ys) p n = (covs zs p n || covs ys p n) :=
  union_good hz hy (List.mergeSort_perm _ _) (mergeSort_ordered _)
theorem unionL_of {zs ys l : List Rn} (hz : rightB zs = true) (hy : rightB ys = true) (hp : l.Perm (zs ++ ys)) (ho : Ordered l) : joinL l = unionL zs ys := by
  obtain ⟨a1, a2⟩ := union_good hz hy hp ho
  obtain ⟨b1, b2⟩ := unionL_good hz hy
  exact canon _ _ a1 b1 fun p n => by rw [a2, b2]

def InPost (w : World) (zs : List Rn) (e : Ending) (w' : World) : Prop := ∃ v l, e = .returned v ∧ l.Perm zs ∧ Ordered l ∧ Sl w' w'.heap.size v l ∧ Below w.heap.size w w'

set_option maxHeartbeats 1000000 in
theorem inOrder_any (va vb : Value) (zs ys : List Rn) (w : World) (ha : Sl w w.heap.size va zs) (hb : Sl w w.heap.size vb ys) (hz : zs.length ≤ 64) (hy : ys.length ≤ 64) :
    Calls Tryz.prog 112 #[va, vb] w (InPost w (zs ++ ys)) := by
  have hok : ∀ x ∈ zs ++ ys, x.ok := fun x hx => by
    obtain ⟨_, _, _, _, h1, _⟩ := ha
    obtain ⟨_, _, _, _, h2, _⟩ := hb
    rcases List.mem_append.1 hx with h | h
    · exact h1 x h
    · exact h2 x h
  have hcon := Concat_any va vb zs ys w.heap.size (w.alloc (.cells #[va, vb] 23)) (by simp) (by simp) (by simp) ((ha.alloc (Nat.le_refl _) _).more (by simp)) ((hb.alloc (Nat.le_refl _) _).more (by simp)) (by omega) (by omega)
  have hsz : w.heap.size ≤ (w.alloc (.cells #[va, vb] 23)).heap.size := by simp
  have hbl : Below w.heap.size w (w.alloc (.cells #[va, vb] 23)) := (Below.refl _ w).alloc (Nat.le_refl _) _
  have HC := Lib.hid hcon; clear hcon
  have HBL := Lib.hid hbl; clear hbl
  have HOK := Lib.hid hok; clear hok
  obtain ⟨A1, k1, rfl, _, _, _⟩ := ha
  obtain ⟨A2, k2, rfl, _, _, _⟩ := hb
  go_enter Tryz.func112, Tryz.ntmps112
  go_wp2_with fail
  refine (HC.out).mono ?_
  rintro e w2 ⟨v5, rfl, ho, hb2⟩
  have hs := Sort_any v5 (zs ++ ys) w2 _ ho HOK.out (by simp; omega) hb2.size
  have HS := Lib.hid hs; clear hs ho
  have HB2 := Lib.hid hb2; clear hb2
  go_wp2_with fail
  refine (HS.out).mono ?_
  rintro e w3 ⟨rfl, l, hp, hor, hsl, hb3⟩
  have HP := Lib.hid hp; clear hp
  have HR := Lib.hid hor; clear hor
  have HL := Lib.hid hsl; clear hsl
  have HB3 := Lib.hid hb3; clear hb3
  go_wp2
  go_ret
  exact ⟨v5, l, rfl, HP.out, HR.out, HL.out, HBL.out.trans ((HB2.out.trans HB3.out).mono hsz)⟩

theorem ResPost.of_below {w0 w : World} {res : Except Int (List Rn)} {e : Ending} {w' : World} (h : ResPost w res e w') (hb : Below w0.heap.size w0 w) : ResPost w0 res e w' := by
  cases res with
  | ok l =>
    obtain ⟨v, he, hs, hb'⟩ := h
    exact ⟨v, he, hs, hb.trans (hb'.mono hb.size)⟩
  | error c => exact ⟨h.1, hb.trans (h.2.mono hb.size)⟩

end Go.Proofs.YtfjaeohfigcciabGreatDoor

namespace Go.Proofs.YtfjaeohfigcciabGreatDoor
open Go.RowKit Go.Sort

/-- runs of the call's own, or a code, come back -/
def ResOwn (w : World) (res : Except Int (List Rn)) (e : Ending) (w' : World) : Prop :=
  match res with
  | .ok l => ∃ v, e = .returned (.tuple #[v, .nilIface]) ∧ (Own w' w.heap.size v l ∧ Sl w' w'.heap.size v l) ∧ Below w.heap.size w w'
  | .error c => e = .returned (.tuple #[.slice none 0 0, .iface 74 (.int .i64 c)]) ∧ Below w.heap.size w w'

theorem within_own (v : Value) (l : List Rn) (w w0 : World) (h : Own w w0.heap.size v l) (hok : ∀ x ∈ l, x.ok) (hl : l.length ≤ 1000) (hb : Below w0.heap.size w0 w) :
    Calls Tryz.prog 110 #[v] w (ResOwn w0 (lim l)) := by
  obtain ⟨A, c, rfl, hn, hA⟩ := h.form
  by_cases h64 : l.length ≤ 64
  · refine (within_yes A l.length c w h64).mono fun e w' ⟨he, hw⟩ => ?_
    subst hw
    rw [lim, if_pos h64]
    exact ⟨_, he, ⟨h, h.sl hok⟩, hb⟩
  · refine (within_no A l.length c w (by omega) hl).mono fun e w' ⟨he, hw⟩ => ?_
    subst hw
    rw [lim, if_neg h64]
    exact ⟨he, hb⟩

set_option maxHeartbeats 1000000 in
theorem Drop_wrong1O (v : Value) (zs : List Rn) (p n : Int) (w : World) (h : Sl w w.heap.size v zs) (hx : rightB zs = false) :
    Calls Tryz.prog 102 #[v, .int .u8 p, .int .u32 n] w (ResOwn w (.error 9)) := by
  have hr := Right_any w v zs h
  rw [hx] at hr
  have HR := Lib.hid hr; clear hr hx
  go_enter Tryz.func102, Tryz.ntmps102
  go_wp2_with fail
  refine (HR.out).mono ?_
  rintro e w1 ⟨rfl, hb1⟩
  go_wp2_with fail
  go_ret2
  exact ⟨rfl, hb1⟩

set_option maxHeartbeats 1000000 in
theorem Drop_wrong2O (v : Value) (zs : List Rn) (p n : Int) (w : World) (h : Sl w w.heap.size v zs) (hx : rightB zs = true) (hy : rrB ⟨p, n, n⟩ = false) :
    Calls Tryz.prog 102 #[v, .int .u8 p, .int .u32 n] w (ResOwn w (.error 9)) := by
  have hr := Right_any w v zs h
  rw [hx] at hr
  have HR := Lib.hid hr; clear hr hx
  have hq := fun W => rightRun_any p n n W
  rw [hy] at hq
  have HQ := Lib.hid hq; clear hq hy
  go_enter Tryz.func102, Tryz.ntmps102
  go_wp2_with fail
  refine (HR.out).mono ?_
  rintro e w1 ⟨rfl, hb1⟩
  go_wp2_with fail
  refine (HQ.out _).mono ?_
  rintro e w2 ⟨rfl, rfl⟩
  go_wp2_with fail
  go_ret2
  exact ⟨rfl, hb1.alloc hb1.size _⟩

set_option maxHeartbeats 2000000 in
theorem Drop_rightO (v : Value) (zs : List Rn) (p n : Int) (w : World) (hn : 0 ≤ n ∧ n ≤ 4294967295) (h : Sl w w.heap.size v zs) (hx : rightB zs = true) (hy : rrB ⟨p, n, n⟩ = true) :
    Calls Tryz.prog 102 #[v, .int .u8 p, .int .u32 n] w (ResOwn w (lim (dropL zs p n))) := by
  have h64 : zs.length ≤ 64 := by simp [rightB] at hx; exact hx.1
  have hr := Right_any w v zs h
  rw [hx] at hr
  have HR := Lib.hid hr; clear hr hx
  have hq := fun W => rightRun_any p n n W
  rw [hy] at hq
  have HQ := Lib.hid hq; clear hq hy
  obtain ⟨A, c, rfl, _, hok, hA⟩ := h
  have HA := Lib.hid hA; clear hA
  have HK := Lib.hid hok; clear hok
  obtain ⟨n1, n2⟩ := hn
  generalize hL : lim (dropL zs p n) = L
  have HL := Lib.hid hL; clear hL
  go_enter Tryz.func102, Tryz.ntmps102
  go_wp2_with fail
  refine (HR.out).mono ?_
  rintro e w1 ⟨rfl, hb1⟩
  go_wp2_with fail
  refine (HQ.out _).mono ?_
  rintro e w2 ⟨rfl, rfl⟩
  go_wp2_with fail
  go_loopw [8, 25] (fun s i wr => ∃ k : Nat, i = .int .i64 k ∧ k ≤ zs.length ∧ DropRel w (dropL (zs.take k) p n) s wr) (fun _ i _ => zs.length - (intOf i).toNat)
  case atStart => exact ⟨0, rfl, by omega, Own.nil _ _, hb1.alloc hb1.size _⟩
  case round =>
    obtain ⟨k, rfl, hk, H⟩ := hrel
    by_cases hlt : k < zs.length
    · obtain ⟨b, off, rfl, hbw, hc⟩ := HA.out (by intro h; simp [h] at hlt)
      have hxk : zs[k]? = some zs[k] := List.getElem?_eq_getElem hlt
      generalize zs[k] = x at hxk
      have hxo := HK.out x (List.mem_of_getElem? hxk)
      have hdl := dropL_len (zs.take k) p n
      have hdt := dropL_take p n hxk
      rw [List.length_take] at hdl
      have hdl' : (dropL (zs.take k) p n).length ≤ 128 := by omega
      clear hdl
      obtain ⟨c0, c1, c2⟩ := (hc k x hxk).keep H.2 hbw
      clear hc
      have HX := Lib.hid hxk; clear hxk
      have HO := Lib.hid hxo; clear hxo
      have HT := Lib.hid hdt; clear hdt
      have H0 := Lib.hid H
      have ho := H.1
      have hsz := H.2.size
      clear H
      generalize hY : dropL (zs.take k) p n = Y at hdl' ho HT H0
      clear hY
      by_cases hcv : covB x p n = true
      · have hq := fun W => covers_any x.r x.lo x.hi p n W
        rw [show covB ⟨x.r, x.lo, x.hi⟩ p n = true from hcv] at hq
        have HC := Lib.hid hq; clear hq
        have HV := Lib.hid hcv; clear hcv
        go_wp2_with fail
        refine (HC.out _).mono ?_
        rintro e w3 ⟨rfl, rfl⟩
        go_wp2_with fail
        refine (around_any x.r x.lo x.hi n _ HO.out.1 HO.out.2.1 HO.out.2.2 ⟨n1, n2⟩).mono ?_
        rintro e w4 ⟨v4, rfl, ho4, hb4⟩
        have hown := ((ho.alloc (.cells #[.int .u8 x.r, .int .u32 x.lo, .int .u32 x.hi] 67)).alloc (.cells #[.int .u8 x.r, .int .u32 x.lo, .int .u32 x.hi] 67)).below hb4
        have hsl := ho4.sl (arL_ok HO.out ⟨n1, n2⟩)
        have hal := arL_len x n
        have hbx : Below wr.heap.size wr w4 := (((Below.refl _ wr).alloc (Nat.le_refl _) _).alloc (by simp) _).trans (hb4.mono (by simp; omega))
        have hsx := hbx.size
        have HBX := Lib.hid hbx; clear hbx
        clear ho4 hb4
        go_wp2_with (at_builtin; (refine append_runs rfl _ _ rfl w.heap.size _ Y rfl hown _ _ (arL x n) rfl hsl (by omega) (by omega) ?_); intro v1 w5 ho1 hg1)
        go_roundw
        case rel =>
          refine ⟨k + 1, by go_num, by omega, ?_⟩
          rw [HT.out, if_pos HV.out]
          exact H0.out.step HBX.out hg1 ho1
        case measure => simp [intOf]; omega
      · have hcv : covB x p n = false := by simpa using hcv
        have hq := fun W => covers_any x.r x.lo x.hi p n W
        rw [show covB ⟨x.r, x.lo, x.hi⟩ p n = false from hcv] at hq
        have HC := Lib.hid hq; clear hq
        have HV := Lib.hid hcv; clear hcv
        go_wp2_with fail
        refine (HC.out _).mono ?_
        rintro e w3 ⟨rfl, rfl⟩
        go_wp2_with (at_builtin; (refine append_runs rfl _ _ rfl w.heap.size _ Y rfl (((ho.alloc _).alloc _).alloc _) _ _ [⟨x.r, x.lo, x.hi⟩] rfl (one_sl _ _ x.r x.lo x.hi (by simp) HO.out) (by simp; omega) (by simp; omega) ?_); intro v1 w5 ho1 hg1)
        go_roundw
        case rel =>
          refine ⟨k + 1, by go_num, by omega, ?_⟩
          rw [HT.out, if_neg (by rw [HV.out]; simp)]
          exact H0.out.step ((((Below.refl _ wr).alloc (Nat.le_refl _) _).alloc (by simp) _).alloc (by simp; omega) _) hg1 ho1
        case measure => simp [intOf]; omega
    · have hkk : k = zs.length := by omega
      have ht : zs.take k = zs := List.take_of_length_le (by omega)
      rw [ht] at H
      have hdl := dropL_len zs p n
      have hw := within_own _ _ _ w H.1 (dropL_ok HK.out ⟨n1, n2⟩) (by omega) H.2
      rw [HL.out] at hw
      have HW := Lib.hid hw; clear hw hdl ht hkk H
      go_wp2_with fail
      refine (HW.out).mono ?_
      cases L with
      | ok l =>
        rintro e w9 ⟨v9, rfl, hv9, hb9⟩
        have H9 := Lib.hid hv9; clear hv9
        go_wp2_with fail
        go_ret2
        exact ⟨v9, rfl, H9.out, hb9⟩
      | error cc =>
        rintro e w9 ⟨rfl, hb9⟩
        go_wp2_with fail
        go_ret2
        exact ⟨rfl, hb9⟩

theorem Drop_anyO (v : Value) (zs : List Rn) (p n : Int) (w : World) (hn : 0 ≤ n ∧ n ≤ 4294967295) (h : Sl w w.heap.size v zs) :
    Calls Tryz.prog 102 #[v, .int .u8 p, .int .u32 n] w (ResOwn w (dropR zs p n)) := by
  unfold dropR
  by_cases hx : rightB zs = true
  · by_cases hy : rrB ⟨p, n, n⟩ = true
    · rw [if_pos ⟨hx, hy⟩]; exact Drop_rightO v zs p n w hn h hx hy
    · rw [if_neg (fun h => hy h.2)]; exact Drop_wrong2O v zs p n w h hx (by simpa using hy)
  · rw [if_neg (fun h => hx h.1)]; exact Drop_wrong1O v zs p n w h (by simpa using hx)
end Go.Proofs.YtfjaeohfigcciabGreatDoor

namespace Go.Proofs.YtfjaeohfigcciabGreatDoor
open Go.RowKit Go.Sort

set_option maxHeartbeats 1000000 in
theorem Union_wrong1O (va vb : Value) (zs : List Rn) (w : World) (ha : Sl w w.heap.size va zs) (hx : rightB zs = false) :
    Calls Tryz.prog 72 #[va, vb] w (ResOwn w (.error 9)) := by
  have hr := Right_any w va zs ha
  rw [hx] at hr
  have HR := Lib.hid hr; clear hr hx
  go_enter Tryz.func72, Tryz.ntmps72
  go_wp2_with fail
  refine (HR.out).mono ?_
  rintro e w1 ⟨rfl, hb1⟩
  go_wp2_with fail
  go_ret2
  exact ⟨rfl, hb1⟩

set_option maxHeartbeats 1000000 in
theorem Union_wrong2O (va vb : Value) (zs ys : List Rn) (w : World) (ha : Sl w w.heap.size va zs) (hb : Sl w w.heap.size vb ys) (hx : rightB zs = true) (hy : rightB ys = false) :
    Calls Tryz.prog 72 #[va, vb] w (ResOwn w (.error 9)) := by
  have hr := Right_any w va zs ha
  rw [hx] at hr
  have HR := Lib.hid hr; clear hr hx
  have hq := fun w1 (hb1 : Below w.heap.size w w1) => Right_any w1 vb ys ((hb.below hb1).more hb1.size)
  rw [hy] at hq
  have HQ := Lib.hid hq; clear hq hy
  go_enter Tryz.func72, Tryz.ntmps72
  go_wp2_with fail
  refine (HR.out).mono ?_
  rintro e w1 ⟨rfl, hb1⟩
  go_wp2_with fail
  refine (HQ.out w1 hb1).mono ?_
  rintro e w2 ⟨rfl, hb2⟩
  go_wp2_with fail
  go_ret2
  exact ⟨rfl, hb1.trans (hb2.mono hb1.size)⟩

set_option maxHeartbeats 1000000 in
theorem Union_rightO (va vb : Value) (zs ys : List Rn) (w : World) (ha : Sl w w.heap.size va zs) (hb : Sl w w.heap.size vb ys) (hx : rightB zs = true) (hy : rightB ys = true) :
    Calls Tryz.prog 72 #[va, vb] w (ResOwn w (lim (unionL zs ys))) := by
  have hz64 := ((right_iff zs).1 hx).1
  have hy64 := ((right_iff ys).1 hy).1
  have hun := fun l hp ho => unionL_of (l := l) hx hy hp ho
  have hr := Right_any w va zs ha
  rw [hx] at hr
  have HR := Lib.hid hr; clear hr hx
  have hq := fun w1 (hb1 : Below w.heap.size w w1) => Right_any w1 vb ys ((hb.below hb1).more hb1.size)
  rw [hy] at hq
  have HQ := Lib.hid hq; clear hq hy
  have hin := fun w1 (hb1 : Below w.heap.size w w1) => inOrder_any va vb zs ys w1 ((ha.below hb1).more hb1.size) ((hb.below hb1).more hb1.size) hz64 hy64
  have HI := Lib.hid hin; clear hin
  have HU := Lib.hid hun; clear hun
  generalize hL : lim (unionL zs ys) = L
  have HL := Lib.hid hL; clear hL
  go_enter Tryz.func72, Tryz.ntmps72
  go_wp2_with fail
  refine (HR.out).mono ?_
  rintro e w1 ⟨rfl, hb1⟩
  go_wp2_with fail
  refine (HQ.out w1 hb1).mono ?_
  rintro e w2 ⟨rfl, hb2⟩
  have hb12 := hb1.trans (hb2.mono hb1.size)
  have HB12 := Lib.hid hb12; clear hb12 hb1 hb2
  go_wp2_with fail
  refine (HI.out w2 HB12.out).mono ?_
  rintro e w3 ⟨v3, l, rfl, hp, ho, hsl, hb3⟩
  have hll : l.length ≤ 128 := by rw [hp.length_eq]; simp; omega
  have hokl : ∀ x ∈ l, x.ok := by obtain ⟨_, _, _, _, h1, _⟩ := hsl; exact h1
  have hj := joined_any v3 l w3 (by omega) hsl
  rw [HU.out l hp ho] at hj
  have hju := joinL_ok hokl
  have hjl := joinL_len hokl
  rw [HU.out l hp ho] at hju hjl
  have HJ := Lib.hid hj; clear hj
  have HJU := Lib.hid hju; clear hju
  have hb13 := HB12.out.trans (hb3.mono HB12.out.size)
  have HB13 := Lib.hid hb13; clear hb13 hb3
  clear hp ho hsl hokl
  go_wp2_with fail
  refine (HJ.out).mono ?_
  rintro e w4 ⟨v4, rfl, ho4, hb4⟩
  have hb14 := HB13.out.trans (hb4.mono HB13.out.size)
  have hw := within_own v4 _ w4 w (ho4.mono HB13.out.size) HJU.out (by omega) hb14
  rw [HL.out] at hw
  have HW := Lib.hid hw; clear hw ho4 hb4 hb14
  go_wp2_with fail
  refine (HW.out).mono ?_
  cases L with
  | ok l =>
    rintro e w9 ⟨v9, rfl, hv9, hb9⟩
    have H9 := Lib.hid hv9; clear hv9
    go_wp2_with fail
    go_ret2
    exact ⟨v9, rfl, H9.out, hb9⟩
  | error cc =>
    rintro e w9 ⟨rfl, hb9⟩
    go_wp2_with fail
    go_ret2
    exact ⟨rfl, hb9⟩

theorem Union_anyO (va vb : Value) (zs ys : List Rn) (w : World) (ha : Sl w w.heap.size va zs) (hb : Sl w w.heap.size vb ys) :
    Calls Tryz.prog 72 #[va, vb] w (ResOwn w (unionR zs ys)) := by
  unfold unionR
  by_cases hx : rightB zs = true
  · by_cases hy : rightB ys = true
    · rw [if_pos ⟨hx, hy⟩]; exact Union_rightO va vb zs ys w ha hb hx hy
    · rw [if_neg (fun h => hy h.2)]; exact Union_wrong2O va vb zs ys w ha hb hx (by simpa using hy)
  · rw [if_neg (fun h => hx h.1)]; exact Union_wrong1O va vb zs w ha (by simpa using hx)

theorem ResOwn.of_below {w0 w : World} {res : Except Int (List Rn)} {e : Ending} {w' : World} (h : ResOwn w res e w') (hb : Below w0.heap.size w0 w) : ResOwn w0 res e w' := by
  cases res with
  | ok l =>
    obtain ⟨v, he, hs, hb'⟩ := h
    exact ⟨v, he, ⟨hs.1.mono hb.size, hs.2⟩, hb.trans (hb'.mono hb.size)⟩
  | error c => exact ⟨h.1, hb.trans (h.2.mono hb.size)⟩

set_option maxHeartbeats 1000000 in
theorem Add_anyO (v : Value) (zs : List Rn) (p n : Int) (w : World) (hp : 0 ≤ p ∧ p ≤ 255) (hn : 0 ≤ n ∧ n ≤ 4294967295) (h : Sl w w.heap.size v zs) :
    Calls Tryz.prog 109 #[v, .int .u8 p, .int .u32 n] w (ResOwn w (addR zs p n)) := by
  have hbl : Below w.heap.size w (w.alloc (.cells #[.int .u8 p, .int .u32 n, .int .u32 n] 67)) := (Below.refl _ w).alloc (Nat.le_refl _) _
  have hu := (Union_anyO v (.slice (some ⟨w.heap.size, 0, none⟩) 1 1) zs [⟨p, n, n⟩] (w.alloc (.cells #[.int .u8 p, .int .u32 n, .int .u32 n] 67))
    ((h.below hbl).more (by simp)) ((one_sl w w.heap.size p n n rfl ⟨hp, hn, hn⟩).more (by simp))).mono fun e w' hr => hr.of_below hbl
  have HU := Lib.hid hu; clear hu hbl
  change Hid (Calls _ _ _ _ (fun e w' => ResOwn w (addR zs p n) e w')) at HU
  generalize addR zs p n = L at HU ⊢
  obtain ⟨A, c, rfl, _, _, _⟩ := h
  go_enter Tryz.func109, Tryz.ntmps109
  go_wp2_with fail
  refine (HU.out).mono ?_
  cases L with
  | ok l =>
    rintro e w9 ⟨v9, rfl, hv9, hb9⟩
    have H9 := Lib.hid hv9; clear hv9
    go_wp2_with fail
    go_ret2
    exact ⟨v9, rfl, H9.out, hb9⟩
  | error cc =>
    rintro e w9 ⟨rfl, hb9⟩
    go_wp2_with fail
    go_ret2
    exact ⟨rfl, hb9⟩
end Go.Proofs.YtfjaeohfigcciabGreatDoor

namespace Go.Proofs.YtfjaeohfigcciabGreatDoor

theorem rp_all {r : Rp} (h : rpB r = true) : headR r = true ∧ topB r.rep r.seq r.know = true ∧ topB r.rep r.seq r.ses.offer = true ∧ (List.range r.held.length).all (heldAt r) = true := by
  unfold rpB at h
  simp only [Bool.and_eq_true] at h
  exact ⟨h.1, h.2.1, h.2.2.1, h.2.2.2⟩
end Go.Proofs.YtfjaeohfigcciabGreatDoor

namespace Go.Proofs.YtfjaeohfigcciabGreatDoor
open Go.RowKit Go.Sort Go.Shelf

theorem right_of_good {l : List Rn} (h : l.length ≤ 64) (hg : Good l) : rightB l = true := (right_iff l).2 ⟨h, hg⟩

end Go.Proofs.YtfjaeohfigcciabGreatDoor

namespace Go.Proofs.YtfjaeohfigcciabGreatDoor

theorem has_eq' {zs : List Rn} (h : rightB zs = true) (q m : Int) : hasB zs q m = covs zs q m := by simp [hasB, h, covs]
theorem lim_is {l x : List Rn} (h : lim l = .ok x) : l.length ≤ 64 ∧ x = l := by
  unfold lim at h
  split at h
  · exact ⟨by assumption, by cases h; rfl⟩
  · cases h
/-- a union that is told: its parts are right, and so is it -/
theorem union_told {zs ys z : List Rn} (h : unionR zs ys = .ok z) : rightB zs = true ∧ rightB ys = true ∧ rightB z = true ∧ ∀ p n, covs z p n = (covs zs p n || covs ys p n) := by
  unfold unionR at h
  split at h
  · rename_i hr
    obtain ⟨hl, rfl⟩ := lim_is h
    obtain ⟨g1, g2⟩ := unionL_good hr.1 hr.2
    exact ⟨hr.1, hr.2, right_of_good hl g1, g2⟩
  · cases h
theorem union_of {zs ys : List Rn} (h1 : rightB zs = true) (h2 : rightB ys = true) : unionR zs ys = lim (unionL zs ys) := by
  unfold unionR; rw [if_pos ⟨h1, h2⟩]
theorem unionL_is {zs ys u : List Rn} (h1 : rightB zs = true) (h2 : rightB ys = true) (hu : Good u) (hc : ∀ p n, covs u p n = (covs zs p n || covs ys p n)) : unionL zs ys = u := by
  obtain ⟨g1, g2⟩ := unionL_good h1 h2
  exact canon _ _ g1 hu fun p n => by rw [g2, hc]
end Go.Proofs.YtfjaeohfigcciabGreatDoor

namespace Go.Proofs.YtfjaeohfigcciabGreatDoor

/-- what Accept tells: a replica, a Pull, whether there is more, a code -/
structure Acc where
  r : Rp
  p : Nt
  more : Bool
  code : Int
/-- it is the one that is waited for -/
def waitB (r : Rp) (n : Nt) : Bool := !(n.kind != 2) && (!(n.dst != r.rep) && (r.ses.on && (!(n.src != r.ses.src) && (!(n.num != r.ses.num) && !(n.cur != r.ses.cur)))))
/-- one is of the replica's own, above its number -/
def aheadE (r : Rp) (e : En) : Bool := (e.rep == r.rep) && decide (r.seq < e.seq)
/-- of one Rep and one Seq -/
def alikeE (e x : En) : Bool := (x.rep == e.rep) && (x.seq == e.seq)
def otherAt (l : List En) (i k : Nat) : Bool := (k != i) && alikeE l[i]! l[k]!
def otherHeld (e x : En) : Bool := (x.id != e.id) && alikeE e x
def twiceAt (h l : List En) (i : Nat) : Bool := (List.range l.length).any (otherAt l i) || h.any (otherHeld l[i]!)
/-- something of it may not be -/
def clashB (r : Rp) (b : Nt) : Bool := b.ents.any (aheadE r) || ((List.range b.ents.length).any (twiceAt r.held b.ents) || !topB r.rep r.seq b.offer)
/-- the entries taken, one by one: what is known, and what is held -/
def takesR (f : Int) : List En → List Rn → List En → Except Int (List Rn × List En)
  | [], k, h => .ok (k, h)
  | e :: es, k, h =>
    if e.kind = 2 ∧ inB e f = true then takesR f es k (takeS h (fitE f e))
    else match addR k e.rep e.seq with
      | .ok k' => takesR f es k' (takeS h (fitE f e))
      | .error c => .error c
/-- a replica behind a Batch's entries -/
def afterP (r : Rp) (b : Nt) (k : List Rn) (h : List En) : Rp :=
  ⟨r.rep, r.flt, r.epoch, r.seq, k, h, ⟨r.ses.on, r.ses.num, r.ses.src, r.ses.cur, if b.cur = 0 then b.epoch else r.ses.epoch, if b.cur = 0 then b.offer else r.ses.offer, r.ses.last⟩⟩
def moveP (r : Rp) (c : Int) : Rp := ⟨r.rep, r.flt, r.epoch, r.seq, r.know, r.held, ⟨r.ses.on, r.ses.num, r.ses.src, c, r.ses.epoch, r.ses.offer, r.ses.last⟩⟩
def noAcc (c : Int) : Acc := ⟨zeroP, zeroN, false, c⟩
def knowP (r : Rp) (k : List Rn) : Rp := ⟨r.rep, r.flt, r.epoch, r.seq, k, r.held, r.ses⟩
/-- behind the entries -/
def endR (b : Nt) (s : Rp) : Acc :=
  if b.done = true then (match unionR s.know s.ses.offer with | .ok k => ⟨offP (knowP s k), zeroN, false, 0⟩ | .error c => noAcc c)
  else ⟨moveP s b.next, pullP (moveP s b.next), true, 0⟩
def takeP (r : Rp) (b : Nt) : Acc :=
  match takesR r.flt b.ents r.know r.held with
  | .error c => noAcc c
  | .ok x => endR b (afterP r b x.1 x.2)
def acceptR (r : Rp) (b : Nt) : Acc :=
  if rpB r = false then noAcc 9 else if noteB b = false then noAcc 3 else if waitB r b = false then noAcc 4 else if clashB r b = true then noAcc 9
  else if 0 < b.cur ∧ b.epoch ≠ r.ses.epoch then ⟨offP r, zeroN, false, 10⟩ else takeP r b

/-! what is known and held behind entries -/
theorem takes_snoc (f : Int) (e : En) : ∀ (l : List En) (k : List Rn) (h : List En), takesR f (l ++ [e]) k h = (match takesR f l k h with | .ok x => takesR f [e] x.1 x.2 | .error c => .error c)
  | [], k, h => rfl
  | y :: l, k, h => by
    simp only [List.cons_append, takesR]
    split
    · exact takes_snoc f e l _ _
    · cases addR k y.rep y.seq with
      | error c => rfl
      | ok k' => exact takes_snoc f e l k' _
theorem takes_bad (f : Int) (l2 : List En) : ∀ (l : List En) (k : List Rn) (h : List En) (c : Int), takesR f l k h = .error c → takesR f (l ++ l2) k h = .error c
  | [], k, h, c, he => by simp [takesR] at he
  | y :: l, k, h, c, he => by
    simp only [List.cons_append, takesR] at he ⊢
    split
    · rename_i hw; rw [if_pos hw] at he; exact takes_bad f l2 l _ _ c he
    · rename_i hw
      rw [if_neg hw] at he
      cases ha : addR k y.rep y.seq with
      | error d => rw [ha] at he; exact he
      | ok k' => rw [ha] at he; exact takes_bad f l2 l k' _ c he
theorem add_right {k k' : List Rn} {p n : Int} (h : addR k p n = .ok k') : rightB k' = true := (union_told h).2.2.1
theorem add_has {k k' : List Rn} {p n : Int} (h : addR k p n = .ok k') (q m : Int) : covs k' q m = (covs k q m || (decide (p = q) && decide (n = m))) := by
  rw [(union_told h).2.2.2 q m]
  congr 1
  rw [Bool.eq_iff_iff]
  simp only [covs_iff, List.mem_singleton, Bool.and_eq_true, decide_eq_true_eq]
  constructor
  · rintro ⟨x, rfl, h1, h2, h3⟩
    simp only at h1 h2 h3
    exact ⟨h1, by omega⟩
  · rintro ⟨h1, h2⟩
    exact ⟨_, rfl, h1, by simp; omega, by simp; omega⟩
theorem takeS_up {zs : List En} (hr : Rise zs) (e : En) {id : Int} {u : Vr} (h : ∃ v, verAt zs id = some v ∧ ltV v u = false) : ∃ v, verAt (takeS zs e) id = some v ∧ ltV v u = false := by
  rw [verAt_take e id hr]
  exact step_up e id h
theorem takeS_has {zs : List En} (hr : Rise zs) (e : En) : ∃ v, verAt (takeS zs e) e.id = some v ∧ ltV v e.ver = false := by
  rw [verAt_take e e.id hr, stepV, if_pos rfl]
  refine ⟨_, rfl, ?_⟩
  unfold mx
  cases verAt zs e.id with
  | none => exact ltV_irrefl _
  | some u =>
    simp only
    split
    · exact ltV_irrefl _
    · rename_i h; simpa using h
/-- what entries that were taken leave behind -/
structure TookB (f : Int) (l : List En) (k : List Rn) (h : List En) (k' : List Rn) (h' : List En) : Prop where
  right : rightB k = true → rightB k' = true
  rise : Rise h'
  good : (∀ x ∈ h, reB x = true) → (∀ x ∈ l, reB x = true) → ∀ x ∈ h', reB x = true
  okh : (∀ x ∈ h, x.ok) → (∀ x ∈ l, x.ok) → ∀ x ∈ h', x.ok
  was : ∀ q m, covs k q m = true → covs k' q m = true
  now : ∀ q m, covs k' q m = true → covs k q m = true ∨ ∃ x ∈ l, x.rep = q ∧ x.seq = m
  up : ∀ id u, (∃ v, verAt h id = some v ∧ ltV v u = false) → ∃ v, verAt h' id = some v ∧ ltV v u = false
  has : ∀ x ∈ l, ∃ v, verAt h' x.id = some v ∧ ltV v x.ver = false
  len : h'.length ≤ h.length + l.length
theorem tookB (f : Int) : ∀ (l : List En) (k : List Rn) (h : List En) (k' : List Rn) (h' : List En), Rise h → takesR f l k h = .ok (k', h') → TookB f l k h k' h'
  | [], k, h, k', h', hr, he => by
    simp only [takesR, Except.ok.injEq, Prod.mk.injEq] at he
    obtain ⟨rfl, rfl⟩ := he
    exact ⟨id, hr, fun g _ => g, fun g _ => g, fun _ _ g => g, fun _ _ g => .inl g, fun _ _ g => g, (fun x hx => by cases hx), Nat.le_refl _⟩
  | e :: l, k, h, k', h', hr, he => by
    have hver : (fitE f e).ver = e.ver := by
      obtain ⟨_, e2, e3, e4⟩ := fit_same f e
      unfold En.ver
      rw [e2, e3, e4]
    have hid := (fit_same f e).1
    have step : ∀ k2, (rightB k = true → rightB k2 = true) → (∀ q m, covs k q m = true → covs k2 q m = true) → (∀ q m, covs k2 q m = true → covs k q m = true ∨ (e.rep = q ∧ e.seq = m)) → takesR f l k2 (takeS h (fitE f e)) = .ok (k', h') → TookB f (e :: l) k h k' h' := fun k2 hk hm hn he => by
      have T := tookB f l k2 _ k' h' (takeS_rise _ hr) he
      refine ⟨fun g => T.right (hk g), T.rise, fun g1 g2 => T.good (fun x hx => ?_) (fun x hx => g2 x (by simp [hx])), fun g1 g2 => T.okh (fun x hx => ?_) (fun x hx => g2 x (by simp [hx])), fun q m g => T.was q m (hm q m g), fun q m g => ?_, fun id u g => T.up id u (takeS_up hr _ g), fun x hx => ?_, by have h1 := T.len; have h2 := takeS_length h (fitE f e); simp only [List.length_cons]; omega⟩
      · rcases mem_takeS hx with h1 | h1
        · rw [h1]; exact fit_re (g2 e (by simp))
        · exact g1 x h1
      · rcases mem_takeS hx with h1 | h1
        · rw [h1]; exact fit_ok (g2 e (by simp))
        · exact g1 x h1
      · rcases T.now q m g with g1 | ⟨x, hx, h1, h2⟩
        · rcases hn q m g1 with g2 | ⟨h1, h2⟩
          · exact .inl g2
          · exact .inr ⟨e, by simp, h1, h2⟩
        · exact .inr ⟨x, by simp [hx], h1, h2⟩
      · rcases List.mem_cons.1 hx with rfl | hx
        · refine T.up _ _ ?_
          have := takeS_has hr (fitE f x)
          rw [hid, hver] at this
          exact this
        · exact T.has x hx
    simp only [takesR] at he
    split at he
    · exact step k id (fun _ _ g => g) (fun _ _ g => .inl g) he
    · cases ha : addR k e.rep e.seq with
      | error c => rw [ha] at he; cases he
      | ok k2 =>
        rw [ha] at he
        have hh := add_has ha
        refine step k2 (fun _ => add_right ha) (fun q m g => by rw [hh, g]; rfl) (fun q m g => ?_) he
        rw [hh] at g
        simp only [Bool.or_eq_true, Bool.and_eq_true, decide_eq_true_eq] at g
        exact g
end Go.Proofs.YtfjaeohfigcciabGreatDoor

namespace Go.Proofs.YtfjaeohfigcciabGreatDoor

/-- why a note isn't taken in -/
def refuseA (r : Rp) (b : Nt) : Option Int :=
  if rpB r = false then some 9 else if noteB b = false then some 3 else if waitB r b = false then some 4 else if clashB r b = true then some 9 else if 0 < b.cur ∧ b.epoch ≠ r.ses.epoch then some 10 else none
theorem accept_none {r : Rp} {b : Nt} (h : refuseA r b = none) : acceptR r b = takeP r b := by
  unfold refuseA at h
  unfold acceptR
  split at h
  · cases h
  split at h
  · cases h
  split at h
  · cases h
  split at h
  · cases h
  split at h
  · cases h
  rename_i h1 h2 h3 h4 h5
  rw [if_neg h1, if_neg h2, if_neg h3, if_neg h4, if_neg h5]
theorem accept_some {r : Rp} {b : Nt} {c : Int} (h : refuseA r b = some c) : acceptR r b = (if c = 10 then ⟨offP r, zeroN, false, 10⟩ else noAcc c) ∧ (c = 9 ∨ c = 3 ∨ c = 4 ∨ c = 10) := by
  unfold refuseA at h
  unfold acceptR
  split at h
  · rename_i h1; injection h with h; subst h; rw [if_pos h1]; exact ⟨rfl, by simp⟩
  split at h
  · rename_i h1 h2; injection h with h; subst h; rw [if_neg h1, if_pos h2]; exact ⟨rfl, by simp⟩
  split at h
  · rename_i h1 h2 h3; injection h with h; subst h; rw [if_neg h1, if_neg h2, if_pos h3]; exact ⟨rfl, by simp⟩
  split at h
  · rename_i h1 h2 h3 h4; injection h with h; subst h; rw [if_neg h1, if_neg h2, if_neg h3, if_pos h4]; exact ⟨rfl, by simp⟩
  split at h
  · rename_i h1 h2 h3 h4 h5; injection h with h; subst h; rw [if_neg h1, if_neg h2, if_neg h3, if_neg h4, if_pos h5]; exact ⟨rfl, by simp⟩
  · cases h
structure GoesIn (r : Rp) (b : Nt) : Prop where
  rp : rpB r = true
  nb : noteB b = true
  wait : waitB r b = true
  clash : clashB r b = false
  ep : ¬ (0 < b.cur ∧ b.epoch ≠ r.ses.epoch)
theorem refuse_goes {r : Rp} {b : Nt} (h : refuseA r b = none) : GoesIn r b := by
  unfold refuseA at h
  split at h
  · cases h
  split at h
  · cases h
  split at h
  · cases h
  split at h
  · cases h
  split at h
  · cases h
  rename_i h1 h2 h3 h4 h5
  exact ⟨by simpa using h1, by simpa using h2, by simpa using h3, by simpa using h4, h5⟩
theorem wait_on {r : Rp} {b : Nt} (h : waitB r b = true) : r.ses.on = true ∧ b.kind = 2 := by
  unfold waitB at h
  simp only [Bool.and_eq_true, Bool.not_eq_true', bne_eq_false_iff_eq] at h
  exact ⟨h.2.2.1, h.1⟩
theorem batch_of {b : Nt} (h : noteB b = true) (hk : b.kind = 2) : erightB b.ents = true ∧ b.ents.length ≤ 4 ∧ rightB b.offer = true := by
  unfold noteB at h
  rw [hk, if_neg (by decide)] at h
  simp only [batchB, Bool.and_eq_true, decide_eq_true_eq] at h
  exact ⟨h.2.2.1, h.2.1.2.2.2, h.2.2.2.1⟩

theorem twice_any {l h : List En} (hr : Rise l) : (List.range l.length).any (twiceAt h l) = l.any (fun e => l.any (otherHeld e) || h.any (otherHeld e)) := by
  have hid : ∀ i k (hi : i < l.length) (hk : k < l.length), (l[k].id != l[i].id) = (k != i) := fun i k hi hk => by
    rw [Bool.eq_iff_iff]
    simp only [bne_iff_ne, ne_eq]
    have hp := List.pairwise_iff_getElem.1 hr
    constructor
    · intro h e; subst e; exact h rfl
    · intro h e
      rcases Nat.lt_or_gt_of_ne h with h1 | h1
      · have := hp k i hk hi h1; omega
      · have := hp i k hi hk h1; omega
  have hin : ∀ i (hi : i < l.length), (List.range l.length).any (otherAt l i) = l.any (otherHeld l[i]) := fun i hi => by
    rw [Bool.eq_iff_iff, List.any_eq_true, List.any_eq_true]
    constructor
    · rintro ⟨k, hk, ho⟩
      have hk := List.mem_range.1 hk
      refine ⟨l[k], List.getElem_mem hk, ?_⟩
      unfold otherAt at ho
      rw [egetBang_of (List.getElem?_eq_getElem hi), egetBang_of (List.getElem?_eq_getElem hk)] at ho
      unfold otherHeld
      rw [hid i k hi hk]
      exact ho
    · rintro ⟨x, hx, ho⟩
      obtain ⟨k, hk, rfl⟩ := List.mem_iff_getElem.1 hx
      refine ⟨k, List.mem_range.2 hk, ?_⟩
      unfold otherAt
      rw [egetBang_of (List.getElem?_eq_getElem hi), egetBang_of (List.getElem?_eq_getElem hk)]
      unfold otherHeld at ho
      rw [hid i k hi hk] at ho
      exact ho
  rw [Bool.eq_iff_iff, List.any_eq_true, List.any_eq_true]
  constructor
  · rintro ⟨i, hi, ht⟩
    have hi := List.mem_range.1 hi
    refine ⟨l[i], List.getElem_mem hi, ?_⟩
    unfold twiceAt at ht
    rw [hin i hi, egetBang_of (List.getElem?_eq_getElem hi)] at ht
    exact ht
  · rintro ⟨x, hx, ht⟩
    obtain ⟨i, hi, rfl⟩ := List.mem_iff_getElem.1 hx
    refine ⟨i, List.mem_range.2 hi, ?_⟩
    unfold twiceAt
    rw [hin i hi, egetBang_of (List.getElem?_eq_getElem hi)]
    exact ht
def aheadR (r : Rp) (b : Nt) : Bool := b.ents.any (aheadE r) || b.offer.any (topC r.rep r.seq)
def clashR (r : Rp) (b : Nt) : Bool := b.ents.any (fun e => b.ents.any (otherHeld e) || r.held.any (otherHeld e))
theorem clash_is {r : Rp} {b : Nt} (h : erightB b.ents = true) : (aheadR r b || clashR r b) = clashB r b := by
  unfold aheadR clashR clashB
  rw [twice_any (rise_of_right h), ← top_any, Bool.not_not]
  cases b.ents.any (aheadE r) <;> cases b.offer.any (topC r.rep r.seq) <;> simp

theorem fade_wanted (e : En) (f : Int) : ((fitE f e).kind = 2 ∧ inB (fitE f e) f = true) ↔ (e.kind = 2 ∧ inB e f = true) := by
  unfold fitE
  split
  · exact Iff.rfl
  · rename_i hi
    unfold fadeE
    split
    · rename_i hk
      constructor
      · rintro ⟨_, h2⟩
        exfalso
        apply hi
        unfold inB at h2 ⊢
        simp only [Bool.or_eq_true, decide_eq_true_eq] at h2 ⊢
        rcases h2 with h2 | h2
        · exact absurd h2 (by decide)
        · exact .inr h2
      · rintro ⟨h1, _⟩
        rw [hk] at h1
        exact absurd h1 (by decide)
    · exact Iff.rfl
/-- what one entry does -/
theorem tc_one (f : Int) (e : En) (k : List Rn) (h : List En) : takesR f [e] k h =
    if e.kind = 2 ∧ inB e f = true then .ok (k, takeS h (fitE f e)) else (match addR k e.rep e.seq with | .ok k' => .ok (k', takeS h (fitE f e)) | .error c => .error c) := by
  unfold takesR takesR
  split
  · rfl
  · cases addR k e.rep e.seq <;> rfl
theorem tc_take {l : List En} {i : Nat} {e : En} (h : l[i]? = some e) : l.take (i + 1) = l.take i ++ [e] := by
  obtain ⟨hi, rfl⟩ := List.getElem?_eq_some_iff.1 h
  rw [List.take_succ_eq_append_getElem hi]
theorem tc_next {f : Int} {l : List En} {i : Nat} {e : En} {k0 : List Rn} {h0 : List En} {x : List Rn × List En} (he : l[i]? = some e) (h : takesR f (l.take i) k0 h0 = .ok x) :
    takesR f (l.take (i + 1)) k0 h0 = takesR f [e] x.1 x.2 := by
  rw [tc_take he, takes_snoc, h]
theorem tc_dies {f : Int} {l : List En} {i : Nat} {k0 : List Rn} {h0 : List En} {c : Int} (h : takesR f (l.take i) k0 h0 = .error c) : takesR f l k0 h0 = .error c := by
  have := takes_bad f (l.drop i) (l.take i) k0 h0 c h
  rwa [List.take_append_drop] at this
end Go.Proofs.YtfjaeohfigcciabGreatDoor

