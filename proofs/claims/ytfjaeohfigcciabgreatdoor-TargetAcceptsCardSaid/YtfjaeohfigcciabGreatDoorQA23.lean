/- Texts in one: TC4, TakeO, Concat, Order, Union, DropO, UnionO, Awake, LawMath, PAcc, TCMath, TC7, TC8, TC8b. -/
import Derived.Shelf.SlSortCmp.NoneTotal
import Derived.Test.YtfjaeohfigcciabGreatDoorQA22
import Derived.Test.YtfjaeohfigcciabGreatDoorQA02
import Derived.Test.YtfjaeohfigcciabGreatDoorQA21
import Derived.Test.YtfjaeohfigcciabGreatDoorQA14
import Derived.Test.YtfjaeohfigcciabGreatDoorQA17
set_option linter.all false
namespace Go.Proofs.YtfjaeohfigcciabGreatDoor
open Go.RowKit

def sureOf {α : Type} (o : Option Int) (x : α) : Except Int α := match o with | some c => .error c | none => .ok x
theorem rep_row_one (r : Rp) (l : Ls) : (repR r l).all (·.oneCell') = true := by simp [repR,repRow,Rp.cells,Value.oneCell']
theorem rep_row_size (r : Rp) (l : Ls) : (Tryz.prog.info? 28).map (·.size) = some (repR r l).size := rep_size1

set_option maxHeartbeats 8000000 in
set_option maxRecDepth 100000 in
theorem tBeginC_any (r : Rp) (lr : Ls) (src : Int) (W : World) (g g1 : Nat) (hbr : Blk W g (repR r lr) 28) (hc1 : W.cell? ⟨g1,0,none⟩ = some (.int .u8 src)) (hv : RpV W W.heap.size (.agg (repR r lr)) r) (hsrc : 0 ≤ src ∧ src ≤ 255)
    (h1 : r.know.length ≤ 1000) (h2 : r.held.length ≤ 1000) (h3 : r.ses.offer.length ≤ 1000) :
    Calls Tryz.prog 45 #[.pointer (some ⟨g,0,none⟩),.pointer (some ⟨g1,0,none⟩)] W (RepSure W (sureOf (refuseB r src) (beginP r src))) := by
  have hb0 := al1 W (.cells #[.int .u8 0,.int .u8 0,.int .u32 0,.int .u32 0,.slice none 0 0,.slice none 0 0,.bool false,.int .u32 0,.int .u8 0,.int .u8 0,.int .u32 0,.slice none 0 0,.int .u32 0] 28)
  have HC := Lib.hid (show Calls _ _ _ _ (RepSure _ (sureOf (refuseB r src) (beginP r src))) from tbegun_any (.agg (repR r lr)) r src (W.alloc (.cells #[.int .u8 0,.int .u8 0,.int .u32 0,.int .u32 0,.slice none 0 0,.slice none 0 0,.bool false,.int .u32 0,.int .u8 0,.int .u8 0,.int .u32 0,.slice none 0 0,.int .u32 0] 28)) (hv.later hb0) hsrc h1 h2 h3)
  generalize sureOf (refuseB r src) (beginP r src) = res at HC ⊢
  have BO := Lib.hid (Blk.new W #[.int .u8 0,.int .u8 0,.int .u32 0,.int .u32 0,.slice none 0 0,.slice none 0 0,.bool false,.int .u32 0,.int .u8 0,.int .u8 0,.int .u32 0,.slice none 0 0,.int .u32 0] 28)
  have BR := Lib.hid (hbr.keep hb0)
  have c1 := (hb0.cell (p := ⟨g1,0,none⟩) (World.block_lt_of_cell? W ⟨g1,0,none⟩ hc1)).trans hc1
  have hi := rep_row_size r lr
  have hl : W.heap.size < (W.alloc (.cells #[.int .u8 0,.int .u8 0,.int .u32 0,.int .u32 0,.slice none 0 0,.slice none 0 0,.bool false,.int .u32 0,.int .u8 0,.int .u8 0,.int .u32 0,.slice none 0 0,.int .u32 0] 28)).heap.size := by simp
  clear hbr hc1 hv h1 h2 h3
  generalize repR r lr = cs at HC BR hi ⊢
  go_enter Tryz.func45,Tryz.ntmps45
  go_upto_region 1 with fail
  have HB := Lib.hid hb0; clear hb0
  generalize W.alloc (.cells #[.int .u8 0,.int .u8 0,.int .u32 0,.int .u32 0,.slice none 0 0,.slice none 0 0,.bool false,.int .u32 0,.int .u8 0,.int .u8 0,.int .u32 0,.slice none 0 0,.int .u32 0] 28) = W0 at HC BO BR HB c1 hl ⊢
  go_wp2_with (refine wpList_load_row rfl _ _ rfl g rfl 28 cs (0,0) _ BR.out.at_ Tryz.underlying28 rfl hi ?_)
  refine (HC.out).mono ?_
  cases res with
  | error c =>
    rintro e w1 ⟨rfl,hb⟩
    exact ⟨rfl,rfl,HB.out.trans (hb.mono HB.out.size)⟩
  | ok x =>
    rintro e w1 ⟨v,rfl,hv,hav,hb⟩
    obtain ⟨c2,rfl,hs,h1⟩ := hv.row
    have hi2 : (Tryz.prog.info? 28).map (·.size) = some c2.size := by rw [hs]; exact rep_size1
    have BO := Lib.hid (BO.out.keep hb)
    have HV := Lib.hid (hv.rowOff (g := W.heap.size) (hav.mono fun k hk => by omega) c2)
    have HA := Lib.hid (hav.mono fun k (hk : W0.heap.size ≤ k) => (by omega : W.heap.size ≤ k))
    have HB := Lib.hid (HB.out.trans (hb.mono HB.out.size)); clear hb hv hav
    have hz : (w1.setRow W.heap.size c2).heap.size = w1.heap.size := by simp [World.setRow]
    rw [← hz] at HV
    clear hz
    go_wp2_with (refine wpList_store_row rfl _ _ _ rfl W.heap.size c2 rfl rfl 28 _ BO.out.at_ hi2 (by rw [hs]; rfl) h1 ?_)
    refine bodyPost_ret (v := .agg c2) (results_cell_row Tryz.results45 _ _ (W.heap.size) 28 c2 (0,0) _ rfl (BO.out.row c2).at_ Tryz.underlying28 rfl hi2) rfl ?_
    exact ⟨_,rfl,HV.out,HA.out,below_setRow1 (B := W.heap.size) (r := W.heap.size) HB.out (Nat.le_refl _) _⟩

end Go.Proofs.YtfjaeohfigcciabGreatDoor

namespace Go.Proofs.YtfjaeohfigcciabGreatDoor
open Go.RowKit

def TakeOwn (w : World) (res : Option (List En)) (e : Ending) (w' : World) : Prop :=
  match res with
  | some l => ∃ v,e = .returned (.tuple #[v,.nilIface]) ∧ (EOwn w' w.heap.size v l ∧ ESl w' w'.heap.size v l) ∧ Below w.heap.size w w'
  | none => e = .returned (.tuple #[.slice none 0 0,.iface 74 (.int .i64 9)]) ∧ Below w.heap.size w w'

set_option maxHeartbeats 1000000 in
theorem Take_wrong1O (v : Value) (zs : List En) (x : En) (w : World) (h : ESl w w.heap.size v zs) (hl : zs.length ≤ 9000) (hr : erightB zs = false) :
    Calls Tryz.prog 108 #[v,x.agg] w (TakeOwn w none) := by
  simp only [En.agg]
  have hq := iRight_any _ v zs (h.later (al1 w (.cells #[.int .u8 x.id,.int .u8 x.rep,.int .u32 x.seq,.int .u32 x.stamp,.int .i64 x.kind,.int .u8 x.cls,.int .u32 x.val] 62))) (by omega)
  rw [hr] at hq
  have HR := Lib.hid hq; clear hq hr h
  go_enter Tryz.func108,Tryz.ntmps108
  go_wp2_with fail
  refine (HR.out).mono ?_
  rintro e w1 ⟨rfl,hb1⟩
  go_wp2_with fail
  go_ret2
  exact ⟨rfl,(al1 w _).trans (hb1.mono (by simp))⟩

set_option maxHeartbeats 1000000 in
theorem Take_wrong2O (v : Value) (zs : List En) (x : En) (w : World) (h : ESl w w.heap.size v zs) (hl : zs.length ≤ 9000) (hx : x.ok) (hr : erightB zs = true) (he : reB x = false) :
    Calls Tryz.prog 108 #[v,x.agg] w (TakeOwn w none) := by
  have he' := fun W => irightEntry_any x W hx
  simp only [En.agg] at he' ⊢
  rw [he] at he'
  have HE := Lib.hid he'; clear he' he hx
  have hq := iRight_any _ v zs (h.later (al1 w (.cells #[.int .u8 x.id,.int .u8 x.rep,.int .u32 x.seq,.int .u32 x.stamp,.int .i64 x.kind,.int .u8 x.cls,.int .u32 x.val] 62))) (by omega)
  rw [hr] at hq
  have HR := Lib.hid hq; clear hq hr h
  have HN := Lib.hid (new_entry w x 62)
  go_enter Tryz.func108,Tryz.ntmps108
  go_wp2_with fail
  refine (HR.out).mono ?_
  rintro e w1 ⟨rfl,hb1⟩
  obtain ⟨c0,c1,c2,c3,c4,c5,c6⟩ := (HN.out.keep hb1 (by simp)).all0
  have HB := Lib.hid ((al1 w _).trans (hb1.mono (by simp)))
  clear hb1 HN
  go_wp2_with fail
  refine (HE.out _).mono ?_
  rintro e w2 ⟨rfl,hb2⟩
  go_wp2_with fail
  go_ret2
  exact ⟨rfl,HB.out.trans (hb2.mono HB.out.size)⟩

set_option maxRecDepth 100000 in
set_option maxHeartbeats 2000000 in
theorem Take_rightO (v : Value) (zs : List En) (x : En) (w : World) (h : ESl w w.heap.size v zs) (hl : zs.length ≤ 9000) (hx : x.ok) (hr : erightB zs = true) (he : reB x = true) :
    Calls Tryz.prog 108 #[v,x.agg] w (TakeOwn w (some (takeL zs x))) := by
  have hm : Tryz.prog.follows .mixedOrders = true := by kernel_rfl
  have HM := Lib.hid hm; clear hm
  have he' := fun W => irightEntry_any x W hx
  have hok := h.okAll
  have htok := takeL_ok hok hx
  have hmo := right_mono hr x.id
  simp only [En.agg] at he' ⊢
  rw [he] at he'
  have HE := Lib.hid he'; clear he' he
  have HMO := Lib.hid hmo; clear hmo
  have HXO := Lib.hid hx; clear hx
  have HOK := Lib.hid hok; clear hok
  have HTK := Lib.hid htok; clear htok
  have hq := iRight_any _ v zs (h.later (al1 w (.cells #[.int .u8 x.id,.int .u8 x.rep,.int .u32 x.seq,.int .u32 x.stamp,.int .i64 x.kind,.int .u8 x.cls,.int .u32 x.val] 62))) (by omega)
  rw [hr] at hq
  have HR := Lib.hid hq; clear hq hr
  have HH := Lib.hid h; clear h
  have HN := Lib.hid (new_entry w x 62)
  obtain ⟨T,hT⟩ : ∃ T,takeL zs x = T := ⟨_,rfl⟩
  rw [hT]
  rw [hT] at HTK
  have HT := Lib.hid hT; clear hT
  have hp := posE_le zs x.id
  go_enter Tryz.func108,Tryz.ntmps108
  go_wp2_with fail
  refine (HR.out).mono ?_
  rintro e w1 ⟨rfl,hb1⟩
  obtain ⟨c0,c1,c2,c3,c4,c5,c6⟩ := (HN.out.keep hb1 (by simp)).all0
  have HN1 := Lib.hid (HN.out.keep hb1 (by simp))
  have HB1 := Lib.hid ((al1 w _).trans (hb1.mono (by simp)))
  have hs1 : w.heap.size < w1.heap.size := by have := hb1.size; simp at this; omega
  clear hb1 HN HR
  go_wp2_with fail
  refine (HE.out _).mono ?_
  rintro e w2 ⟨rfl,hb2⟩
  have HB2 := Lib.hid (HB1.out.trans (hb2.mono HB1.out.size))
  have HN2 := Lib.hid (HN1.out.keep hb2 hs1)
  have hs2 : w.heap.size < w2.heap.size := by have := hb2.size; omega
  clear hb2 HN1 HB1 HE c0 c1 c2 c3 c4 c5 c6
  have HC := Lib.hid (Clone_any v zs w2 (HH.out.later HB2.out) (by omega))
  go_wp2_with fail
  refine (HC.out).mono ?_
  rintro e w3 ⟨v3,rfl,ho3,hb3⟩
  have HO3 := Lib.hid ho3; clear ho3
  have HB3 := Lib.hid (HB2.out.trans (hb3.mono HB2.out.size))
  have HN3 := Lib.hid (HN2.out.keep hb3 hs2)
  have hs3 : w2.heap.size ≤ w3.heap.size := hb3.size
  obtain ⟨c0,c1,c2,c3,c4,c5,c6⟩ := HN3.out.all0
  clear hb3 HC HN2
  have HP := Lib.hid (place_any x.id v3 zs w3 (HO3.out.sl HOK.out) (by omega) HMO.out)
  obtain ⟨p,hpe⟩ : ∃ p,posE zs x.id = p := ⟨_,rfl⟩
  rw [hpe] at HP hp
  have HPE := Lib.hid hpe; clear hpe
  obtain ⟨fd,hfd⟩ : ∃ fd,(decide (p < zs.length) && decide (zs[p]!.id = x.id)) = fd := ⟨_,rfl⟩
  rw [hfd] at HP
  have HFD := Lib.hid hfd; clear hfd
  go_wp2_with fail
  refine (HP.out).mono ?_
  rintro e w4 ⟨rfl,hb4⟩
  have HO4 := Lib.hid (HO3.out.below hb4)
  have HB4 := Lib.hid (HB3.out.trans (hb4.mono HB3.out.size))
  have HN4 := Lib.hid (HN3.out.keep hb4 (by omega))
  have hs4 : w3.heap.size ≤ w4.heap.size := hb4.size
  clear hb4 HP HN3 HO3 c0 c1 c2 c3 c4 c5 c6
  obtain ⟨c0,c1,c2,c3,c4,c5,c6⟩ := HN4.out.all0
  cases fd
  · -- not there: it is laid in
    have hown : v3.ownBlock ≠ some w4.heap.size := fun h => by have := HO4.out.lt _ h; omega
    have HI := Lib.hid (Insert_any v3 zs p w4.heap.size w2.heap.size x _ (HO4.out.alloc (.cells #[.int .u8 x.id,.int .u8 x.rep,.int .u32 x.seq,.int .u32 x.stamp,.int .i64 x.kind,.int .u8 x.cls,.int .u32 x.val] 62)) (by simp; omega) (oneNew_alloc w4 x) hown HXO.out hl hp)
    clear hown
    go_wp2_with fail
    refine (HI.out).mono ?_
    rintro e w5 ⟨v5,rfl,ho5,hb5⟩
    have HO5 := Lib.hid ho5; clear ho5
    have HB5 := Lib.hid ((HB4.out.alloc HB4.out.size (.cells #[.int .u8 x.id,.int .u8 x.rep,.int .u32 x.seq,.int .u32 x.stamp,.int .i64 x.kind,.int .u8 x.cls,.int .u32 x.val] 62)).trans (hb5.mono (by omega)))
    clear hb5 HI
    go_wp2_with fail
    go_ret2
    have ht : T = insL zs p x := by
      rw [← HT.out,takeL,HPE.out,HFD.out]
      rfl
    refine ⟨v5,rfl,?_,HB5.out⟩
    have := HTK.out
    rw [ht] at this ⊢
    exact ⟨HO5.out.mono HB2.out.size,HO5.out.sl this⟩
  · have hpl : p < zs.length := by
      have := HFD.out
      simp at this
      exact this.1
    have hyk : zs[p]? = some zs[p] := List.getElem?_eq_getElem hpl
    generalize zs[p] = y at hyk
    have HY := Lib.hid (egetBang_of hyk)
    obtain ⟨A,cc,rfl,_,hA⟩ := HO4.out.form
    obtain ⟨g,rfl,hg1,hg2⟩ := hA (by intro h; simp [h] at hpl)
    have HYA := Lib.hid (HO4.out.cell rfl hyk)
    clear hyk hA
    have m0 := fun p : Later w4 => (HN4.out.later (by omega) p).all0.1
    have m1 := fun p : Later w4 => (HN4.out.later (by omega) p).all0.2.1
    have m2 := fun p : Later w4 => (HN4.out.later (by omega) p).all0.2.2.1
    have m3 := fun p : Later w4 => (HN4.out.later (by omega) p).all0.2.2.2.1
    have m4 := fun p : Later w4 => (HN4.out.later (by omega) p).all0.2.2.2.2.1
    have m5 := fun p : Later w4 => (HN4.out.later (by omega) p).all0.2.2.2.2.2.1
    have m6 := fun p : Later w4 => (HN4.out.later (by omega) p).all0.2.2.2.2.2.2
    have y0 := fun p : Later w4 => (HYA.out.later hg2 p).all.1
    have y1 := fun p : Later w4 => (HYA.out.later hg2 p).all.2.1
    have y2 := fun p : Later w4 => (HYA.out.later hg2 p).all.2.2.1
    have y3 := fun p : Later w4 => (HYA.out.later hg2 p).all.2.2.2.1
    have y4 := fun p : Later w4 => (HYA.out.later hg2 p).all.2.2.2.2.1
    have y5 := fun p : Later w4 => (HYA.out.later hg2 p).all.2.2.2.2.2.1
    have y6 := fun p : Later w4 => (HYA.out.later hg2 p).all.2.2.2.2.2.2
    have r1 := fun W => replaces_any x y W
    simp only [En.agg] at r1
    obtain ⟨rp,hrp⟩ : ∃ rp,repB x y = rp := ⟨_,rfl⟩
    rw [hrp] at r1
    have HRP := Lib.hid hrp; clear hrp
    have R1 := Lib.hid r1; clear r1
    go_wp2_with fail
    have hm : Tryz.prog.follows .mixedOrders = true := HM.out
    refine wp_region_later hm (by kernel_rfl) ?_
    repeat (any_goals (first | go_big_quiet_step (first | (go_at_call 133; exact Calls.later (R1.out _))) | quiet_step (first | (go_at_call 133; exact Calls.later (R1.out _)))))
    refine wpQuiet_nil ?_
    intro wp hw'
    obtain ⟨lp,hlp⟩ := hw'
    have hbp := lp.bel
    rw [← hlp] at hbp
    clear hlp lp m0 m1 m2 m3 m4 m5 m6 y0 y1 y2 y3 y4 y5 y6 c0 c1 c2 c3 c4 c5 c6
    have HO5 := Lib.hid (HO4.out.below hbp)
    have HB5 := Lib.hid (HB4.out.trans (hbp.mono HB4.out.size))
    obtain ⟨c0,c1,c2,c3,c4,c5,c6⟩ := (HN4.out.keep hbp (by omega)).all0
    obtain ⟨d0,d1,d2,d3,d4,d5,d6⟩ := (HYA.out.keep hbp hg2).all
    have hs5 : w4.heap.size ≤ wp.heap.size := hbp.size
    have f := fun j => frozen_own HO5.out j
    clear hbp hm
    cases rp
    · clear f
      go_wp2_with fail
      go_ret2
      have ht : T = zs := by
        rw [← HT.out,takeL,HPE.out,HFD.out,HY.out,HRP.out]
        rfl
      refine ⟨_,rfl,?_,HB5.out⟩
      have := HTK.out
      rw [ht] at this ⊢
      exact ⟨HO5.out.mono HB2.out.size,HO5.out.sl this⟩
    · go_wp2_with fail
      go_ret2
      have ht : T = zs.set p x := by
        rw [← HT.out,takeL,HPE.out,HFD.out,HY.out,HRP.out]
        rfl
      obtain ⟨q1,q2⟩ := HO5.out.put hpl x hg1
      refine ⟨_,rfl,?_,HB5.out.trans (q2.mono (by omega))⟩
      have := HTK.out
      rw [ht] at this ⊢
      have q3 := q1.sl this
      exact ⟨q1.mono HB2.out.size,q3⟩

theorem Take_anyO (v : Value) (zs : List En) (x : En) (w : World) (h : ESl w w.heap.size v zs) (hl : zs.length ≤ 9000) (hx : x.ok) :
    Calls Tryz.prog 108 #[v,x.agg] w (TakeOwn w (takeR zs x)) := by
  unfold takeR
  by_cases hr : erightB zs = true
  · by_cases he : reB x = true
    · rw [if_pos ⟨hr,he⟩]; exact Take_rightO v zs x w h hl hx hr he
    · rw [if_neg (fun h => he h.2)]; exact Take_wrong2O v zs x w h hl hx hr (by simpa using he)
  · rw [if_neg (fun h => hr h.1)]; exact Take_wrong1O v zs x w h hl (by simpa using hr)
end Go.Proofs.YtfjaeohfigcciabGreatDoor

namespace Go.Proofs.YtfjaeohfigcciabGreatDoor
open Go.RowKit Go.Sort Go.Shelf

theorem Grow_any (n : Nat) (w : World) (hn : n ≤ 1000) : Calls Tryz.prog 147 #[.slice none 0 0,.int .i64 n] w (OwnPost w []) := by
  rcases Nat.eq_zero_or_pos n with h0 | h0
  · subst h0
    have hcon := Any8.slices_Grow_room Tryz.lGrow none 0 0 0 w (Nat.le_refl _) (by omega) (by omega) (by omega)
    exact hcon.mono fun e w' ⟨he,hw⟩ => ⟨_,he,by subst hw; exact ⟨Own.nil _ _,Below.refl _ _⟩⟩
  · obtain ⟨i0,hi,hz0,hz1,hz2⟩ := info_parts infoRun
    have hcon := Any8.slices_Grow_grow Tryz.lGrow i0 _ hi hz0 (by omega) none 0 0 n [] w (Nat.le_refl _) (by omega) (by rw [hz2]; omega) (by omega) (by simp) (fun _ => rfl) (fun a h => by cases h)
    refine hcon.mono fun e w' ⟨he,hw⟩ => ⟨_,he,?_,?_⟩
    · subst hw
      have h1 := grownCap_ge w (0 + n) 0 67
      have h2 := grownCap_le_maxLen w (0 + n) 0 67 (by unfold maxLen; omega)
      exact World.ownsRow_made (base := w.heap.size) (e := 67) (size := 3) w.drew _ _ (by simp) h2 (by
        simp only [Array.size_append,List.size_toArray,size_zeroCells,List.length_nil]
        show 0 + (0 + n - 0) * 3 + (grownCap w (0 + n) 0 67 - (0 + n)) * 3 = grownCap w (0 + n) 0 67 * 3
        omega)
    · subst hw
      exact ((Below.refl _ w).drew).alloc (by simp) _

theorem Grow_int (q : Int) (w : World) (h0 : 0 ≤ q) (h1 : q ≤ 1000) : Calls Tryz.prog 147 #[.slice none 0 0,.int .i64 q] w (OwnPost w []) := by
  obtain ⟨n,rfl⟩ := Int.eq_ofNat_of_zero_le h0
  exact Grow_any n w (by omega)

set_option maxHeartbeats 2000000 in
theorem Concat_any (va vb : Value) (zs ys : List Rn) (gs : Nat) (w : World) (hg : gs < w.heap.size) (c0 : w.cell? ⟨gs,0,none⟩ = some va) (c1 : w.cell? ⟨gs,1,none⟩ = some vb)
    (ha : Sl w w.heap.size va zs) (hb : Sl w w.heap.size vb ys) (hz : zs.length ≤ 100) (hy : ys.length ≤ 100) :
    Calls Tryz.prog 134 #[.slice (some ⟨gs,0,none⟩) 2 2] w (OwnPost w (zs ++ ys)) := by
  have HA := Lib.hid ha
  have HB := Lib.hid hb
  obtain ⟨A1,k1,rfl,_,_,_⟩ := ha
  obtain ⟨A2,k2,rfl,_,_,_⟩ := hb
  go_enter Tryz.func134,Tryz.ntmps134
  go_wp2
  refine wp_loop_rounds 3 ?_
  rw [rounds_succ]
  go_wp2
  rw [rounds_succ]
  go_wp2
  rw [rounds_succ]
  go_wp2_with fail
  refine (Grow_int _ _ (by omega) (by omega)).mono ?_
  rintro e w1 ⟨v6,rfl,ho,hbl⟩
  have d0 := (hbl.cell (p := ⟨gs,0,none⟩) hg).trans c0
  have d1 := (hbl.cell (p := ⟨gs,1,none⟩) hg).trans c1
  have hz1 := hbl.size
  have HBL := Lib.hid hbl; clear hbl
  clear c0 c1
  go_wp2_with fail
  refine wp_loop_rounds 3 ?_
  rw [rounds_succ]
  go_wp2_with (at_builtin; (refine append_runs rfl _ _ rfl w.heap.size _ [] rfl ho _ _ zs rfl (HA.out.below HBL.out) (by simp; omega) hz1 ?_); intro v7 w2 ho2 hg2)
  have hb2 : Below w.heap.size w w2 := grown_below HBL.out ho hg2 (Nat.le_refl _) hz1
  have e0 := (hb2.cell (p := ⟨gs,0,none⟩) hg).trans ((HBL.out.cell (p := ⟨gs,0,none⟩) hg).symm.trans d0)
  have e1 := (hb2.cell (p := ⟨gs,1,none⟩) hg).trans ((HBL.out.cell (p := ⟨gs,1,none⟩) hg).symm.trans d1)
  have hz2 := hb2.size
  have HB2 := Lib.hid hb2; clear hb2
  rw [List.nil_append] at ho2
  clear d0 d1
  rw [rounds_succ]
  go_wp2_with (at_builtin; (refine append_runs rfl _ _ rfl w.heap.size _ zs rfl ho2 _ _ ys rfl (HB.out.below HB2.out) (by omega) hz2 ?_); intro v8 w3 ho3 hg3)
  have hb3 : Below w.heap.size w w3 := grown_below HB2.out ho2 hg3 (Nat.le_refl _) hz2
  have HB3 := Lib.hid hb3; clear hb3
  have HO3 := Lib.hid ho3; clear ho3
  clear e0 e1 ho ho2 hg2 hg3
  rw [rounds_succ]
  go_wp2
  go_ret
  exact ⟨v8,rfl,HO3.out,HB3.out⟩
end Go.Proofs.YtfjaeohfigcciabGreatDoor

namespace Go.Proofs.YtfjaeohfigcciabGreatDoor
open Go.RowKit Go.Sort Go.Shelf

def ltR (x y : Rn) : Prop := x.r < y.r ∨ (x.r = y.r ∧ x.lo < y.lo)
instance : DecidableRel ltR := fun x y => by unfold ltR; infer_instance
theorem lt_cmpR (x y : Rn) : ltOf cmpR x y = decide (ltR x y) := by
  unfold ltOf cmpR cmpI ltR
  by_cases h : x.r = y.r
  · simp only [h,if_true]
    by_cases h1 : x.lo < y.lo
    · simp [h1]
    · by_cases h2 : y.lo < x.lo <;> simp [h1,h2]
  · simp only [h,if_false]
    by_cases h1 : x.r < y.r
    · simp [h1]
    · by_cases h2 : y.r < x.r <;> simp [h1,h2]
theorem lt_iff (x y : Rn) : ltOf cmpR x y = true ↔ x.r < y.r ∨ (x.r = y.r ∧ x.lo < y.lo) := by
  rw [lt_cmpR,decide_eq_true_iff]; exact Iff.rfl
theorem nlt_iff (x y : Rn) : ltOf cmpR x y = false ↔ ¬ (x.r < y.r ∨ (x.r = y.r ∧ x.lo < y.lo)) := by
  rw [← Bool.not_eq_true,lt_iff]
theorem swoR : SWO (ltOf cmpR) where
  irrefl x := by rw [nlt_iff]; omega
  trans x y z h1 h2 := by
    rw [lt_iff] at h1 h2 ⊢
    omega
  ntrans x y z h1 h2 := by
    rw [nlt_iff] at h1 h2 ⊢
    omega

theorem cmpLaysR (blk off size : Nat) (w : World) : CmpLays Tryz.prog 136 #[] Rn.enc 3 cmpR blk off size w := fun _ _ _ _ x y =>
  (ordC_any x.r x.lo x.hi y.r y.lo y.hi _).mono fun _ _ ⟨he,hw⟩ => ⟨he,0,_,hw.trans ((alloc_eq_grow _ _).trans ((congrArg (fun u => grow u _) (alloc_eq_grow _ _)).trans (grow_grow _ _ _)))⟩

theorem enc_get (x : Rn) (c : Nat) (hc : c < 3) : ∃ u,x.enc[c]? = some u ∧ x.enc[c]! = u := by
  match c,hc with
  | 0,_ => exact ⟨_,rfl,rfl⟩
  | 1,_ => exact ⟨_,rfl,rfl⟩
  | 2,_ => exact ⟨_,rfl,rfl⟩

theorem Own.holds {w : World} {base g c n : Nat} {zs : List Rn} (h : Own w base (.slice (some ⟨g,0,none⟩) n c) zs) (hn : n = zs.length) : HoldsK Rn.enc 3 w g 0 zs.toArray := by
  intro t ht
  rw [size_flatK] at ht
  simp only [List.size_toArray] at ht
  refine ⟨?_,h.frozen hn _⟩
  rw [get_flatK _ _ _ t (by simpa using ht)]
  have hj : t / 3 < zs.length := by omega
  have hc := World.ownsRow.cellAt (by subst hn; exact h) t (by omega)
  have hg := flat_get zs (t / 3) (t % 3) zs[t / 3] (List.getElem?_eq_getElem hj) (by omega)
  rw [show t / 3 * 3 + t % 3 = t by omega] at hg
  obtain ⟨u,hu1,hu2⟩ := enc_get zs[t / 3] (t % 3) (by omega)
  rw [Nat.zero_add,hc,hg,hu1]
  have hz : zs.toArray[t / 3]! = zs[t / 3] := by simp [hj]
  rw [hz,hu2]
  rfl

theorem HoldsK.run {w : World} {g : Nat} {d : Array Rn} (h : HoldsK Rn.enc 3 w g 0 d) {j : Nat} {x : Rn} (hj : d.toList[j]? = some x) : RnAt w g (0 + j * 3) x := by
  have hlt : j < d.size := by have := (List.getElem?_eq_some_iff.1 hj).1; simpa using this
  have hx : d[j]! = x := by
    rw [Array.getElem?_toList] at hj
    simp [Array.getElem!_eq_getD,Array.getD_eq_getD_getElem?,hj]
  have h0 := (h.cell hlt (c := 0) (by omega)).1
  have h1 := (h.cell hlt (c := 1) (by omega)).1
  have h2 := (h.cell hlt (c := 2) (by omega)).1
  rw [hx] at h0 h1 h2
  exact ⟨h0,h1,h2⟩

theorem below_sortWorld {B : Nat} (w : World) (g n : Nat) (d : Array Rn) (os : Array Obj) (hB : B ≤ g) (hw : B ≤ w.heap.size) : Below B w (sortWorldK Rn.enc 3 w g 0 n d os) := by
  refine ⟨rfl,rfl,rfl,?_,fun i hi => ?_⟩
  · simp [sortWorldK,putRowK]
  · show ((putRowK Rn.enc 3 (Sort.ahead w n) g 0 d).heap ++ os)[i]? = w.heap[i]?
    rw [Array.getElem?_append_left (by simp [putRowK]; omega)]
    simp only [putRowK,putRow,mapBlock,Array.getElem?_modify]
    rw [if_neg (by omega)]
    rfl

theorem Sort_any (v : Value) (zs : List Rn) (w : World) (base : Nat) (h : Own w base v zs) (hok : ∀ x ∈ zs,x.ok) (hl : zs.length ≤ 1000) (hB : base ≤ w.heap.size) :
    Calls Tryz.prog 135 #[v,.func (.func 136) #[] #[]] w fun e w' => e = .returned (.tuple #[]) ∧ ∃ l : List Rn,l.Perm zs ∧ Ordered l ∧ Sl w' w'.heap.size v l ∧ Below base w w' := by
  obtain ⟨A,n,c,rfl,hn,hcz,hA⟩ := h.form'
  by_cases hne : zs = []
  · subst hne
    obtain rfl : n = 0 := hn
    refine (AnyF.slices_SortFunc_none Tryz.lSort A c _ w).mono fun e w' ⟨he,hw⟩ => ?_
    subst hw
    exact ⟨he,[],List.Perm.refl _,List.Pairwise.nil,h.sl hok,Below.refl _ _⟩
  · obtain ⟨g,rfl,hg1,hg2⟩ := hA hne
    have eg : ∀ args w,(callFunc 136 args).run Tryz.prog w = .ok (.enter 136 args) w := enters_of Tryz.func136 (by kernel_rfl) rfl
    have hH := h.holds hn
    have hcon := AnyQ.slices_SortFunc Tryz.lSort 3 Tryz.isAgg67 Tryz.sizeOf67 Rn.enc (fun _ => rfl) (fun x u hu => by simp [Rn.enc] at hu; rcases hu with rfl | rfl | rfl <;> rfl) cmpR swoR 136 #[] g 0 c zs.toArray w eg (cmpLaysR g 0 _ w) hH hg2 (by simp; omega)
    rw [List.size_toArray,← hn] at hcon
    refine hcon.mono fun e w' ⟨he,d',q,os,hp,hs,hw⟩ => ⟨he,d'.toList,?_,?_,?_,?_⟩
    · obtain ⟨h1,_,h3⟩ := hp
      have h1' : d'.size = n := by rw [h1]; simp [hn]
      have e1 : (d'.extract 0 n).toList = d'.toList := by rw [← h1']; simp
      have e2 : (zs.toArray.extract 0 n).toList = zs := by rw [hn]; simp
      rw [e1,e2] at h3
      exact h3
    · have h1 : d'.size = n := by have := hp.1; simp at this; omega
      refine List.pairwise_iff_getElem.2 fun i j hi hj hij => ?_
      rw [Array.length_toList] at hi hj
      have := hs i j (Nat.zero_le _) hij (by omega)
      rw [nlt_iff] at this
      simp only [getElem!_pos d' i hi,getElem!_pos d' j hj] at this
      simpa using this
    · have h1 : d'.size = n := by have := hp.1; simp at this; omega
      have hperm : d'.toList.Perm zs := by
        obtain ⟨h1,_,h3⟩ := hp
        have h1' : d'.size = n := by rw [h1]; simp [hn]
        have e1 : (d'.extract 0 n).toList = d'.toList := by rw [← h1']; simp
        have e2 : (zs.toArray.extract 0 n).toList = zs := by rw [hn]; simp
        rw [e1,e2] at h3
        exact h3
      have hHd : HoldsK Rn.enc 3 w' g 0 d' := by
        rw [hw]
        exact holdsK_grow _ _ _ _ _ _ _ (by simp [putRowK]; exact hg2) (holdsK_putRowK _ _ _ _ _ zs.toArray d' (holdsK_ahead _ _ _ _ _ _ _ hH) (by simp; omega))
      refine ⟨_,c,by rw [Array.length_toList,h1],(fun h => by simp at h),fun x hx => hok x (hperm.mem_iff.1 hx),fun _ => ⟨g,0,rfl,?_,fun j x hj => HoldsK.run hHd hj⟩⟩
      rw [hw]; simp [sortWorldK,putRowK]; omega
    · rw [hw]; exact below_sortWorld w g q d' os hg1 hB
end Go.Proofs.YtfjaeohfigcciabGreatDoor

namespace Go.Proofs.YtfjaeohfigcciabGreatDoor
open Go.RowKit Go.Sort Go.Shelf

def leR (x y : Rn) : Bool := decide (¬ (y.r < x.r ∨ (y.r = x.r ∧ y.lo < x.lo)))
def unionL (zs ys : List Rn) : List Rn := joinL ((zs ++ ys).mergeSort leR)
def unionR (zs ys : List Rn) : Except Int (List Rn) := if rightB zs = true ∧ rightB ys = true then lim (unionL zs ys) else .error 9
def addR (zs : List Rn) (p n : Int) : Except Int (List Rn) := unionR zs [⟨p,n,n⟩]

theorem union_good {zs ys l : List Rn} (hz : rightB zs = true) (hy : rightB ys = true) (hp : l.Perm (zs ++ ys)) (ho : Ordered l) :
    Good (joinL l) ∧ ∀ p n,covs (joinL l) p n = (covs zs p n || covs ys p n) := by
  have hr : ∀ x ∈ l,rrB x = true := fun x hx => by
    rcases List.mem_append.1 (hp.mem_iff.1 hx) with h | h
    · exact ((right_iff zs).1 hz).2.1 x h
    · exact ((right_iff ys).1 hy).2.1 x h
  obtain ⟨h1,h2⟩ := joinL_good hr ho
  exact ⟨h1,fun p n => by rw [h2,covs_perm hp,covs_append]⟩
theorem mergeSort_ordered (l : List Rn) : Ordered (l.mergeSort leR) := by
  have := List.pairwise_mergeSort (le := leR) (fun a b c h1 h2 => by simp only [leR,decide_eq_true_eq] at *; omega) (fun a b => by simp only [leR,Bool.or_eq_true,decide_eq_true_eq]; omega) l
  exact this.imp fun h => by simpa only [leR,decide_eq_true_eq] using h
theorem unionL_good {zs ys : List Rn} (hz : rightB zs = true) (hy : rightB ys = true) : Good (unionL zs ys) ∧ ∀ p n,covs (unionL zs ys) p n = (covs zs p n || covs ys p n) :=
  union_good hz hy (List.mergeSort_perm _ _) (mergeSort_ordered _)
theorem unionL_of {zs ys l : List Rn} (hz : rightB zs = true) (hy : rightB ys = true) (hp : l.Perm (zs ++ ys)) (ho : Ordered l) : joinL l = unionL zs ys := by
  obtain ⟨a1,a2⟩ := union_good hz hy hp ho
  obtain ⟨b1,b2⟩ := unionL_good hz hy
  exact canon _ _ a1 b1 fun p n => by rw [a2,b2]

def InPost (w : World) (zs : List Rn) (e : Ending) (w' : World) : Prop := ∃ v l,e = .returned v ∧ l.Perm zs ∧ Ordered l ∧ Sl w' w'.heap.size v l ∧ Below w.heap.size w w'

set_option maxHeartbeats 1000000 in
theorem inOrder_any (va vb : Value) (zs ys : List Rn) (w : World) (ha : Sl w w.heap.size va zs) (hb : Sl w w.heap.size vb ys) (hz : zs.length ≤ 64) (hy : ys.length ≤ 64) :
    Calls Tryz.prog 112 #[va,vb] w (InPost w (zs ++ ys)) := by
  have hok : ∀ x ∈ zs ++ ys,x.ok := fun x hx => by
    obtain ⟨_,_,_,_,h1,_⟩ := ha
    obtain ⟨_,_,_,_,h2,_⟩ := hb
    rcases List.mem_append.1 hx with h | h
    · exact h1 x h
    · exact h2 x h
  have hcon := Concat_any va vb zs ys w.heap.size (w.alloc (.cells #[va,vb] 23)) (by simp) (by simp) (by simp) ((ha.alloc (Nat.le_refl _) _).more (by simp)) ((hb.alloc (Nat.le_refl _) _).more (by simp)) (by omega) (by omega)
  have hsz : w.heap.size ≤ (w.alloc (.cells #[va,vb] 23)).heap.size := by simp
  have hbl : Below w.heap.size w (w.alloc (.cells #[va,vb] 23)) := (Below.refl _ w).alloc (Nat.le_refl _) _
  have HC := Lib.hid hcon; clear hcon
  have HBL := Lib.hid hbl; clear hbl
  have HOK := Lib.hid hok; clear hok
  obtain ⟨A1,k1,rfl,_,_,_⟩ := ha
  obtain ⟨A2,k2,rfl,_,_,_⟩ := hb
  go_enter Tryz.func112,Tryz.ntmps112
  go_wp2_with fail
  refine (HC.out).mono ?_
  rintro e w2 ⟨v5,rfl,ho,hb2⟩
  have hs := Sort_any v5 (zs ++ ys) w2 _ ho HOK.out (by simp; omega) hb2.size
  have HS := Lib.hid hs; clear hs ho
  have HB2 := Lib.hid hb2; clear hb2
  go_wp2_with fail
  refine (HS.out).mono ?_
  rintro e w3 ⟨rfl,l,hp,hor,hsl,hb3⟩
  have HP := Lib.hid hp; clear hp
  have HR := Lib.hid hor; clear hor
  have HL := Lib.hid hsl; clear hsl
  have HB3 := Lib.hid hb3; clear hb3
  go_wp2
  go_ret
  exact ⟨v5,l,rfl,HP.out,HR.out,HL.out,HBL.out.trans ((HB2.out.trans HB3.out).mono hsz)⟩

theorem ResPost.of_below {w0 w : World} {res : Except Int (List Rn)} {e : Ending} {w' : World} (h : ResPost w res e w') (hb : Below w0.heap.size w0 w) : ResPost w0 res e w' := by
  cases res with
  | ok l =>
    obtain ⟨v,he,hs,hb'⟩ := h
    exact ⟨v,he,hs,hb.trans (hb'.mono hb.size)⟩
  | error c => exact ⟨h.1,hb.trans (h.2.mono hb.size)⟩

end Go.Proofs.YtfjaeohfigcciabGreatDoor

namespace Go.Proofs.YtfjaeohfigcciabGreatDoor
open Go.RowKit Go.Sort

def ResOwn (w : World) (res : Except Int (List Rn)) (e : Ending) (w' : World) : Prop :=
  match res with
  | .ok l => ∃ v,e = .returned (.tuple #[v,.nilIface]) ∧ (Own w' w.heap.size v l ∧ Sl w' w'.heap.size v l) ∧ Below w.heap.size w w'
  | .error c => e = .returned (.tuple #[.slice none 0 0,.iface 74 (.int .i64 c)]) ∧ Below w.heap.size w w'

theorem within_own (v : Value) (l : List Rn) (w w0 : World) (h : Own w w0.heap.size v l) (hok : ∀ x ∈ l,x.ok) (hl : l.length ≤ 1000) (hb : Below w0.heap.size w0 w) :
    Calls Tryz.prog 110 #[v] w (ResOwn w0 (lim l)) := by
  obtain ⟨A,c,rfl,hn,hA⟩ := h.form
  by_cases h64 : l.length ≤ 64
  · refine (within_yes A l.length c w h64).mono fun e w' ⟨he,hw⟩ => ?_
    subst hw
    rw [lim,if_pos h64]
    exact ⟨_,he,⟨h,h.sl hok⟩,hb⟩
  · refine (within_no A l.length c w (by omega) hl).mono fun e w' ⟨he,hw⟩ => ?_
    subst hw
    rw [lim,if_neg h64]
    exact ⟨he,hb⟩

end Go.Proofs.YtfjaeohfigcciabGreatDoor

namespace Go.Proofs.YtfjaeohfigcciabGreatDoor
open Go.RowKit Go.Sort

set_option maxHeartbeats 1000000 in
theorem Union_wrong1O (va vb : Value) (zs : List Rn) (w : World) (ha : Sl w w.heap.size va zs) (hx : rightB zs = false) :
    Calls Tryz.prog 72 #[va,vb] w (ResOwn w (.error 9)) := by
  have hr := Right_any w va zs ha
  rw [hx] at hr
  have HR := Lib.hid hr; clear hr hx
  go_enter Tryz.func72,Tryz.ntmps72
  go_wp2_with fail
  refine (HR.out).mono ?_
  rintro e w1 ⟨rfl,hb1⟩
  go_wp2_with fail
  go_ret2
  exact ⟨rfl,hb1⟩

set_option maxHeartbeats 1000000 in
theorem Union_wrong2O (va vb : Value) (zs ys : List Rn) (w : World) (ha : Sl w w.heap.size va zs) (hb : Sl w w.heap.size vb ys) (hx : rightB zs = true) (hy : rightB ys = false) :
    Calls Tryz.prog 72 #[va,vb] w (ResOwn w (.error 9)) := by
  have hr := Right_any w va zs ha
  rw [hx] at hr
  have HR := Lib.hid hr; clear hr hx
  have hq := fun w1 (hb1 : Below w.heap.size w w1) => Right_any w1 vb ys ((hb.below hb1).more hb1.size)
  rw [hy] at hq
  have HQ := Lib.hid hq; clear hq hy
  go_enter Tryz.func72,Tryz.ntmps72
  go_wp2_with fail
  refine (HR.out).mono ?_
  rintro e w1 ⟨rfl,hb1⟩
  go_wp2_with fail
  refine (HQ.out w1 hb1).mono ?_
  rintro e w2 ⟨rfl,hb2⟩
  go_wp2_with fail
  go_ret2
  exact ⟨rfl,hb1.trans (hb2.mono hb1.size)⟩

set_option maxHeartbeats 1000000 in
theorem Union_rightO (va vb : Value) (zs ys : List Rn) (w : World) (ha : Sl w w.heap.size va zs) (hb : Sl w w.heap.size vb ys) (hx : rightB zs = true) (hy : rightB ys = true) :
    Calls Tryz.prog 72 #[va,vb] w (ResOwn w (lim (unionL zs ys))) := by
  have hz64 := ((right_iff zs).1 hx).1
  have hy64 := ((right_iff ys).1 hy).1
  have hun := fun l hp ho => unionL_of (l := l) hx hy hp ho
  have hr := Right_any w va zs ha
  rw [hx] at hr
  have HR := Lib.hid hr; clear hr hx
  have hq := fun w1 (hb1 : Below w.heap.size w w1) => Right_any w1 vb ys ((hb.below hb1).more hb1.size)
  rw [hy] at hq
  have HQ := Lib.hid hq; clear hq hy
  have hin := fun w1 (hb1 : Below w.heap.size w w1) => inOrder_any va vb zs ys w1 ((ha.below hb1).more hb1.size) ((hb.below hb1).more hb1.size) hz64 hy64
  have HI := Lib.hid hin; clear hin
  have HU := Lib.hid hun; clear hun
  generalize hL : lim (unionL zs ys) = L
  have HL := Lib.hid hL; clear hL
  go_enter Tryz.func72,Tryz.ntmps72
  go_wp2_with fail
  refine (HR.out).mono ?_
  rintro e w1 ⟨rfl,hb1⟩
  go_wp2_with fail
  refine (HQ.out w1 hb1).mono ?_
  rintro e w2 ⟨rfl,hb2⟩
  have hb12 := hb1.trans (hb2.mono hb1.size)
  have HB12 := Lib.hid hb12; clear hb12 hb1 hb2
  go_wp2_with fail
  refine (HI.out w2 HB12.out).mono ?_
  rintro e w3 ⟨v3,l,rfl,hp,ho,hsl,hb3⟩
  have hll : l.length ≤ 128 := by rw [hp.length_eq]; simp; omega
  have hokl : ∀ x ∈ l,x.ok := by obtain ⟨_,_,_,_,h1,_⟩ := hsl; exact h1
  have hj := joined_any v3 l w3 (by omega) hsl
  rw [HU.out l hp ho] at hj
  have hju := joinL_ok hokl
  have hjl := joinL_len hokl
  rw [HU.out l hp ho] at hju hjl
  have HJ := Lib.hid hj; clear hj
  have HJU := Lib.hid hju; clear hju
  have hb13 := HB12.out.trans (hb3.mono HB12.out.size)
  have HB13 := Lib.hid hb13; clear hb13 hb3
  clear hp ho hsl hokl
  go_wp2_with fail
  refine (HJ.out).mono ?_
  rintro e w4 ⟨v4,rfl,ho4,hb4⟩
  have hb14 := HB13.out.trans (hb4.mono HB13.out.size)
  have hw := within_own v4 _ w4 w (ho4.mono HB13.out.size) HJU.out (by omega) hb14
  rw [HL.out] at hw
  have HW := Lib.hid hw; clear hw ho4 hb4 hb14
  go_wp2_with fail
  refine (HW.out).mono ?_
  cases L with
  | ok l =>
    rintro e w9 ⟨v9,rfl,hv9,hb9⟩
    have H9 := Lib.hid hv9; clear hv9
    go_wp2_with fail
    go_ret2
    exact ⟨v9,rfl,H9.out,hb9⟩
  | error cc =>
    rintro e w9 ⟨rfl,hb9⟩
    go_wp2_with fail
    go_ret2
    exact ⟨rfl,hb9⟩

theorem Union_anyO (va vb : Value) (zs ys : List Rn) (w : World) (ha : Sl w w.heap.size va zs) (hb : Sl w w.heap.size vb ys) :
    Calls Tryz.prog 72 #[va,vb] w (ResOwn w (unionR zs ys)) := by
  unfold unionR
  by_cases hx : rightB zs = true
  · by_cases hy : rightB ys = true
    · rw [if_pos ⟨hx,hy⟩]; exact Union_rightO va vb zs ys w ha hb hx hy
    · rw [if_neg (fun h => hy h.2)]; exact Union_wrong2O va vb zs ys w ha hb hx (by simpa using hy)
  · rw [if_neg (fun h => hx h.1)]; exact Union_wrong1O va vb zs w ha (by simpa using hx)

theorem ResOwn.of_below {w0 w : World} {res : Except Int (List Rn)} {e : Ending} {w' : World} (h : ResOwn w res e w') (hb : Below w0.heap.size w0 w) : ResOwn w0 res e w' := by
  cases res with
  | ok l =>
    obtain ⟨v,he,hs,hb'⟩ := h
    exact ⟨v,he,⟨hs.1.mono hb.size,hs.2⟩,hb.trans (hb'.mono hb.size)⟩
  | error c => exact ⟨h.1,hb.trans (h.2.mono hb.size)⟩

set_option maxHeartbeats 1000000 in
theorem Add_anyO (v : Value) (zs : List Rn) (p n : Int) (w : World) (hp : 0 ≤ p ∧ p ≤ 255) (hn : 0 ≤ n ∧ n ≤ 4294967295) (h : Sl w w.heap.size v zs) :
    Calls Tryz.prog 109 #[v,.int .u8 p,.int .u32 n] w (ResOwn w (addR zs p n)) := by
  have hbl : Below w.heap.size w (w.alloc (.cells #[.int .u8 p,.int .u32 n,.int .u32 n] 67)) := (Below.refl _ w).alloc (Nat.le_refl _) _
  have hu := (Union_anyO v (.slice (some ⟨w.heap.size,0,none⟩) 1 1) zs [⟨p,n,n⟩] (w.alloc (.cells #[.int .u8 p,.int .u32 n,.int .u32 n] 67))
    ((h.below hbl).more (by simp)) ((one_sl w w.heap.size p n n rfl ⟨hp,hn,hn⟩).more (by simp))).mono fun e w' hr => hr.of_below hbl
  have HU := Lib.hid hu; clear hu hbl
  change Hid (Calls _ _ _ _ (fun e w' => ResOwn w (addR zs p n) e w')) at HU
  generalize addR zs p n = L at HU ⊢
  obtain ⟨A,c,rfl,_,_,_⟩ := h
  go_enter Tryz.func109,Tryz.ntmps109
  go_wp2_with fail
  refine (HU.out).mono ?_
  cases L with
  | ok l =>
    rintro e w9 ⟨v9,rfl,hv9,hb9⟩
    have H9 := Lib.hid hv9; clear hv9
    go_wp2_with fail
    go_ret2
    exact ⟨v9,rfl,H9.out,hb9⟩
  | error cc =>
    rintro e w9 ⟨rfl,hb9⟩
    go_wp2_with fail
    go_ret2
    exact ⟨rfl,hb9⟩
end Go.Proofs.YtfjaeohfigcciabGreatDoor

namespace Go.Proofs.YtfjaeohfigcciabGreatDoor
open Go.RowKit Go.Sort Go.Shelf

theorem right_of_good {l : List Rn} (h : l.length ≤ 64) (hg : Good l) : rightB l = true := (right_iff l).2 ⟨h,hg⟩

end Go.Proofs.YtfjaeohfigcciabGreatDoor

namespace Go.Proofs.YtfjaeohfigcciabGreatDoor

theorem lim_is {l x : List Rn} (h : lim l = .ok x) : l.length ≤ 64 ∧ x = l := by
  unfold lim at h
  split at h
  · exact ⟨by assumption,by cases h; rfl⟩
  · cases h
theorem union_told {zs ys z : List Rn} (h : unionR zs ys = .ok z) : rightB zs = true ∧ rightB ys = true ∧ rightB z = true ∧ ∀ p n,covs z p n = (covs zs p n || covs ys p n) := by
  unfold unionR at h
  split at h
  · rename_i hr
    obtain ⟨hl,rfl⟩ := lim_is h
    obtain ⟨g1,g2⟩ := unionL_good hr.1 hr.2
    exact ⟨hr.1,hr.2,right_of_good hl g1,g2⟩
  · cases h
theorem union_of {zs ys : List Rn} (h1 : rightB zs = true) (h2 : rightB ys = true) : unionR zs ys = lim (unionL zs ys) := by
  unfold unionR; rw [if_pos ⟨h1,h2⟩]
theorem unionL_is {zs ys u : List Rn} (h1 : rightB zs = true) (h2 : rightB ys = true) (hu : Good u) (hc : ∀ p n,covs u p n = (covs zs p n || covs ys p n)) : unionL zs ys = u := by
  obtain ⟨g1,g2⟩ := unionL_good h1 h2
  exact canon _ _ g1 hu fun p n => by rw [g2,hc]
end Go.Proofs.YtfjaeohfigcciabGreatDoor

namespace Go.Proofs.YtfjaeohfigcciabGreatDoor

structure Acc where
  r : Rp
  p : Nt
  more : Bool
  code : Int
def waitB (r : Rp) (n : Nt) : Bool := !(n.kind != 2) && (!(n.dst != r.rep) && (r.ses.on && (!(n.src != r.ses.src) && (!(n.num != r.ses.num) && !(n.cur != r.ses.cur)))))
def aheadE (r : Rp) (e : En) : Bool := (e.rep == r.rep) && decide (r.seq < e.seq)
def alikeE (e x : En) : Bool := (x.rep == e.rep) && (x.seq == e.seq)
def otherAt (l : List En) (i k : Nat) : Bool := (k != i) && alikeE l[i]! l[k]!
def otherHeld (e x : En) : Bool := (x.id != e.id) && alikeE e x
def twiceAt (h l : List En) (i : Nat) : Bool := (List.range l.length).any (otherAt l i) || h.any (otherHeld l[i]!)
def clashB (r : Rp) (b : Nt) : Bool := b.ents.any (aheadE r) || ((List.range b.ents.length).any (twiceAt r.held b.ents) || !topB r.rep r.seq b.offer)
def takesR (f : Int) : List En → List Rn → List En → Except Int (List Rn × List En)
  | [],k,h => .ok (k,h)
  | e :: es,k,h =>
    if e.kind = 2 ∧ inB e f = true then takesR f es k (takeS h (fitE f e))
    else match addR k e.rep e.seq with
      | .ok k' => takesR f es k' (takeS h (fitE f e))
      | .error c => .error c
def afterP (r : Rp) (b : Nt) (k : List Rn) (h : List En) : Rp :=
  ⟨r.rep,r.flt,r.epoch,r.seq,k,h,⟨r.ses.on,r.ses.num,r.ses.src,r.ses.cur,if b.cur = 0 then b.epoch else r.ses.epoch,if b.cur = 0 then b.offer else r.ses.offer,r.ses.last⟩⟩
def moveP (r : Rp) (c : Int) : Rp := ⟨r.rep,r.flt,r.epoch,r.seq,r.know,r.held,⟨r.ses.on,r.ses.num,r.ses.src,c,r.ses.epoch,r.ses.offer,r.ses.last⟩⟩
def noAcc (c : Int) : Acc := ⟨zeroP,zeroN,false,c⟩
def knowP (r : Rp) (k : List Rn) : Rp := ⟨r.rep,r.flt,r.epoch,r.seq,k,r.held,r.ses⟩
def endR (b : Nt) (s : Rp) : Acc :=
  if b.done = true then (match unionR s.know s.ses.offer with | .ok k => ⟨offP (knowP s k),zeroN,false,0⟩ | .error c => noAcc c)
  else ⟨moveP s b.next,pullP (moveP s b.next),true,0⟩
def takeP (r : Rp) (b : Nt) : Acc :=
  match takesR r.flt b.ents r.know r.held with
  | .error c => noAcc c
  | .ok x => endR b (afterP r b x.1 x.2)
def acceptR (r : Rp) (b : Nt) : Acc :=
  if rpB r = false then noAcc 9 else if noteB b = false then noAcc 3 else if waitB r b = false then noAcc 4 else if clashB r b = true then noAcc 9
  else if 0 < b.cur ∧ b.epoch ≠ r.ses.epoch then ⟨offP r,zeroN,false,10⟩ else takeP r b

/-! what is known and held behind entries -/
theorem takes_snoc (f : Int) (e : En) : ∀ (l : List En) (k : List Rn) (h : List En),takesR f (l ++ [e]) k h = (match takesR f l k h with | .ok x => takesR f [e] x.1 x.2 | .error c => .error c)
  | [],k,h => rfl
  | y :: l,k,h => by
    simp only [List.cons_append,takesR]
    split
    · exact takes_snoc f e l _ _
    · cases addR k y.rep y.seq with
      | error c => rfl
      | ok k' => exact takes_snoc f e l k' _
theorem takes_bad (f : Int) (l2 : List En) : ∀ (l : List En) (k : List Rn) (h : List En) (c : Int),takesR f l k h = .error c → takesR f (l ++ l2) k h = .error c
  | [],k,h,c,he => by simp [takesR] at he
  | y :: l,k,h,c,he => by
    simp only [List.cons_append,takesR] at he ⊢
    split
    · rename_i hw; rw [if_pos hw] at he; exact takes_bad f l2 l _ _ c he
    · rename_i hw
      rw [if_neg hw] at he
      cases ha : addR k y.rep y.seq with
      | error d => rw [ha] at he; exact he
      | ok k' => rw [ha] at he; exact takes_bad f l2 l k' _ c he
theorem add_right {k k' : List Rn} {p n : Int} (h : addR k p n = .ok k') : rightB k' = true := (union_told h).2.2.1
theorem add_has {k k' : List Rn} {p n : Int} (h : addR k p n = .ok k') (q m : Int) : covs k' q m = (covs k q m || (decide (p = q) && decide (n = m))) := by
  rw [(union_told h).2.2.2 q m]
  congr 1
  rw [Bool.eq_iff_iff]
  simp only [covs_iff,List.mem_singleton,Bool.and_eq_true,decide_eq_true_eq]
  constructor
  · rintro ⟨x,rfl,h1,h2,h3⟩
    simp only at h1 h2 h3
    exact ⟨h1,by omega⟩
  · rintro ⟨h1,h2⟩
    exact ⟨_,rfl,h1,by simp; omega,by simp; omega⟩
theorem takeS_up {zs : List En} (hr : Rise zs) (e : En) {id : Int} {u : Vr} (h : ∃ v,verAt zs id = some v ∧ ltV v u = false) : ∃ v,verAt (takeS zs e) id = some v ∧ ltV v u = false := by
  rw [verAt_take e id hr]
  exact step_up e id h
theorem takeS_has {zs : List En} (hr : Rise zs) (e : En) : ∃ v,verAt (takeS zs e) e.id = some v ∧ ltV v e.ver = false := by
  rw [verAt_take e e.id hr,stepV,if_pos rfl]
  refine ⟨_,rfl,?_⟩
  unfold mx
  cases verAt zs e.id with
  | none => exact ltV_irrefl _
  | some u =>
    simp only
    split
    · exact ltV_irrefl _
    · rename_i h; simpa using h
structure TookB (f : Int) (l : List En) (k : List Rn) (h : List En) (k' : List Rn) (h' : List En) : Prop where
  right : rightB k = true → rightB k' = true
  rise : Rise h'
  good : (∀ x ∈ h,reB x = true) → (∀ x ∈ l,reB x = true) → ∀ x ∈ h',reB x = true
  okh : (∀ x ∈ h,x.ok) → (∀ x ∈ l,x.ok) → ∀ x ∈ h',x.ok
  was : ∀ q m,covs k q m = true → covs k' q m = true
  now : ∀ q m,covs k' q m = true → covs k q m = true ∨ ∃ x ∈ l,x.rep = q ∧ x.seq = m
  up : ∀ id u,(∃ v,verAt h id = some v ∧ ltV v u = false) → ∃ v,verAt h' id = some v ∧ ltV v u = false
  has : ∀ x ∈ l,∃ v,verAt h' x.id = some v ∧ ltV v x.ver = false
  len : h'.length ≤ h.length + l.length
theorem tookB (f : Int) : ∀ (l : List En) (k : List Rn) (h : List En) (k' : List Rn) (h' : List En),Rise h → takesR f l k h = .ok (k',h') → TookB f l k h k' h'
  | [],k,h,k',h',hr,he => by
    simp only [takesR,Except.ok.injEq,Prod.mk.injEq] at he
    obtain ⟨rfl,rfl⟩ := he
    exact ⟨id,hr,fun g _ => g,fun g _ => g,fun _ _ g => g,fun _ _ g => .inl g,fun _ _ g => g,(fun x hx => by cases hx),Nat.le_refl _⟩
  | e :: l,k,h,k',h',hr,he => by
    have hver : (fitE f e).ver = e.ver := by
      obtain ⟨_,e2,e3,e4⟩ := fit_same f e
      unfold En.ver
      rw [e2,e3,e4]
    have hid := (fit_same f e).1
    have step : ∀ k2,(rightB k = true → rightB k2 = true) → (∀ q m,covs k q m = true → covs k2 q m = true) → (∀ q m,covs k2 q m = true → covs k q m = true ∨ (e.rep = q ∧ e.seq = m)) → takesR f l k2 (takeS h (fitE f e)) = .ok (k',h') → TookB f (e :: l) k h k' h' := fun k2 hk hm hn he => by
      have T := tookB f l k2 _ k' h' (takeS_rise _ hr) he
      refine ⟨fun g => T.right (hk g),T.rise,fun g1 g2 => T.good (fun x hx => ?_) (fun x hx => g2 x (by simp [hx])),fun g1 g2 => T.okh (fun x hx => ?_) (fun x hx => g2 x (by simp [hx])),fun q m g => T.was q m (hm q m g),fun q m g => ?_,fun id u g => T.up id u (takeS_up hr _ g),fun x hx => ?_,by have h1 := T.len; have h2 := takeS_length h (fitE f e); simp only [List.length_cons]; omega⟩
      · rcases mem_takeS hx with h1 | h1
        · rw [h1]; exact fit_re (g2 e (by simp))
        · exact g1 x h1
      · rcases mem_takeS hx with h1 | h1
        · rw [h1]; exact fit_ok (g2 e (by simp))
        · exact g1 x h1
      · rcases T.now q m g with g1 | ⟨x,hx,h1,h2⟩
        · rcases hn q m g1 with g2 | ⟨h1,h2⟩
          · exact .inl g2
          · exact .inr ⟨e,by simp,h1,h2⟩
        · exact .inr ⟨x,by simp [hx],h1,h2⟩
      · rcases List.mem_cons.1 hx with rfl | hx
        · refine T.up _ _ ?_
          have := takeS_has hr (fitE f x)
          rw [hid,hver] at this
          exact this
        · exact T.has x hx
    simp only [takesR] at he
    split at he
    · exact step k id (fun _ _ g => g) (fun _ _ g => .inl g) he
    · cases ha : addR k e.rep e.seq with
      | error c => rw [ha] at he; cases he
      | ok k2 =>
        rw [ha] at he
        have hh := add_has ha
        refine step k2 (fun _ => add_right ha) (fun q m g => by rw [hh,g]; rfl) (fun q m g => ?_) he
        rw [hh] at g
        simp only [Bool.or_eq_true,Bool.and_eq_true,decide_eq_true_eq] at g
        exact g
end Go.Proofs.YtfjaeohfigcciabGreatDoor

namespace Go.Proofs.YtfjaeohfigcciabGreatDoor

def refuseA (r : Rp) (b : Nt) : Option Int :=
  if rpB r = false then some 9 else if noteB b = false then some 3 else if waitB r b = false then some 4 else if clashB r b = true then some 9 else if 0 < b.cur ∧ b.epoch ≠ r.ses.epoch then some 10 else none
theorem accept_none {r : Rp} {b : Nt} (h : refuseA r b = none) : acceptR r b = takeP r b := by
  unfold refuseA at h
  unfold acceptR
  split at h
  · cases h
  split at h
  · cases h
  split at h
  · cases h
  split at h
  · cases h
  split at h
  · cases h
  rename_i h1 h2 h3 h4 h5
  rw [if_neg h1,if_neg h2,if_neg h3,if_neg h4,if_neg h5]
theorem accept_some {r : Rp} {b : Nt} {c : Int} (h : refuseA r b = some c) : acceptR r b = (if c = 10 then ⟨offP r,zeroN,false,10⟩ else noAcc c) ∧ (c = 9 ∨ c = 3 ∨ c = 4 ∨ c = 10) := by
  unfold refuseA at h
  unfold acceptR
  split at h
  · rename_i h1; injection h with h; subst h; rw [if_pos h1]; exact ⟨rfl,by simp⟩
  split at h
  · rename_i h1 h2; injection h with h; subst h; rw [if_neg h1,if_pos h2]; exact ⟨rfl,by simp⟩
  split at h
  · rename_i h1 h2 h3; injection h with h; subst h; rw [if_neg h1,if_neg h2,if_pos h3]; exact ⟨rfl,by simp⟩
  split at h
  · rename_i h1 h2 h3 h4; injection h with h; subst h; rw [if_neg h1,if_neg h2,if_neg h3,if_pos h4]; exact ⟨rfl,by simp⟩
  split at h
  · rename_i h1 h2 h3 h4 h5; injection h with h; subst h; rw [if_neg h1,if_neg h2,if_neg h3,if_neg h4,if_pos h5]; exact ⟨rfl,by simp⟩
  · cases h
structure GoesIn (r : Rp) (b : Nt) : Prop where
  rp : rpB r = true
  nb : noteB b = true
  wait : waitB r b = true
  clash : clashB r b = false
  ep : ¬ (0 < b.cur ∧ b.epoch ≠ r.ses.epoch)
theorem refuse_goes {r : Rp} {b : Nt} (h : refuseA r b = none) : GoesIn r b := by
  unfold refuseA at h
  split at h
  · cases h
  split at h
  · cases h
  split at h
  · cases h
  split at h
  · cases h
  split at h
  · cases h
  rename_i h1 h2 h3 h4 h5
  exact ⟨by simpa using h1,by simpa using h2,by simpa using h3,by simpa using h4,h5⟩
theorem wait_on {r : Rp} {b : Nt} (h : waitB r b = true) : r.ses.on = true ∧ b.kind = 2 := by
  unfold waitB at h
  simp only [Bool.and_eq_true,Bool.not_eq_true',bne_eq_false_iff_eq] at h
  exact ⟨h.2.2.1,h.1⟩
theorem batch_of {b : Nt} (h : noteB b = true) (hk : b.kind = 2) : erightB b.ents = true ∧ b.ents.length ≤ 4 ∧ rightB b.offer = true := by
  unfold noteB at h
  rw [hk,if_neg (by decide)] at h
  simp only [batchB,Bool.and_eq_true,decide_eq_true_eq] at h
  exact ⟨h.2.2.1,h.2.1.2.2.2,h.2.2.2.1⟩

theorem twice_any {l h : List En} (hr : Rise l) : (List.range l.length).any (twiceAt h l) = l.any (fun e => l.any (otherHeld e) || h.any (otherHeld e)) := by
  have hid : ∀ i k (hi : i < l.length) (hk : k < l.length),(l[k].id != l[i].id) = (k != i) := fun i k hi hk => by
    rw [Bool.eq_iff_iff]
    simp only [bne_iff_ne,ne_eq]
    have hp := List.pairwise_iff_getElem.1 hr
    constructor
    · intro h e; subst e; exact h rfl
    · intro h e
      rcases Nat.lt_or_gt_of_ne h with h1 | h1
      · have := hp k i hk hi h1; omega
      · have := hp i k hi hk h1; omega
  have hin : ∀ i (hi : i < l.length),(List.range l.length).any (otherAt l i) = l.any (otherHeld l[i]) := fun i hi => by
    rw [Bool.eq_iff_iff,List.any_eq_true,List.any_eq_true]
    constructor
    · rintro ⟨k,hk,ho⟩
      have hk := List.mem_range.1 hk
      refine ⟨l[k],List.getElem_mem hk,?_⟩
      unfold otherAt at ho
      rw [egetBang_of (List.getElem?_eq_getElem hi),egetBang_of (List.getElem?_eq_getElem hk)] at ho
      unfold otherHeld
      rw [hid i k hi hk]
      exact ho
    · rintro ⟨x,hx,ho⟩
      obtain ⟨k,hk,rfl⟩ := List.mem_iff_getElem.1 hx
      refine ⟨k,List.mem_range.2 hk,?_⟩
      unfold otherAt
      rw [egetBang_of (List.getElem?_eq_getElem hi),egetBang_of (List.getElem?_eq_getElem hk)]
      unfold otherHeld at ho
      rw [hid i k hi hk] at ho
      exact ho
  rw [Bool.eq_iff_iff,List.any_eq_true,List.any_eq_true]
  constructor
  · rintro ⟨i,hi,ht⟩
    have hi := List.mem_range.1 hi
    refine ⟨l[i],List.getElem_mem hi,?_⟩
    unfold twiceAt at ht
    rw [hin i hi,egetBang_of (List.getElem?_eq_getElem hi)] at ht
    exact ht
  · rintro ⟨x,hx,ht⟩
    obtain ⟨i,hi,rfl⟩ := List.mem_iff_getElem.1 hx
    refine ⟨i,List.mem_range.2 hi,?_⟩
    unfold twiceAt
    rw [hin i hi,egetBang_of (List.getElem?_eq_getElem hi)]
    exact ht
def aheadR (r : Rp) (b : Nt) : Bool := b.ents.any (aheadE r) || b.offer.any (topC r.rep r.seq)
def clashR (r : Rp) (b : Nt) : Bool := b.ents.any (fun e => b.ents.any (otherHeld e) || r.held.any (otherHeld e))
theorem clash_is {r : Rp} {b : Nt} (h : erightB b.ents = true) : (aheadR r b || clashR r b) = clashB r b := by
  unfold aheadR clashR clashB
  rw [twice_any (rise_of_right h),← top_any,Bool.not_not]
  cases b.ents.any (aheadE r) <;> cases b.offer.any (topC r.rep r.seq) <;> simp

theorem fade_wanted (e : En) (f : Int) : ((fitE f e).kind = 2 ∧ inB (fitE f e) f = true) ↔ (e.kind = 2 ∧ inB e f = true) := by
  unfold fitE
  split
  · exact Iff.rfl
  · rename_i hi
    unfold fadeE
    split
    · rename_i hk
      constructor
      · rintro ⟨_,h2⟩
        exfalso
        apply hi
        unfold inB at h2 ⊢
        simp only [Bool.or_eq_true,decide_eq_true_eq] at h2 ⊢
        rcases h2 with h2 | h2
        · exact absurd h2 (by decide)
        · exact .inr h2
      · rintro ⟨h1,_⟩
        rw [hk] at h1
        exact absurd h1 (by decide)
    · exact Iff.rfl
theorem tc_one (f : Int) (e : En) (k : List Rn) (h : List En) : takesR f [e] k h =
    if e.kind = 2 ∧ inB e f = true then .ok (k,takeS h (fitE f e)) else (match addR k e.rep e.seq with | .ok k' => .ok (k',takeS h (fitE f e)) | .error c => .error c) := by
  unfold takesR takesR
  split
  · rfl
  · cases addR k e.rep e.seq <;> rfl
theorem tc_take {l : List En} {i : Nat} {e : En} (h : l[i]? = some e) : l.take (i + 1) = l.take i ++ [e] := by
  obtain ⟨hi,rfl⟩ := List.getElem?_eq_some_iff.1 h
  rw [List.take_succ_eq_append_getElem hi]
theorem tc_next {f : Int} {l : List En} {i : Nat} {e : En} {k0 : List Rn} {h0 : List En} {x : List Rn × List En} (he : l[i]? = some e) (h : takesR f (l.take i) k0 h0 = .ok x) :
    takesR f (l.take (i + 1)) k0 h0 = takesR f [e] x.1 x.2 := by
  rw [tc_take he,takes_snoc,h]
theorem tc_dies {f : Int} {l : List En} {i : Nat} {k0 : List Rn} {h0 : List En} {c : Int} (h : takesR f (l.take i) k0 h0 = .error c) : takesR f l k0 h0 = .error c := by
  have := takes_bad f (l.drop i) (l.take i) k0 h0 c h
  rwa [List.take_append_drop] at this
end Go.Proofs.YtfjaeohfigcciabGreatDoor

namespace Go.Proofs.YtfjaeohfigcciabGreatDoor
open Go.RowKit

def withK (r : Rp) (k : List Rn) (h : List En) : Rp := ⟨r.rep,r.flt,r.epoch,r.seq,k,h,r.ses⟩
def entX (r : Rp) (x : En) : Except Int Rp :=
  if x.kind = 2 ∧ inB x r.flt = true then .ok (withK r r.know (takeS r.held x)) else (match addR r.know x.rep x.seq with | .ok k => .ok (withK r k (takeS r.held x)) | .error c => .error c)
def entR (r : Rp) (e : En) : Except Int Rp := match takesR r.flt [e] r.know r.held with | .ok x => .ok (withK r x.1 x.2) | .error c => .error c
theorem ent_fit (r : Rp) (e : En) : entR r e = entX r (fitE r.flt e) := by
  unfold entR entX
  rw [tc_one]
  obtain ⟨_,e2,e3,_⟩ := fit_same r.flt e
  rw [e2,e3]
  by_cases h : e.kind = 2 ∧ inB e r.flt = true
  · rw [if_pos h,if_pos ((fade_wanted e r.flt).2 h)]
  · rw [if_neg h,if_neg (fun g => h ((fade_wanted e r.flt).1 g))]
    cases addR r.know e.rep e.seq <;> rfl
theorem with_ok {r : Rp} (h : r.ok) {k : List Rn} {l : List En} (hk : ∀ x ∈ k,x.ok) (hl : ∀ x ∈ l,x.ok) : (withK r k l).ok := by
  obtain ⟨a1,a2,a3,a4,_,_,a7⟩ := h
  exact ⟨a1,a2,a3,a4,hk,hl,a7⟩
def RepMore (P : Nat → Prop) (w : World) (res : Except Int Rp) (e : Ending) (w' : World) : Prop :=
  match res with
  | .ok x => ∃ v,e = .returned v ∧ RpV w' w'.heap.size v x ∧ RpAv (fun k => P k ∨ w.heap.size ≤ k) v x ∧ Below w.heap.size w w'
  | .error c => e = diesOf (.iface 74 (.int .i64 c)) ∧ Below w.heap.size w w'
noncomputable def entRest : Code := tailN 2 (Tryz.f69.body.getD .skip)
theorem be_cut {a0 a1 c : Code} (h : Tryz.f69.body = some (.seq a0 (.seq a1 c))) : Tryz.f69.body = some (.seq a0 (.seq a1 entRest)) := by
  have e : entRest = c := tail2 h
  rw [e]
  exact h
theorem be_size : (Tryz.prog.info? 62).map (·.size) = some 7 := by kernel_rfl

set_option maxHeartbeats 16000000 in
set_option maxRecDepth 100000 in
theorem be_rest (P : Nat → Prop) {w wf : World} {r : Rp} {lr : Ls} {x : En} (hbr : Blk wf w.heap.size #[.int .u8 r.rep,.int .u8 r.flt,.int .u32 r.epoch,.int .u32 r.seq,.slice lr.a r.know.length lr.i,.slice lr.b r.held.length lr.j,.bool r.ses.on,.int .u32 r.ses.num,.int .u8 r.ses.src,.int .u8 r.ses.cur,.int .u32 r.ses.epoch,.slice lr.c r.ses.offer.length lr.k,.int .u32 r.ses.last] 28) (hbe : Blk wf (w.heap.size + 1) #[.int .u8 x.id,.int .u8 x.rep,.int .u32 x.seq,.int .u32 x.stamp,.int .i64 x.kind,.int .u8 x.cls,.int .u32 x.val] 62) (hbo : Blk wf (w.heap.size + 1 + 1) #[.int .u8 0,.int .u8 0,.int .u32 0,.int .u32 0,.slice none 0 0,.slice none 0 0,.bool false,.int .u32 0,.int .u8 0,.int .u8 0,.int .u32 0,.slice none 0 0,.int .u32 0] 28)
    (hv : RpV wf wf.heap.size (.agg (repR r lr)) r) (ha : RpAv P (.agg (repR r lr)) r) (hp : RpAv (fun k => k < w.heap.size) (.agg (repR r lr)) r) (hb : Below w.heap.size w wf) (hx : x.ok) (hxr : reB x = true) (hh : erightB r.held = true) (hl : r.held.length ≤ 8000) {u0 u1 u5 u6 u7 u8 u9 u10 u11 u12 u13 u14 u15 u16 u17 u18 u19 u20 u21 u22 u23 u24 u25 u26 u27 u28 u29 u30 u31 u32 u33 u34 u35 u36 u37 u38 u39 u40 u41 u42 u43 : Value} :
    entRest.wp Tryz.prog (bodyPost Tryz.prog Tryz.f69 (RepMore P w (entX r x))) { tmps := #[u0,u1,.pointer (some ⟨w.heap.size,0,none⟩),.pointer (some ⟨w.heap.size + 1,0,none⟩),.pointer (some ⟨w.heap.size + 1 + 1,0,none⟩),u5,u6,u7,u8,u9,u10,u11,u12,u13,u14,u15,u16,u17,u18,u19,u20,u21,u22,u23,u24,u25,u26,u27,u28,u29,u30,u31,u32,u33,u34,u35,u36,u37,u38,u39,u40,u41,u42,u43],defers := [] } wf := by
  have hok := hv.isok
  have hst : takeR r.held x = some (takeS r.held x) := by unfold takeR; rw [if_pos ⟨hh,hxr⟩,takeL_eq x (rise_of_right hh)]
  have hTok : ∀ y ∈ takeS r.held x,y.ok := by
    intro y hy
    rcases mem_takeS hy with h1 | h1
    · rw [h1]; exact hx
    · exact hok.2.2.2.2.2.1 y h1
  have HT := Lib.hid (fun w1 (hb1 : Below wf.heap.size wf w1) => by
    have := Take_anyO (.slice lr.b r.held.length lr.j) r.held x w1 (hv.later hb1).she (by omega) hx
    rw [hst] at this
    exact this)
  have HA := Lib.hid (fun w1 (hs : Sl w1 w1.heap.size (.slice lr.a r.know.length lr.i) r.know) => Add_anyO (.slice lr.a r.know.length lr.i) r.know x.rep x.seq w1 hx.2.1.1 hx.2.1.2.1 hs)
  have HI := Lib.hid (fun w1 => iIn_any x r.flt w1 hx hok.2.1)
  have HX := Lib.hid (show entX r x = if x.kind = 2 ∧ inB x r.flt = true then .ok (withK r r.know (takeS r.held x)) else (match addR r.know x.rep x.seq with | .ok k => .ok (withK r k (takeS r.held x)) | .error c => .error c) from rfl)
  generalize entX r x = R at HX ⊢
  generalize takeS r.held x = T at HT HX hTok
  generalize addR r.know x.rep x.seq = D at HA HX
  generalize inB x r.flt = q2 at HI HX
  have HOK := Lib.hid hok
  have HTO := Lib.hid hTok
  have BR := Lib.hid hbr
  have BE := Lib.hid hbe
  have BO := Lib.hid hbo
  have HV := Lib.hid hv
  have HAP := Lib.hid ha.lists
  have HPP := Lib.hid hp.lists
  have HPW := Lib.hid hp
  have HB := Lib.hid hb
  have hlt := BO.out.lt
  have HLT := Lib.hid hlt
  clear hbr hbe hbo hv ha hp hb hx hxr hh hl hok hst hTok hlt
  by_cases hw : x.kind = 2 ∧ q2 = true
  · obtain ⟨hk2,rfl⟩ := hw
    have hR := HX.out
    rw [if_pos ⟨hk2,rfl⟩] at hR
    subst hR
    have hkk : (x.kind != 2) = false := by rw [hk2]; rfl
    have hkk2 : (x.kind == 2) = true := by rw [hk2]; rfl
    clear HX HA hk2
    unfold entRest
    rw [tail2 (f := Tryz.f69) rfl]
    have c5 := BR.out.cell 5 (.slice lr.b r.held.length lr.j) rfl
    have e0 := BE.out.cell 0 (.int .u8 x.id) rfl
    have e1 := BE.out.cell 1 (.int .u8 x.rep) rfl
    have e2 := BE.out.cell 2 (.int .u32 x.seq) rfl
    have e3 := BE.out.cell 3 (.int .u32 x.stamp) rfl
    have e4 := BE.out.cell 4 (.int .i64 x.kind) rfl
    have e5 := BE.out.cell 5 (.int .u8 x.cls) rfl
    have e6 := BE.out.cell 6 (.int .u32 x.val) rfl
    go_wp2_with fail
    refine (HT.out wf (Below.refl _ _)).mono ?_
    rintro e w1 ⟨v2,rfl,⟨o2,s2⟩,hb⟩
    obtain ⟨A2,d2,rfl,_⟩ := s2
    have O2 := Lib.hid (o2.mono (Nat.le_refl wf.heap.size)); clear o2 c5 e0 e1 e2 e3 e4 e5 e6
    have BR := Lib.hid (BR.out.keep hb)
    have BE := Lib.hid (BE.out.keep hb)
    have BO := Lib.hid (BO.out.keep hb)
    have HV := Lib.hid (HV.out.later hb)
    have HS := Lib.hid hb.size
    have HB := Lib.hid (HB.out.trans (hb.mono HB.out.size)); clear hb
    have c5 := BR.out.cell 5 (.slice lr.b r.held.length lr.j) rfl
    have f5 := BR.out.free 5
    go_upto_region 4 with (go_at_call 107; refine (tsureE_ok _ _).mono ?_; rintro e w2 ⟨rfl,hw⟩; rw [hw]; clear hw)
    have hoff := (Off.refl w.heap.size w1).set 5 (.slice A2 T.length d2)
    have BR := Lib.hid (show Blk (w1.setCell ⟨w.heap.size,5,none⟩ (.slice A2 T.length d2)) w.heap.size #[.int .u8 r.rep,.int .u8 r.flt,.int .u32 r.epoch,.int .u32 r.seq,.slice lr.a r.know.length lr.i,.slice A2 T.length d2,.bool r.ses.on,.int .u32 r.ses.num,.int .u8 r.ses.src,.int .u8 r.ses.cur,.int .u32 r.ses.epoch,.slice lr.c r.ses.offer.length lr.k,.int .u32 r.ses.last] 28 from BR.out.put 5 (.slice A2 T.length d2))
    have BE := Lib.hid (BE.out.off hoff (by omega))
    have BO := Lib.hid (BO.out.off hoff (by omega))
    have HV := Lib.hid (HV.out.off hoff (HPW.out.mono fun k hk => by omega))
    have O2 := Lib.hid (O2.out.setOther (h := w.heap.size) (j := 5) (u := .slice A2 T.length d2) (by have := HLT.out; omega))
    have HB := Lib.hid (below_off HB.out hoff (Nat.le_refl _))
    have hz := hoff.size
    rw [← hz] at HV HS
    clear hoff hz c5 f5
    generalize w1.setCell ⟨w.heap.size,5,none⟩ (.slice A2 T.length d2) = w2 at BR BE BO HV O2 HB HS ⊢
    have c1 := BR.out.cell 1 (.int .u8 r.flt) rfl
    have e0 := BE.out.cell 0 (.int .u8 x.id) rfl
    have e1 := BE.out.cell 1 (.int .u8 x.rep) rfl
    have e2 := BE.out.cell 2 (.int .u32 x.seq) rfl
    have e3 := BE.out.cell 3 (.int .u32 x.stamp) rfl
    have e4 := BE.out.cell 4 (.int .i64 x.kind) rfl
    have e5 := BE.out.cell 5 (.int .u8 x.cls) rfl
    have e6 := BE.out.cell 6 (.int .u32 x.val) rfl
    go_wp2_with fail
    refine (HI.out w2).mono ?_
    rintro e w3 ⟨rfl,hb⟩
    have BR := Lib.hid (BR.out.keep hb)
    have BE := Lib.hid (BE.out.keep hb)
    have BO := Lib.hid (BO.out.keep hb)
    have HV := Lib.hid (HV.out.later hb)
    have O2 := Lib.hid (O2.out.below hb)
    have HS := Lib.hid (Nat.le_trans HS.out hb.size)
    have HB := Lib.hid (HB.out.trans (hb.mono HB.out.size)); clear hb c1 e0 e1 e2 e3 e4 e5 e6
    go_upto_region 6 with fail
    go_wp2_with (first
      | (refine wpList_load_row rfl _ _ rfl w.heap.size rfl 28 #[.int .u8 r.rep,.int .u8 r.flt,.int .u32 r.epoch,.int .u32 r.seq,.slice lr.a r.know.length lr.i,.slice A2 T.length d2,.bool r.ses.on,.int .u32 r.ses.num,.int .u8 r.ses.src,.int .u8 r.ses.cur,.int .u32 r.ses.epoch,.slice lr.c r.ses.offer.length lr.k,.int .u32 r.ses.last] (0,0) _ BR.out.at_ Tryz.underlying28 rfl rep_size1 ?_)
      | (refine wpList_store_row rfl _ _ _ rfl (w.heap.size + 1 + 1) #[.int .u8 r.rep,.int .u8 r.flt,.int .u32 r.epoch,.int .u32 r.seq,.slice lr.a r.know.length lr.i,.slice A2 T.length d2,.bool r.ses.on,.int .u32 r.ses.num,.int .u8 r.ses.src,.int .u8 r.ses.cur,.int .u32 r.ses.epoch,.slice lr.c r.ses.offer.length lr.k,.int .u32 r.ses.last] rfl rfl 28 #[.int .u8 0,.int .u8 0,.int .u32 0,.int .u32 0,.slice none 0 0,.slice none 0 0,.bool false,.int .u32 0,.int .u8 0,.int .u8 0,.int .u32 0,.slice none 0 0,.int .u32 0] BO.out.at_ rep_size1 rfl (by simp [Value.oneCell']) ?_))
    refine bodyPost_ret (v := .agg #[.int .u8 r.rep,.int .u8 r.flt,.int .u32 r.epoch,.int .u32 r.seq,.slice lr.a r.know.length lr.i,.slice A2 T.length d2,.bool r.ses.on,.int .u32 r.ses.num,.int .u8 r.ses.src,.int .u8 r.ses.cur,.int .u32 r.ses.epoch,.slice lr.c r.ses.offer.length lr.k,.int .u32 r.ses.last]) (results_cell_row Tryz.results69 _ _ (w.heap.size + 1 + 1) 28 #[.int .u8 r.rep,.int .u8 r.flt,.int .u32 r.epoch,.int .u32 r.seq,.slice lr.a r.know.length lr.i,.slice A2 T.length d2,.bool r.ses.on,.int .u32 r.ses.num,.int .u8 r.ses.src,.int .u8 r.ses.cur,.int .u32 r.ses.epoch,.slice lr.c r.ses.offer.length lr.k,.int .u32 r.ses.last] (0,0) _ rfl (BO.out.row #[.int .u8 r.rep,.int .u8 r.flt,.int .u32 r.epoch,.int .u32 r.seq,.slice lr.a r.know.length lr.i,.slice A2 T.length d2,.bool r.ses.on,.int .u32 r.ses.num,.int .u8 r.ses.src,.int .u8 r.ses.cur,.int .u32 r.ses.epoch,.slice lr.c r.ses.offer.length lr.k,.int .u32 r.ses.last]).at_ Tryz.underlying28 rfl rep_size1) rfl ?_
    have hlt := HLT.out
    have P2 := O2.out.setRowOther (h := w.heap.size + 1 + 1) (cs := #[.int .u8 r.rep,.int .u8 r.flt,.int .u32 r.epoch,.int .u32 r.seq,.slice lr.a r.know.length lr.i,.slice A2 T.length d2,.bool r.ses.on,.int .u32 r.ses.num,.int .u8 r.ses.src,.int .u8 r.ses.cur,.int .u32 r.ses.epoch,.slice lr.c r.ses.offer.length lr.k,.int .u32 r.ses.last]) (by omega)
    have P3 := HV.out.sof.rowOff (g := w.heap.size + 1 + 1) (HPP.out.2.2.mono fun k hk => by omega) #[.int .u8 r.rep,.int .u8 r.flt,.int .u32 r.epoch,.int .u32 r.seq,.slice lr.a r.know.length lr.i,.slice A2 T.length d2,.bool r.ses.on,.int .u32 r.ses.num,.int .u8 r.ses.src,.int .u8 r.ses.cur,.int .u32 r.ses.epoch,.slice lr.c r.ses.offer.length lr.k,.int .u32 r.ses.last]
    have P1 := HV.out.skn.rowOff (g := w.heap.size + 1 + 1) (HPP.out.1.mono fun k hk => by omega) #[.int .u8 r.rep,.int .u8 r.flt,.int .u32 r.epoch,.int .u32 r.seq,.slice lr.a r.know.length lr.i,.slice A2 T.length d2,.bool r.ses.on,.int .u32 r.ses.num,.int .u8 r.ses.src,.int .u8 r.ses.cur,.int .u32 r.ses.epoch,.slice lr.c r.ses.offer.length lr.k,.int .u32 r.ses.last]
    have hz : (w3.setRow (w.heap.size + 1 + 1) #[.int .u8 r.rep,.int .u8 r.flt,.int .u32 r.epoch,.int .u32 r.seq,.slice lr.a r.know.length lr.i,.slice A2 T.length d2,.bool r.ses.on,.int .u32 r.ses.num,.int .u8 r.ses.src,.int .u8 r.ses.cur,.int .u32 r.ses.epoch,.slice lr.c r.ses.offer.length lr.k,.int .u32 r.ses.last]).heap.size = w3.heap.size := by simp [World.setRow]
    rw [← hz] at P3 P1
    have P2s := P2.sl HTO.out
    have P1s := P1
    have P1a := HAP.out.1.mono fun k (hk : P k) => (.inl hk : P k ∨ w.heap.size ≤ k)
    exact ⟨_,rfl,⟨_,_,_,rfl,P1s,P2s,P3,with_ok HOK.out P1s.isok HTO.out⟩,⟨_,_,_,rfl,P1a,P2.av.mono fun k hk => .inr (by omega),HAP.out.2.2.mono fun k hk => .inl hk⟩,below_setRow1 (B := w.heap.size) (r := w.heap.size + 1 + 1) HB.out (by omega) _⟩
  · have hR := HX.out
    rw [if_neg hw] at hR
    have hw2 := Lib.hid hw
    clear hw HX
    cases D with
    | error c =>
      subst hR
      unfold entRest
      rw [tail2 (f := Tryz.f69) rfl]
      have c5 := BR.out.cell 5 (.slice lr.b r.held.length lr.j) rfl
      have e0 := BE.out.cell 0 (.int .u8 x.id) rfl
      have e1 := BE.out.cell 1 (.int .u8 x.rep) rfl
      have e2 := BE.out.cell 2 (.int .u32 x.seq) rfl
      have e3 := BE.out.cell 3 (.int .u32 x.stamp) rfl
      have e4 := BE.out.cell 4 (.int .i64 x.kind) rfl
      have e5 := BE.out.cell 5 (.int .u8 x.cls) rfl
      have e6 := BE.out.cell 6 (.int .u32 x.val) rfl
      go_wp2_with fail
      refine (HT.out wf (Below.refl _ _)).mono ?_
      rintro e w1 ⟨v2,rfl,⟨o2,s2⟩,hb⟩
      obtain ⟨A2,d2,rfl,_⟩ := s2
      have O2 := Lib.hid (o2.mono (Nat.le_refl wf.heap.size)); clear o2 c5 e0 e1 e2 e3 e4 e5 e6
      have BR := Lib.hid (BR.out.keep hb)
      have BE := Lib.hid (BE.out.keep hb)
      have BO := Lib.hid (BO.out.keep hb)
      have HV := Lib.hid (HV.out.later hb)
      have HS := Lib.hid hb.size
      have HB := Lib.hid (HB.out.trans (hb.mono HB.out.size)); clear hb
      have c5 := BR.out.cell 5 (.slice lr.b r.held.length lr.j) rfl
      have f5 := BR.out.free 5
      go_upto_region 4 with (go_at_call 107; refine (tsureE_ok _ _).mono ?_; rintro e w2 ⟨rfl,hw⟩; rw [hw]; clear hw)
      have hoff := (Off.refl w.heap.size w1).set 5 (.slice A2 T.length d2)
      have BR := Lib.hid (show Blk (w1.setCell ⟨w.heap.size,5,none⟩ (.slice A2 T.length d2)) w.heap.size #[.int .u8 r.rep,.int .u8 r.flt,.int .u32 r.epoch,.int .u32 r.seq,.slice lr.a r.know.length lr.i,.slice A2 T.length d2,.bool r.ses.on,.int .u32 r.ses.num,.int .u8 r.ses.src,.int .u8 r.ses.cur,.int .u32 r.ses.epoch,.slice lr.c r.ses.offer.length lr.k,.int .u32 r.ses.last] 28 from BR.out.put 5 (.slice A2 T.length d2))
      have BE := Lib.hid (BE.out.off hoff (by omega))
      have BO := Lib.hid (BO.out.off hoff (by omega))
      have HV := Lib.hid (HV.out.off hoff (HPW.out.mono fun k hk => by omega))
      have O2 := Lib.hid (O2.out.setOther (h := w.heap.size) (j := 5) (u := .slice A2 T.length d2) (by have := HLT.out; omega))
      have HB := Lib.hid (below_off HB.out hoff (Nat.le_refl _))
      have hz := hoff.size
      rw [← hz] at HV HS
      clear hoff hz c5 f5
      generalize w1.setCell ⟨w.heap.size,5,none⟩ (.slice A2 T.length d2) = w2 at BR BE BO HV O2 HB HS ⊢
      have c1 := BR.out.cell 1 (.int .u8 r.flt) rfl
      have e0 := BE.out.cell 0 (.int .u8 x.id) rfl
      have e1 := BE.out.cell 1 (.int .u8 x.rep) rfl
      have e2 := BE.out.cell 2 (.int .u32 x.seq) rfl
      have e3 := BE.out.cell 3 (.int .u32 x.stamp) rfl
      have e4 := BE.out.cell 4 (.int .i64 x.kind) rfl
      have e5 := BE.out.cell 5 (.int .u8 x.cls) rfl
      have e6 := BE.out.cell 6 (.int .u32 x.val) rfl
      obtain ⟨q1,hq1⟩ : ∃ q : Bool,(x.kind != 2) = q := ⟨_,rfl⟩
      have h1' : (x.kind == 2) = !q1 := by rw [← hq1]; simp [bne]
      have HQ1 := Lib.hid hq1
      cases q1
      · have hq2 : q2 = false := by
          cases q2
          · rfl
          · exact absurd ⟨by have := HQ1.out; simpa using this,rfl⟩ hw2.out
        subst hq2
        go_wp2_with fail
        refine (HI.out w2).mono ?_
        rintro e w3 ⟨rfl,hb⟩
        have BR := Lib.hid (BR.out.keep hb)
        have BE := Lib.hid (BE.out.keep hb)
        have BO := Lib.hid (BO.out.keep hb)
        have HV := Lib.hid (HV.out.later hb)
        have O2 := Lib.hid (O2.out.below hb)
        have HS := Lib.hid (Nat.le_trans HS.out hb.size)
        have HB := Lib.hid (HB.out.trans (hb.mono HB.out.size)); clear hb c1 e0 e1 e2 e3 e4 e5 e6
        have c4 := BR.out.cell 4 (.slice lr.a r.know.length lr.i) rfl
        have f4 := BR.out.free 4
        have x1 := BE.out.cell 1 (.int .u8 x.rep) rfl
        have x2 := BE.out.cell 2 (.int .u32 x.seq) rfl
        go_wp2_with fail
        refine (HA.out w3 HV.out.skn).mono ?_
        rintro e w5 ⟨rfl,hb⟩
        have HB := Lib.hid (HB.out.trans (hb.mono HB.out.size)); clear hb
        go_wp2_with fail
        refine (tsureR_bad _ _ _ _).mono ?_
        rintro e w6 ⟨rfl,hw⟩
        exact ⟨rfl,rfl,hw ▸ HB.out⟩
      · clear c1
        have c4 := BR.out.cell 4 (.slice lr.a r.know.length lr.i) rfl
        have f4 := BR.out.free 4
        have x1 := BE.out.cell 1 (.int .u8 x.rep) rfl
        have x2 := BE.out.cell 2 (.int .u32 x.seq) rfl
        go_wp2_with fail
        refine (HA.out w2 HV.out.skn).mono ?_
        rintro e w5 ⟨rfl,hb⟩
        have HB := Lib.hid (HB.out.trans (hb.mono HB.out.size)); clear hb
        go_wp2_with fail
        refine (tsureR_bad _ _ _ _).mono ?_
        rintro e w6 ⟨rfl,hw⟩
        exact ⟨rfl,rfl,hw ▸ HB.out⟩
    | ok k =>
      subst hR
      unfold entRest
      rw [tail2 (f := Tryz.f69) rfl]
      have c5 := BR.out.cell 5 (.slice lr.b r.held.length lr.j) rfl
      have e0 := BE.out.cell 0 (.int .u8 x.id) rfl
      have e1 := BE.out.cell 1 (.int .u8 x.rep) rfl
      have e2 := BE.out.cell 2 (.int .u32 x.seq) rfl
      have e3 := BE.out.cell 3 (.int .u32 x.stamp) rfl
      have e4 := BE.out.cell 4 (.int .i64 x.kind) rfl
      have e5 := BE.out.cell 5 (.int .u8 x.cls) rfl
      have e6 := BE.out.cell 6 (.int .u32 x.val) rfl
      go_wp2_with fail
      refine (HT.out wf (Below.refl _ _)).mono ?_
      rintro e w1 ⟨v2,rfl,⟨o2,s2⟩,hb⟩
      obtain ⟨A2,d2,rfl,_⟩ := s2
      have O2 := Lib.hid (o2.mono (Nat.le_refl wf.heap.size)); clear o2 c5 e0 e1 e2 e3 e4 e5 e6
      have BR := Lib.hid (BR.out.keep hb)
      have BE := Lib.hid (BE.out.keep hb)
      have BO := Lib.hid (BO.out.keep hb)
      have HV := Lib.hid (HV.out.later hb)
      have HS := Lib.hid hb.size
      have HB := Lib.hid (HB.out.trans (hb.mono HB.out.size)); clear hb
      have c5 := BR.out.cell 5 (.slice lr.b r.held.length lr.j) rfl
      have f5 := BR.out.free 5
      go_upto_region 4 with (go_at_call 107; refine (tsureE_ok _ _).mono ?_; rintro e w2 ⟨rfl,hw⟩; rw [hw]; clear hw)
      have hoff := (Off.refl w.heap.size w1).set 5 (.slice A2 T.length d2)
      have BR := Lib.hid (show Blk (w1.setCell ⟨w.heap.size,5,none⟩ (.slice A2 T.length d2)) w.heap.size #[.int .u8 r.rep,.int .u8 r.flt,.int .u32 r.epoch,.int .u32 r.seq,.slice lr.a r.know.length lr.i,.slice A2 T.length d2,.bool r.ses.on,.int .u32 r.ses.num,.int .u8 r.ses.src,.int .u8 r.ses.cur,.int .u32 r.ses.epoch,.slice lr.c r.ses.offer.length lr.k,.int .u32 r.ses.last] 28 from BR.out.put 5 (.slice A2 T.length d2))
      have BE := Lib.hid (BE.out.off hoff (by omega))
      have BO := Lib.hid (BO.out.off hoff (by omega))
      have HV := Lib.hid (HV.out.off hoff (HPW.out.mono fun k hk => by omega))
      have O2 := Lib.hid (O2.out.setOther (h := w.heap.size) (j := 5) (u := .slice A2 T.length d2) (by have := HLT.out; omega))
      have HB := Lib.hid (below_off HB.out hoff (Nat.le_refl _))
      have hz := hoff.size
      rw [← hz] at HV HS
      clear hoff hz c5 f5
      generalize w1.setCell ⟨w.heap.size,5,none⟩ (.slice A2 T.length d2) = w2 at BR BE BO HV O2 HB HS ⊢
      have c1 := BR.out.cell 1 (.int .u8 r.flt) rfl
      have e0 := BE.out.cell 0 (.int .u8 x.id) rfl
      have e1 := BE.out.cell 1 (.int .u8 x.rep) rfl
      have e2 := BE.out.cell 2 (.int .u32 x.seq) rfl
      have e3 := BE.out.cell 3 (.int .u32 x.stamp) rfl
      have e4 := BE.out.cell 4 (.int .i64 x.kind) rfl
      have e5 := BE.out.cell 5 (.int .u8 x.cls) rfl
      have e6 := BE.out.cell 6 (.int .u32 x.val) rfl
      obtain ⟨q1,hq1⟩ : ∃ q : Bool,(x.kind != 2) = q := ⟨_,rfl⟩
      have h1' : (x.kind == 2) = !q1 := by rw [← hq1]; simp [bne]
      have HQ1 := Lib.hid hq1
      cases q1
      · have hq2 : q2 = false := by
          cases q2
          · rfl
          · exact absurd ⟨by have := HQ1.out; simpa using this,rfl⟩ hw2.out
        subst hq2
        go_wp2_with fail
        refine (HI.out w2).mono ?_
        rintro e w3 ⟨rfl,hb⟩
        have BR := Lib.hid (BR.out.keep hb)
        have BE := Lib.hid (BE.out.keep hb)
        have BO := Lib.hid (BO.out.keep hb)
        have HV := Lib.hid (HV.out.later hb)
        have O2 := Lib.hid (O2.out.below hb)
        have HS := Lib.hid (Nat.le_trans HS.out hb.size)
        have HB := Lib.hid (HB.out.trans (hb.mono HB.out.size)); clear hb c1 e0 e1 e2 e3 e4 e5 e6
        have c4 := BR.out.cell 4 (.slice lr.a r.know.length lr.i) rfl
        have f4 := BR.out.free 4
        have x1 := BE.out.cell 1 (.int .u8 x.rep) rfl
        have x2 := BE.out.cell 2 (.int .u32 x.seq) rfl
        go_wp2_with fail
        refine (HA.out w3 HV.out.skn).mono ?_
        rintro e w5 ⟨v1,rfl,⟨o1,s1⟩,hb⟩
        have HKO := Lib.hid s1.isok
        obtain ⟨A1,d1,rfl,_⟩ := s1
        have hle : wf.heap.size ≤ w3.heap.size := HS.out
        have O1 := Lib.hid (o1.mono hle); clear o1
        have BR := Lib.hid (BR.out.keep hb)
        have BE := Lib.hid (BE.out.keep hb)
        have BO := Lib.hid (BO.out.keep hb)
        have HV := Lib.hid (HV.out.later hb)
        have O2 := Lib.hid (O2.out.below hb)
        have HB := Lib.hid (HB.out.trans (hb.mono HB.out.size)); clear hb c4 f4
        have c4 := BR.out.cell 4 (.slice lr.a r.know.length lr.i) rfl
        have f4 := BR.out.free 4
        go_upto_region 6 with (go_at_call 71; refine (tsureR_ok _ _).mono ?_; rintro e w6 ⟨rfl,hw⟩; rw [hw]; clear hw)
        have hoff := (Off.refl w.heap.size w5).set 4 (.slice A1 k.length d1)
        have BR := Lib.hid (show Blk (w5.setCell ⟨w.heap.size,4,none⟩ (.slice A1 k.length d1)) w.heap.size #[.int .u8 r.rep,.int .u8 r.flt,.int .u32 r.epoch,.int .u32 r.seq,.slice A1 k.length d1,.slice A2 T.length d2,.bool r.ses.on,.int .u32 r.ses.num,.int .u8 r.ses.src,.int .u8 r.ses.cur,.int .u32 r.ses.epoch,.slice lr.c r.ses.offer.length lr.k,.int .u32 r.ses.last] 28 from BR.out.put 4 (.slice A1 k.length d1))
        have BO := Lib.hid (BO.out.off hoff (by omega))
        have HV := Lib.hid (HV.out.off hoff (HPW.out.mono fun k hk => by omega))
        have O2 := Lib.hid (O2.out.setOther (h := w.heap.size) (j := 4) (u := .slice A1 k.length d1) (by have := HLT.out; omega))
        have O1 := Lib.hid (O1.out.setOther (h := w.heap.size) (j := 4) (u := .slice A1 k.length d1) (by have := HLT.out; omega))
        have HB := Lib.hid (below_off HB.out hoff (Nat.le_refl _))
        have hz := hoff.size
        rw [← hz] at HV
        clear hoff hz c4 f4 x1 x2
        generalize w5.setCell ⟨w.heap.size,4,none⟩ (.slice A1 k.length d1) = w7 at BR BO HV O2 O1 HB ⊢
        go_wp2_with (first
          | (refine wpList_load_row rfl _ _ rfl w.heap.size rfl 28 #[.int .u8 r.rep,.int .u8 r.flt,.int .u32 r.epoch,.int .u32 r.seq,.slice A1 k.length d1,.slice A2 T.length d2,.bool r.ses.on,.int .u32 r.ses.num,.int .u8 r.ses.src,.int .u8 r.ses.cur,.int .u32 r.ses.epoch,.slice lr.c r.ses.offer.length lr.k,.int .u32 r.ses.last] (0,0) _ BR.out.at_ Tryz.underlying28 rfl rep_size1 ?_)
          | (refine wpList_store_row rfl _ _ _ rfl (w.heap.size + 1 + 1) #[.int .u8 r.rep,.int .u8 r.flt,.int .u32 r.epoch,.int .u32 r.seq,.slice A1 k.length d1,.slice A2 T.length d2,.bool r.ses.on,.int .u32 r.ses.num,.int .u8 r.ses.src,.int .u8 r.ses.cur,.int .u32 r.ses.epoch,.slice lr.c r.ses.offer.length lr.k,.int .u32 r.ses.last] rfl rfl 28 #[.int .u8 0,.int .u8 0,.int .u32 0,.int .u32 0,.slice none 0 0,.slice none 0 0,.bool false,.int .u32 0,.int .u8 0,.int .u8 0,.int .u32 0,.slice none 0 0,.int .u32 0] BO.out.at_ rep_size1 rfl (by simp [Value.oneCell']) ?_))
        refine bodyPost_ret (v := .agg #[.int .u8 r.rep,.int .u8 r.flt,.int .u32 r.epoch,.int .u32 r.seq,.slice A1 k.length d1,.slice A2 T.length d2,.bool r.ses.on,.int .u32 r.ses.num,.int .u8 r.ses.src,.int .u8 r.ses.cur,.int .u32 r.ses.epoch,.slice lr.c r.ses.offer.length lr.k,.int .u32 r.ses.last]) (results_cell_row Tryz.results69 _ _ (w.heap.size + 1 + 1) 28 #[.int .u8 r.rep,.int .u8 r.flt,.int .u32 r.epoch,.int .u32 r.seq,.slice A1 k.length d1,.slice A2 T.length d2,.bool r.ses.on,.int .u32 r.ses.num,.int .u8 r.ses.src,.int .u8 r.ses.cur,.int .u32 r.ses.epoch,.slice lr.c r.ses.offer.length lr.k,.int .u32 r.ses.last] (0,0) _ rfl (BO.out.row #[.int .u8 r.rep,.int .u8 r.flt,.int .u32 r.epoch,.int .u32 r.seq,.slice A1 k.length d1,.slice A2 T.length d2,.bool r.ses.on,.int .u32 r.ses.num,.int .u8 r.ses.src,.int .u8 r.ses.cur,.int .u32 r.ses.epoch,.slice lr.c r.ses.offer.length lr.k,.int .u32 r.ses.last]).at_ Tryz.underlying28 rfl rep_size1) rfl ?_
        have hlt := HLT.out
        have P2 := O2.out.setRowOther (h := w.heap.size + 1 + 1) (cs := #[.int .u8 r.rep,.int .u8 r.flt,.int .u32 r.epoch,.int .u32 r.seq,.slice A1 k.length d1,.slice A2 T.length d2,.bool r.ses.on,.int .u32 r.ses.num,.int .u8 r.ses.src,.int .u8 r.ses.cur,.int .u32 r.ses.epoch,.slice lr.c r.ses.offer.length lr.k,.int .u32 r.ses.last]) (by omega)
        have P3 := HV.out.sof.rowOff (g := w.heap.size + 1 + 1) (HPP.out.2.2.mono fun k hk => by omega) #[.int .u8 r.rep,.int .u8 r.flt,.int .u32 r.epoch,.int .u32 r.seq,.slice A1 k.length d1,.slice A2 T.length d2,.bool r.ses.on,.int .u32 r.ses.num,.int .u8 r.ses.src,.int .u8 r.ses.cur,.int .u32 r.ses.epoch,.slice lr.c r.ses.offer.length lr.k,.int .u32 r.ses.last]
        have P1 := O1.out.setRowOther (h := w.heap.size + 1 + 1) (cs := #[.int .u8 r.rep,.int .u8 r.flt,.int .u32 r.epoch,.int .u32 r.seq,.slice A1 k.length d1,.slice A2 T.length d2,.bool r.ses.on,.int .u32 r.ses.num,.int .u8 r.ses.src,.int .u8 r.ses.cur,.int .u32 r.ses.epoch,.slice lr.c r.ses.offer.length lr.k,.int .u32 r.ses.last]) (by omega)
        have hz : (w7.setRow (w.heap.size + 1 + 1) #[.int .u8 r.rep,.int .u8 r.flt,.int .u32 r.epoch,.int .u32 r.seq,.slice A1 k.length d1,.slice A2 T.length d2,.bool r.ses.on,.int .u32 r.ses.num,.int .u8 r.ses.src,.int .u8 r.ses.cur,.int .u32 r.ses.epoch,.slice lr.c r.ses.offer.length lr.k,.int .u32 r.ses.last]).heap.size = w7.heap.size := by simp [World.setRow]
        rw [← hz] at P3
        have P2s := P2.sl HTO.out
        have P1s := P1.sl HKO.out
        have P1a : Av (fun k => P k ∨ w.heap.size ≤ k) (.slice A1 k.length d1) k := P1.av.mono fun k hk => .inr (by omega)
        exact ⟨_,rfl,⟨_,_,_,rfl,P1s,P2s,P3,with_ok HOK.out P1s.isok HTO.out⟩,⟨_,_,_,rfl,P1a,P2.av.mono fun k hk => .inr (by omega),HAP.out.2.2.mono fun k hk => .inl hk⟩,below_setRow1 (B := w.heap.size) (r := w.heap.size + 1 + 1) HB.out (by omega) _⟩
      · clear c1
        have c4 := BR.out.cell 4 (.slice lr.a r.know.length lr.i) rfl
        have f4 := BR.out.free 4
        have x1 := BE.out.cell 1 (.int .u8 x.rep) rfl
        have x2 := BE.out.cell 2 (.int .u32 x.seq) rfl
        go_wp2_with fail
        refine (HA.out w2 HV.out.skn).mono ?_
        rintro e w5 ⟨v1,rfl,⟨o1,s1⟩,hb⟩
        have HKO := Lib.hid s1.isok
        obtain ⟨A1,d1,rfl,_⟩ := s1
        have hle : wf.heap.size ≤ w2.heap.size := HS.out
        have O1 := Lib.hid (o1.mono hle); clear o1
        have BR := Lib.hid (BR.out.keep hb)
        have BE := Lib.hid (BE.out.keep hb)
        have BO := Lib.hid (BO.out.keep hb)
        have HV := Lib.hid (HV.out.later hb)
        have O2 := Lib.hid (O2.out.below hb)
        have HB := Lib.hid (HB.out.trans (hb.mono HB.out.size)); clear hb c4 f4
        have c4 := BR.out.cell 4 (.slice lr.a r.know.length lr.i) rfl
        have f4 := BR.out.free 4
        go_upto_region 6 with (go_at_call 71; refine (tsureR_ok _ _).mono ?_; rintro e w6 ⟨rfl,hw⟩; rw [hw]; clear hw)
        have hoff := (Off.refl w.heap.size w5).set 4 (.slice A1 k.length d1)
        have BR := Lib.hid (show Blk (w5.setCell ⟨w.heap.size,4,none⟩ (.slice A1 k.length d1)) w.heap.size #[.int .u8 r.rep,.int .u8 r.flt,.int .u32 r.epoch,.int .u32 r.seq,.slice A1 k.length d1,.slice A2 T.length d2,.bool r.ses.on,.int .u32 r.ses.num,.int .u8 r.ses.src,.int .u8 r.ses.cur,.int .u32 r.ses.epoch,.slice lr.c r.ses.offer.length lr.k,.int .u32 r.ses.last] 28 from BR.out.put 4 (.slice A1 k.length d1))
        have BO := Lib.hid (BO.out.off hoff (by omega))
        have HV := Lib.hid (HV.out.off hoff (HPW.out.mono fun k hk => by omega))
        have O2 := Lib.hid (O2.out.setOther (h := w.heap.size) (j := 4) (u := .slice A1 k.length d1) (by have := HLT.out; omega))
        have O1 := Lib.hid (O1.out.setOther (h := w.heap.size) (j := 4) (u := .slice A1 k.length d1) (by have := HLT.out; omega))
        have HB := Lib.hid (below_off HB.out hoff (Nat.le_refl _))
        have hz := hoff.size
        rw [← hz] at HV
        clear hoff hz c4 f4 x1 x2
        generalize w5.setCell ⟨w.heap.size,4,none⟩ (.slice A1 k.length d1) = w7 at BR BO HV O2 O1 HB ⊢
        go_wp2_with (first
          | (refine wpList_load_row rfl _ _ rfl w.heap.size rfl 28 #[.int .u8 r.rep,.int .u8 r.flt,.int .u32 r.epoch,.int .u32 r.seq,.slice A1 k.length d1,.slice A2 T.length d2,.bool r.ses.on,.int .u32 r.ses.num,.int .u8 r.ses.src,.int .u8 r.ses.cur,.int .u32 r.ses.epoch,.slice lr.c r.ses.offer.length lr.k,.int .u32 r.ses.last] (0,0) _ BR.out.at_ Tryz.underlying28 rfl rep_size1 ?_)
          | (refine wpList_store_row rfl _ _ _ rfl (w.heap.size + 1 + 1) #[.int .u8 r.rep,.int .u8 r.flt,.int .u32 r.epoch,.int .u32 r.seq,.slice A1 k.length d1,.slice A2 T.length d2,.bool r.ses.on,.int .u32 r.ses.num,.int .u8 r.ses.src,.int .u8 r.ses.cur,.int .u32 r.ses.epoch,.slice lr.c r.ses.offer.length lr.k,.int .u32 r.ses.last] rfl rfl 28 #[.int .u8 0,.int .u8 0,.int .u32 0,.int .u32 0,.slice none 0 0,.slice none 0 0,.bool false,.int .u32 0,.int .u8 0,.int .u8 0,.int .u32 0,.slice none 0 0,.int .u32 0] BO.out.at_ rep_size1 rfl (by simp [Value.oneCell']) ?_))
        refine bodyPost_ret (v := .agg #[.int .u8 r.rep,.int .u8 r.flt,.int .u32 r.epoch,.int .u32 r.seq,.slice A1 k.length d1,.slice A2 T.length d2,.bool r.ses.on,.int .u32 r.ses.num,.int .u8 r.ses.src,.int .u8 r.ses.cur,.int .u32 r.ses.epoch,.slice lr.c r.ses.offer.length lr.k,.int .u32 r.ses.last]) (results_cell_row Tryz.results69 _ _ (w.heap.size + 1 + 1) 28 #[.int .u8 r.rep,.int .u8 r.flt,.int .u32 r.epoch,.int .u32 r.seq,.slice A1 k.length d1,.slice A2 T.length d2,.bool r.ses.on,.int .u32 r.ses.num,.int .u8 r.ses.src,.int .u8 r.ses.cur,.int .u32 r.ses.epoch,.slice lr.c r.ses.offer.length lr.k,.int .u32 r.ses.last] (0,0) _ rfl (BO.out.row #[.int .u8 r.rep,.int .u8 r.flt,.int .u32 r.epoch,.int .u32 r.seq,.slice A1 k.length d1,.slice A2 T.length d2,.bool r.ses.on,.int .u32 r.ses.num,.int .u8 r.ses.src,.int .u8 r.ses.cur,.int .u32 r.ses.epoch,.slice lr.c r.ses.offer.length lr.k,.int .u32 r.ses.last]).at_ Tryz.underlying28 rfl rep_size1) rfl ?_
        have hlt := HLT.out
        have P2 := O2.out.setRowOther (h := w.heap.size + 1 + 1) (cs := #[.int .u8 r.rep,.int .u8 r.flt,.int .u32 r.epoch,.int .u32 r.seq,.slice A1 k.length d1,.slice A2 T.length d2,.bool r.ses.on,.int .u32 r.ses.num,.int .u8 r.ses.src,.int .u8 r.ses.cur,.int .u32 r.ses.epoch,.slice lr.c r.ses.offer.length lr.k,.int .u32 r.ses.last]) (by omega)
        have P3 := HV.out.sof.rowOff (g := w.heap.size + 1 + 1) (HPP.out.2.2.mono fun k hk => by omega) #[.int .u8 r.rep,.int .u8 r.flt,.int .u32 r.epoch,.int .u32 r.seq,.slice A1 k.length d1,.slice A2 T.length d2,.bool r.ses.on,.int .u32 r.ses.num,.int .u8 r.ses.src,.int .u8 r.ses.cur,.int .u32 r.ses.epoch,.slice lr.c r.ses.offer.length lr.k,.int .u32 r.ses.last]
        have P1 := O1.out.setRowOther (h := w.heap.size + 1 + 1) (cs := #[.int .u8 r.rep,.int .u8 r.flt,.int .u32 r.epoch,.int .u32 r.seq,.slice A1 k.length d1,.slice A2 T.length d2,.bool r.ses.on,.int .u32 r.ses.num,.int .u8 r.ses.src,.int .u8 r.ses.cur,.int .u32 r.ses.epoch,.slice lr.c r.ses.offer.length lr.k,.int .u32 r.ses.last]) (by omega)
        have hz : (w7.setRow (w.heap.size + 1 + 1) #[.int .u8 r.rep,.int .u8 r.flt,.int .u32 r.epoch,.int .u32 r.seq,.slice A1 k.length d1,.slice A2 T.length d2,.bool r.ses.on,.int .u32 r.ses.num,.int .u8 r.ses.src,.int .u8 r.ses.cur,.int .u32 r.ses.epoch,.slice lr.c r.ses.offer.length lr.k,.int .u32 r.ses.last]).heap.size = w7.heap.size := by simp [World.setRow]
        rw [← hz] at P3
        have P2s := P2.sl HTO.out
        have P1s := P1.sl HKO.out
        have P1a : Av (fun k => P k ∨ w.heap.size ≤ k) (.slice A1 k.length d1) k := P1.av.mono fun k hk => .inr (by omega)
        exact ⟨_,rfl,⟨_,_,_,rfl,P1s,P2s,P3,with_ok HOK.out P1s.isok HTO.out⟩,⟨_,_,_,rfl,P1a,P2.av.mono fun k hk => .inr (by omega),HAP.out.2.2.mono fun k hk => .inl hk⟩,below_setRow1 (B := w.heap.size) (r := w.heap.size + 1 + 1) HB.out (by omega) _⟩

set_option maxHeartbeats 8000000 in
set_option maxRecDepth 100000 in
theorem tbehindEntry_any (P : Nat → Prop) (r : Rp) (lr : Ls) (e : En) (w : World) (hv : RpV w w.heap.size (.agg (repR r lr)) r) (ha : RpAv P (.agg (repR r lr)) r) (hx : e.ok) (hxr : reB e = true) (hh : erightB r.held = true) (hl : r.held.length ≤ 8000) :
    Calls Tryz.prog 69 #[.agg (repR r lr),e.agg] w (RepMore P w (entR r e)) := by
  rw [ent_fit]
  have HP := Lib.hid hv.av
  have HI := Lib.hid (fun w1 => iIn_any e r.flt w1 hx hv.isok.2.1)
  have HFD := Lib.hid (fun w1 => iFade_any e w1)
  have HF := Lib.hid (show fitE r.flt e = if inB e r.flt = true then e else fadeE e from rfl)
  have HV := Lib.hid hv
  have HA := Lib.hid ha
  have HX := Lib.hid (And.intro hx hxr)
  have HFX := Lib.hid (And.intro (fade_ok hx) (fade_re hxr))
  have HH := Lib.hid (And.intro hh hl)
  clear hv ha hx hxr hh hl
  generalize fitE r.flt e = x at HF ⊢
  generalize inB e r.flt = q at HI HF
  unfold En.agg at HI HFD ⊢
  unfold repR repRow Rp.cells
  refine calls_of_wp Tryz.func69 (be_cut rfl) ?_
  simp only [Tryz.ntmps69,List.size_toArray,List.length_cons,List.length_nil,Nat.reduceAdd,Nat.reduceSub,Array.replicate_succ,Array.replicate_zero,List.push_toArray,List.append_toArray,List.nil_append,List.cons_append]
  go_wp2_with fail
  have HB := Lib.hid (al3 w (.cells #[.int .u8 r.rep,.int .u8 r.flt,.int .u32 r.epoch,.int .u32 r.seq,.slice lr.a r.know.length lr.i,.slice lr.b r.held.length lr.j,.bool r.ses.on,.int .u32 r.ses.num,.int .u8 r.ses.src,.int .u8 r.ses.cur,.int .u32 r.ses.epoch,.slice lr.c r.ses.offer.length lr.k,.int .u32 r.ses.last] 28) (.cells #[.int .u8 e.id,.int .u8 e.rep,.int .u32 e.seq,.int .u32 e.stamp,.int .i64 e.kind,.int .u8 e.cls,.int .u32 e.val] 62) (.cells #[.int .u8 0,.int .u8 0,.int .u32 0,.int .u32 0,.slice none 0 0,.slice none 0 0,.bool false,.int .u32 0,.int .u8 0,.int .u8 0,.int .u32 0,.slice none 0 0,.int .u32 0] 28))
  have B3 := Lib.hid (blk_three w #[.int .u8 r.rep,.int .u8 r.flt,.int .u32 r.epoch,.int .u32 r.seq,.slice lr.a r.know.length lr.i,.slice lr.b r.held.length lr.j,.bool r.ses.on,.int .u32 r.ses.num,.int .u8 r.ses.src,.int .u8 r.ses.cur,.int .u32 r.ses.epoch,.slice lr.c r.ses.offer.length lr.k,.int .u32 r.ses.last] 28 #[.int .u8 e.id,.int .u8 e.rep,.int .u32 e.seq,.int .u32 e.stamp,.int .i64 e.kind,.int .u8 e.cls,.int .u32 e.val] 62 #[.int .u8 0,.int .u8 0,.int .u32 0,.int .u32 0,.slice none 0 0,.slice none 0 0,.bool false,.int .u32 0,.int .u8 0,.int .u8 0,.int .u32 0,.slice none 0 0,.int .u32 0] 28)
  generalize ((w.alloc (.cells #[.int .u8 r.rep,.int .u8 r.flt,.int .u32 r.epoch,.int .u32 r.seq,.slice lr.a r.know.length lr.i,.slice lr.b r.held.length lr.j,.bool r.ses.on,.int .u32 r.ses.num,.int .u8 r.ses.src,.int .u8 r.ses.cur,.int .u32 r.ses.epoch,.slice lr.c r.ses.offer.length lr.k,.int .u32 r.ses.last] 28)).alloc (.cells #[.int .u8 e.id,.int .u8 e.rep,.int .u32 e.seq,.int .u32 e.stamp,.int .i64 e.kind,.int .u8 e.cls,.int .u32 e.val] 62)).alloc (.cells #[.int .u8 0,.int .u8 0,.int .u32 0,.int .u32 0,.slice none 0 0,.slice none 0 0,.bool false,.int .u32 0,.int .u8 0,.int .u8 0,.int .u32 0,.slice none 0 0,.int .u32 0] 28) = W0 at HB B3 ⊢
  refine (HI.out W0).mono ?_
  rintro e' w1 ⟨rfl,hb⟩
  have BR := Lib.hid (B3.out.1.keep hb)
  have BE := Lib.hid (B3.out.2.1.keep hb)
  have BO := Lib.hid (B3.out.2.2.keep hb)
  have HB := Lib.hid (HB.out.trans (hb.mono HB.out.size)); clear hb B3
  cases q
  · have hF := HF.out
    rw [if_neg (by simp)] at hF
    subst hF
    have e0 := BE.out.cell 0 (.int .u8 e.id) rfl
    have e1 := BE.out.cell 1 (.int .u8 e.rep) rfl
    have e2 := BE.out.cell 2 (.int .u32 e.seq) rfl
    have e3 := BE.out.cell 3 (.int .u32 e.stamp) rfl
    have e4 := BE.out.cell 4 (.int .i64 e.kind) rfl
    have e5 := BE.out.cell 5 (.int .u8 e.cls) rfl
    have e6 := BE.out.cell 6 (.int .u32 e.val) rfl
    go_wp2_with fail
    refine (HFD.out w1).mono ?_
    rintro e' w2 ⟨rfl,hb⟩
    have BR := Lib.hid (BR.out.keep hb)
    have BE := Lib.hid (BE.out.keep hb)
    have BO := Lib.hid (BO.out.keep hb)
    have HB := Lib.hid (HB.out.trans (hb.mono HB.out.size)); clear hb e0 e1 e2 e3 e4 e5 e6
    go_wp2_with (refine wpList_store_row rfl _ _ _ rfl (w.heap.size + 1) #[.int .u8 (fadeE e).id,.int .u8 (fadeE e).rep,.int .u32 (fadeE e).seq,.int .u32 (fadeE e).stamp,.int .i64 (fadeE e).kind,.int .u8 (fadeE e).cls,.int .u32 (fadeE e).val] rfl rfl 62 #[.int .u8 e.id,.int .u8 e.rep,.int .u32 e.seq,.int .u32 e.stamp,.int .i64 e.kind,.int .u8 e.cls,.int .u32 e.val] BE.out.at_ be_size rfl (by simp [Value.oneCell']) ?_)
    have hv := (HV.out.later HB.out).rowOff (g := w.heap.size + 1) (HP.out.mono fun k hk => by omega) #[.int .u8 (fadeE e).id,.int .u8 (fadeE e).rep,.int .u32 (fadeE e).seq,.int .u32 (fadeE e).stamp,.int .i64 (fadeE e).kind,.int .u8 (fadeE e).cls,.int .u32 (fadeE e).val]
    have hz : (w2.setRow (w.heap.size + 1) #[.int .u8 (fadeE e).id,.int .u8 (fadeE e).rep,.int .u32 (fadeE e).seq,.int .u32 (fadeE e).stamp,.int .i64 (fadeE e).kind,.int .u8 (fadeE e).cls,.int .u32 (fadeE e).val]).heap.size = w2.heap.size := by simp [World.setRow]
    rw [← hz] at hv
    exact be_rest P (BR.out.other (k := w.heap.size + 1) (by omega) #[.int .u8 (fadeE e).id,.int .u8 (fadeE e).rep,.int .u32 (fadeE e).seq,.int .u32 (fadeE e).stamp,.int .i64 (fadeE e).kind,.int .u8 (fadeE e).cls,.int .u32 (fadeE e).val]) (BE.out.row #[.int .u8 (fadeE e).id,.int .u8 (fadeE e).rep,.int .u32 (fadeE e).seq,.int .u32 (fadeE e).stamp,.int .i64 (fadeE e).kind,.int .u8 (fadeE e).cls,.int .u32 (fadeE e).val]) (BO.out.other (k := w.heap.size + 1) (by omega) #[.int .u8 (fadeE e).id,.int .u8 (fadeE e).rep,.int .u32 (fadeE e).seq,.int .u32 (fadeE e).stamp,.int .i64 (fadeE e).kind,.int .u8 (fadeE e).cls,.int .u32 (fadeE e).val]) hv HA.out HP.out (below_setRow1 (B := w.heap.size) (r := w.heap.size + 1) HB.out (by omega) #[.int .u8 (fadeE e).id,.int .u8 (fadeE e).rep,.int .u32 (fadeE e).seq,.int .u32 (fadeE e).stamp,.int .i64 (fadeE e).kind,.int .u8 (fadeE e).cls,.int .u32 (fadeE e).val]) HFX.out.1 HFX.out.2 HH.out.1 HH.out.2
  · have hF := HF.out
    rw [if_pos rfl] at hF
    subst hF
    go_wp2_with fail
    exact be_rest P BR.out BE.out BO.out (HV.out.later HB.out) HA.out HP.out HB.out HX.out.1 HX.out.2 HH.out.1 HH.out.2
end Go.Proofs.YtfjaeohfigcciabGreatDoor

namespace Go.Proofs.YtfjaeohfigcciabGreatDoor
open Go.RowKit

def bEnd (n : Nt) (s : Rp) : Except Int Rp := if n.done = true then (match unionR s.know s.ses.offer with | .ok k => .ok (offP (knowP s k)) | .error c => .error c) else .ok (moveP s n.next)
theorem tail4 {f : Func} {a0 a1 a2 a3 c : Code} (h : f.body = some (.seq a0 (.seq a1 (.seq a2 (.seq a3 c))))) : tailN 4 (f.body.getD .skip) = c := by rw [h]; rfl
noncomputable def bRest2 : Code := tailN 2 (Tryz.f32.body.getD .skip)
noncomputable def bRest3 : Code := tailN 3 (Tryz.f32.body.getD .skip)
noncomputable def bRest4 : Code := tailN 4 (Tryz.f32.body.getD .skip)
def fstN : Nat → Code → Code
  | 0,.seq a _ => a
  | n + 1,.seq _ b => fstN n b
  | _,c => c
theorem fst3 {f : Func} {a0 a1 a2 a3 c : Code} (h : f.body = some (.seq a0 (.seq a1 (.seq a2 (.seq a3 c))))) : fstN 3 (f.body.getD .skip) = a3 := by rw [h]; rfl
theorem fst2 {f : Func} {a0 a1 a2 c : Code} (h : f.body = some (.seq a0 (.seq a1 (.seq a2 c)))) : fstN 2 (f.body.getD .skip) = a2 := by rw [h]; rfl
noncomputable def bFst3 : Code := fstN 3 (Tryz.f32.body.getD .skip)
noncomputable def bFst2 : Code := fstN 2 (Tryz.f32.body.getD .skip)
theorem cut4_of {f : Func} {a0 a1 a2 a3 c : Code} (h : f.body = some (.seq a0 (.seq a1 (.seq a2 (.seq a3 c))))) : tailN 3 (f.body.getD .skip) = .seq (fstN 3 (f.body.getD .skip)) (tailN 4 (f.body.getD .skip)) := by rw [h]; rfl
theorem cut3_of {f : Func} {a0 a1 a2 c : Code} (h : f.body = some (.seq a0 (.seq a1 (.seq a2 c)))) : tailN 2 (f.body.getD .skip) = .seq (fstN 2 (f.body.getD .skip)) (tailN 3 (f.body.getD .skip)) := by rw [h]; rfl
theorem b_cut4 : bRest3 = .seq bFst3 bRest4 := cut4_of (f := Tryz.f32) rfl
theorem b_cut3 : bRest2 = .seq bFst2 bRest3 := cut3_of (f := Tryz.f32) rfl
theorem move_ok {r : Rp} (h : r.ok) {c : Int} (hc : 0 ≤ c ∧ c ≤ 255) : (moveP r c).ok := by
  obtain ⟨a1,a2,a3,a4,a5,a6,b1,b2,b3,b4,b5,b6⟩ := h
  exact ⟨a1,a2,a3,a4,a5,a6,b1,b2,hc,b4,b5,b6⟩
theorem know_ok {r : Rp} (h : r.ok) {k : List Rn} (hk : ∀ x ∈ k,x.ok) : (knowP r k).ok := by
  obtain ⟨a1,a2,a3,a4,_,a6,a7⟩ := h
  exact ⟨a1,a2,a3,a4,hk,a6,a7⟩

set_option maxHeartbeats 16000000 in
set_option maxRecDepth 100000 in
theorem b_end4 {w wf : World} {n : Nt} {ln : Ls} {x : Rp} {lx : Ls} {gA : Nat} (hbn : Blk wf (w.heap.size + 1) (noteR n ln) 30) (hbo : Blk wf (w.heap.size + 1 + 1) #[.int .u8 0,.int .u8 0,.int .u32 0,.int .u32 0,.slice none 0 0,.slice none 0 0,.bool false,.int .u32 0,.int .u8 0,.int .u8 0,.int .u32 0,.slice none 0 0,.int .u32 0] 28) (hba : Blk wf gA (repR x lx) 28) (hv : RpV wf wf.heap.size (.agg (repR x lx)) x)
    (ha : RpAv (fun k => k ≠ gA ∧ w.heap.size + 1 + 1 < k) (.agg (repR x lx)) x) (hb : Below w.heap.size w wf) (hlg : w.heap.size + 1 + 1 < gA) (hNX : 0 ≤ n.next ∧ n.next ≤ 255) {u0 u1 u2 u6 u7 u8 u9 u10 u11 u12 u13 u14 u15 u16 u17 u18 u19 u20 u21 u22 u23 u24 u25 u26 u27 u28 u29 u30 u31 u32 u33 u34 u35 u36 u37 u38 u39 u40 u41 u42 u43 u44 u45 u46 u47 u48 u49 u50 u51 u52 u53 u54 u55 u56 : Value} :
    bRest4.wp Tryz.prog (bodyPost Tryz.prog Tryz.f32 (RepSure w (bEnd n x))) { tmps := #[u0,u1,u2,.pointer (some ⟨w.heap.size + 1,0,none⟩),.pointer (some ⟨w.heap.size + 1 + 1,0,none⟩),.pointer (some ⟨gA,0,none⟩),u6,u7,u8,u9,u10,u11,u12,u13,u14,u15,u16,u17,u18,u19,u20,u21,u22,u23,u24,u25,u26,u27,u28,u29,u30,u31,u32,u33,u34,u35,u36,u37,u38,u39,u40,u41,u42,u43,u44,u45,u46,u47,u48,u49,u50,u51,u52,u53,u54,u55,u56],defers := [] } wf := by
  have HV := Lib.hid hv
  have HA := Lib.hid ha
  have HAL := Lib.hid ha.lists
  have BN := Lib.hid hbn
  have BO := Lib.hid hbo
  have BA := Lib.hid hba
  have HB := Lib.hid hb
  have HOK := Lib.hid hv.isok
  have hE := Lib.hid (show bEnd n x = if n.done = true then (match unionR x.know x.ses.offer with | .ok k => .ok (offP (knowP x k)) | .error c => .error c) else .ok (moveP x n.next) from rfl)
  have HNX := Lib.hid hNX
  generalize bEnd n x = R at hE ⊢
  have d10 := hbn.cell 10 (.bool n.done) rfl
  have d9 := hbn.cell 9 (.int .u8 n.next) rfl
  have hlt := hba.lt
  have HLT := Lib.hid hlt
  clear hv ha hbn hbo hba hb hlt hNX
  have n1 : gA ≠ w.heap.size + 1 := by omega
  obtain ⟨q,hq⟩ : ∃ q,n.done = q := ⟨_,rfl⟩
  rw [hq] at hE d10
  have HQ := Lib.hid hq; clear hq
  cases q
  · have hr := hE.out
    rw [if_neg (by simp)] at hr
    subst hr
    unfold bRest4
    rw [tail4 (f := Tryz.f32) rfl]
    have a9 := BA.out.cell 9 (.int .u8 x.ses.cur) rfl
    have f9 := BA.out.free 9
    go_upto_region 11 with fail
    have hoff := (Off.refl gA wf).set 9 (.int .u8 n.next)
    have BA := Lib.hid (show Blk (wf.setCell ⟨gA,9,none⟩ (.int .u8 n.next)) gA (repR (moveP x n.next) lx) 28 from BA.out.put 9 (.int .u8 n.next))
    have BO := Lib.hid (BO.out.off hoff (by omega))
    have HV := Lib.hid (HV.out.off hoff (HA.out.mono fun k hk => hk.1))
    have HB := Lib.hid (below_off HB.out hoff (by omega))
    have hz := hoff.size
    rw [← hz] at HV
    clear hoff hz a9 f9 d9 d10 n1
    generalize wf.setCell ⟨gA,9,none⟩ (.int .u8 n.next) = w1 at BA BO HV HB ⊢
    have hi := rep_row_size (moveP x n.next) lx
    have h1 := rep_row_one (moveP x n.next) lx
    have HM := Lib.hid (show RpV w1 w1.heap.size (.agg (repR (moveP x n.next) lx)) (moveP x n.next) from ⟨_,_,_,rfl,HV.out.skn,HV.out.she,HV.out.sof,move_ok HOK.out HNX.out⟩)
    have HMA := Lib.hid (show RpAv (fun k => k ≠ gA ∧ w.heap.size + 1 + 1 < k) (.agg (repR (moveP x n.next) lx)) (moveP x n.next) from ⟨_,_,_,rfl,HAL.out.1,HAL.out.2.1,HAL.out.2.2⟩)
    have hs : (repR (moveP x n.next) lx).size = 13 := rfl
    generalize repR (moveP x n.next) lx = cx at BA hi h1 hs HM HMA ⊢
    go_wp2_with (first
      | (refine wpList_load_row rfl _ _ rfl gA rfl 28 cx (0,0) _ BA.out.at_ Tryz.underlying28 rfl hi ?_)
      | (refine wpList_store_row rfl _ _ _ rfl (w.heap.size + 1 + 1) cx rfl rfl 28 #[.int .u8 0,.int .u8 0,.int .u32 0,.int .u32 0,.slice none 0 0,.slice none 0 0,.bool false,.int .u32 0,.int .u8 0,.int .u8 0,.int .u32 0,.slice none 0 0,.int .u32 0] BO.out.at_ hi (by rw [hs]; rfl) h1 ?_))
    refine bodyPost_ret (v := .agg cx) (results_cell_row Tryz.results32 _ _ (w.heap.size + 1 + 1) 28 cx (0,0) _ rfl (BO.out.row cx).at_ Tryz.underlying28 rfl hi) rfl ?_
    have P := HM.out.rowOff (g := w.heap.size + 1 + 1) (HMA.out.mono fun k hk => by omega) cx
    have hz : (w1.setRow (w.heap.size + 1 + 1) cx).heap.size = w1.heap.size := by simp [World.setRow]
    rw [← hz] at P
    exact ⟨_,rfl,P,HMA.out.mono fun k hk => by omega,below_setRow1 (B := w.heap.size) (r := w.heap.size + 1 + 1) HB.out (by omega) _⟩
  · have hr := hE.out
    rw [if_pos rfl] at hr
    have HU := Lib.hid (fun w1 (hv : RpV w1 w1.heap.size (.agg (repR x lx)) x) => Union_anyO (.slice lx.a x.know.length lx.i) (.slice lx.c x.ses.offer.length lx.k) x.know x.ses.offer w1 hv.skn hv.sof)
    generalize unionR x.know x.ses.offer = D at hr HU
    cases D with
    | error c =>
      have hr : R = .error c := hr
      subst hr
      unfold bRest4
      rw [tail4 (f := Tryz.f32) rfl]
      have a4 := BA.out.cell 4 (.slice lx.a x.know.length lx.i) rfl
      have a11 := BA.out.cell 11 (.slice lx.c x.ses.offer.length lx.k) rfl
      go_wp2_with fail
      refine (HU.out wf HV.out).mono ?_
      rintro e w1 ⟨rfl,hb⟩
      have HB := Lib.hid (HB.out.trans (hb.mono HB.out.size)); clear hb
      go_wp2_with fail
      refine (tsureR_bad _ _ _ _).mono ?_
      rintro e w6 ⟨rfl,hw⟩
      exact ⟨rfl,rfl,hw ▸ HB.out⟩
    | ok k =>
      have hr : R = .ok (offP (knowP x k)) := hr
      subst hr
      unfold bRest4
      rw [tail4 (f := Tryz.f32) rfl]
      have a4 := BA.out.cell 4 (.slice lx.a x.know.length lx.i) rfl
      have a11 := BA.out.cell 11 (.slice lx.c x.ses.offer.length lx.k) rfl
      go_wp2_with fail
      refine (HU.out wf HV.out).mono ?_
      rintro e w1 ⟨v1,rfl,⟨o1,s1⟩,hb⟩
      have HKO := Lib.hid s1.isok
      obtain ⟨A1,d1,rfl,_⟩ := s1
      have O1 := Lib.hid o1; clear o1 a4 a11
      have BO := Lib.hid (BO.out.keep hb)
      have BA := Lib.hid (BA.out.keep hb)
      have HV := Lib.hid (HV.out.later hb)
      have HB := Lib.hid (HB.out.trans (hb.mono HB.out.size)); clear hb
      have a4 := BA.out.cell 4 (.slice lx.a x.know.length lx.i) rfl
      have f4 := BA.out.free 4
      go_upto_region 13 with (go_at_call 71; refine (tsureR_ok _ _).mono ?_; rintro e w6 ⟨rfl,hw⟩; rw [hw]; clear hw)
      have hoff := (Off.refl gA w1).set 4 (.slice A1 k.length d1)
      have BA := Lib.hid (show Blk (w1.setCell ⟨gA,4,none⟩ (.slice A1 k.length d1)) gA (repR (knowP x k) ⟨A1,lx.b,lx.c,d1,lx.j,lx.k⟩) 28 from BA.out.put 4 (.slice A1 k.length d1))
      have BO := Lib.hid (BO.out.off hoff (by omega))
      have HV := Lib.hid (HV.out.off hoff (HA.out.mono fun k hk => hk.1))
      have O1 := Lib.hid (O1.out.setOther (h := gA) (j := 4) (u := .slice A1 k.length d1) HLT.out)
      have HB := Lib.hid (below_off HB.out hoff (by omega))
      have hz := hoff.size
      rw [← hz] at HV
      clear hoff hz a4 f4 d9 d10 n1
      generalize w1.setCell ⟨gA,4,none⟩ (.slice A1 k.length d1) = w2 at BA BO HV HB O1 ⊢
      have hi := rep_row_size (knowP x k) ⟨A1,lx.b,lx.c,d1,lx.j,lx.k⟩
      have HM := Lib.hid (show RpV w2 w2.heap.size (.agg (repR (knowP x k) ⟨A1,lx.b,lx.c,d1,lx.j,lx.k⟩)) (knowP x k) from ⟨.slice A1 k.length d1,.slice lx.b x.held.length lx.j,.slice lx.c x.ses.offer.length lx.k,rfl,O1.out.sl HKO.out,HV.out.she,HV.out.sof,know_ok HOK.out HKO.out⟩)
      have HMA := Lib.hid (show RpAv (fun k => w.heap.size + 1 + 1 < k) (.agg (repR (knowP x k) ⟨A1,lx.b,lx.c,d1,lx.j,lx.k⟩)) (knowP x k) from ⟨.slice A1 k.length d1,.slice lx.b x.held.length lx.j,.slice lx.c x.ses.offer.length lx.k,rfl,O1.out.av.mono fun j hj => (by have := HLT.out; omega),HAL.out.2.1.mono fun j hj => hj.2,HAL.out.2.2.mono fun j hj => hj.2⟩)
      generalize repR (knowP x k) ⟨A1,lx.b,lx.c,d1,lx.j,lx.k⟩ = cx at BA hi HM HMA ⊢
      go_wp2_with (refine wpList_load_row rfl _ _ rfl gA rfl 28 cx (0,0) _ BA.out.at_ Tryz.underlying28 rfl hi ?_)
      refine (tidle_any _ _ (knowP x k) w2 HM.out HMA.out).mono ?_
      rintro e w3 ⟨v3,rfl,hv3,ha3,hb⟩
      obtain ⟨c3,rfl,hs,h1⟩ := hv3.row
      have hi3 : (Tryz.prog.info? 28).map (·.size) = some c3.size := by rw [hs]; exact rep_size1
      have BO := Lib.hid (BO.out.keep hb)
      have HB := Lib.hid (HB.out.trans (hb.mono HB.out.size)); clear hb
      have HM := Lib.hid (hv3.rowOff (g := w.heap.size + 1 + 1) (ha3.mono fun k hk => by omega) c3)
      have hz : (w3.setRow (w.heap.size + 1 + 1) c3).heap.size = w3.heap.size := by simp [World.setRow]
      rw [← hz] at HM
      clear hz
      go_wp2_with (refine wpList_store_row rfl _ _ _ rfl (w.heap.size + 1 + 1) c3 rfl rfl 28 #[.int .u8 0,.int .u8 0,.int .u32 0,.int .u32 0,.slice none 0 0,.slice none 0 0,.bool false,.int .u32 0,.int .u8 0,.int .u8 0,.int .u32 0,.slice none 0 0,.int .u32 0] BO.out.at_ hi3 (by rw [hs]; rfl) h1 ?_)
      refine bodyPost_ret (v := .agg c3) (results_cell_row Tryz.results32 _ _ (w.heap.size + 1 + 1) 28 c3 (0,0) _ rfl (BO.out.row c3).at_ Tryz.underlying28 rfl hi3) rfl ?_
      exact ⟨_,rfl,HM.out,ha3.mono fun k hk => by omega,below_setRow1 (B := w.heap.size) (r := w.heap.size + 1 + 1) HB.out (by omega) _⟩

set_option maxHeartbeats 16000000 in
set_option maxRecDepth 100000 in
theorem b_end3 {w wf : World} {r : Rp} {n : Nt} {ln : Ls} {x : Rp} {lx : Ls} {gA : Nat} {K : List Rn} {H : List En} (hx : x = withK r K H) (hbn : Blk wf (w.heap.size + 1) (noteR n ln) 30) (hbo : Blk wf (w.heap.size + 1 + 1) #[.int .u8 0,.int .u8 0,.int .u32 0,.int .u32 0,.slice none 0 0,.slice none 0 0,.bool false,.int .u32 0,.int .u8 0,.int .u8 0,.int .u32 0,.slice none 0 0,.int .u32 0] 28) (hba : Blk wf gA (repR x lx) 28) (hv : RpV wf wf.heap.size (.agg (repR x lx)) x)
    (ha : RpAv (fun k => k ≠ gA ∧ w.heap.size + 1 + 1 < k) (.agg (repR x lx)) x) (hb : Below w.heap.size w wf) (hlg : w.heap.size + 1 + 1 < gA) (hNX : 0 ≤ n.next ∧ n.next ≤ 255) (hu : NtV wf wf.heap.size (.agg (noteR n ln)) n) (hua : NtAv (fun k => k < w.heap.size) (.agg (noteR n ln)) n) (hg3 : n.offer.length ≤ 10000) {u0 u1 u2 u6 u7 u8 u9 u10 u11 u12 u13 u14 u15 u16 u17 u18 u19 u20 u21 u22 u23 u24 u25 u26 u27 u28 u29 u30 u31 u32 u33 u34 u35 u36 u37 u38 u39 u40 u41 u42 u43 u44 u45 u46 u47 u48 u49 u50 u51 u52 u53 u54 u55 u56 : Value} :
    bRest3.wp Tryz.prog (bodyPost Tryz.prog Tryz.f32 (RepSure w (bEnd n (afterP r n K H)))) { tmps := #[u0,u1,u2,.pointer (some ⟨w.heap.size + 1,0,none⟩),.pointer (some ⟨w.heap.size + 1 + 1,0,none⟩),.pointer (some ⟨gA,0,none⟩),u6,u7,u8,u9,u10,u11,u12,u13,u14,u15,u16,u17,u18,u19,u20,u21,u22,u23,u24,u25,u26,u27,u28,u29,u30,u31,u32,u33,u34,u35,u36,u37,u38,u39,u40,u41,u42,u43,u44,u45,u46,u47,u48,u49,u50,u51,u52,u53,u54,u55,u56],defers := [] } wf := by
  have hm : Tryz.prog.follows .mixedOrders = true := by kernel_rfl
  have HM := Lib.hid hm; clear hm
  have HV := Lib.hid hv
  have HA := Lib.hid ha
  have HAL := Lib.hid ha.lists
  have BN := Lib.hid hbn
  have BO := Lib.hid hbo
  have BA := Lib.hid hba
  have HB := Lib.hid hb
  have HU := Lib.hid hu
  have HUA := Lib.hid hua
  have HNX := Lib.hid hNX
  have HX := Lib.hid hx
  have HC3 := Lib.hid (fun w1 (h : NtV w1 w1.heap.size (.agg (noteR n ln)) n) => rClone_any (.slice ln.c n.offer.length ln.k) n.offer w1 h.sof hg3)
  have d4 := hbn.cell 4 (.int .u8 n.cur) rfl
  clear hv ha hbn hbo hba hb hu hua hg3 hx hNX
  have e3 : bRest3 = .seq (bFst3) bRest4 := b_cut4
  have n1 : gA ≠ w.heap.size + 1 := by omega
  obtain ⟨q,hq⟩ : ∃ q : Bool,(n.cur == 0) = q := ⟨_,rfl⟩
  have HQ := Lib.hid hq
  rw [e3]
  clear e3
  cases q
  · have hA : afterP r n K H = x := by
      have := HQ.out
      have hc : ¬ n.cur = 0 := by simpa using this
      rw [HX.out]
      unfold afterP withK
      rw [if_neg hc,if_neg hc]
    rw [hA]
    unfold bFst3
    rw [fst3 (f := Tryz.f32) rfl]
    go_wp2_with fail
    exact b_end4 BN.out BO.out BA.out HV.out HA.out HB.out hlg HNX.out
  · have hc : n.cur = 0 := by have := HQ.out; simpa using this
    have hA : afterP r n K H = ⟨x.rep,x.flt,x.epoch,x.seq,x.know,x.held,⟨x.ses.on,x.ses.num,x.ses.src,x.ses.cur,n.epoch,n.offer,x.ses.last⟩⟩ := by
      rw [HX.out]
      unfold afterP withK
      rw [if_pos hc,if_pos hc]
    have hyok : (⟨x.rep,x.flt,x.epoch,x.seq,x.know,x.held,⟨x.ses.on,x.ses.num,x.ses.src,x.ses.cur,n.epoch,n.offer,x.ses.last⟩⟩ : Rp).ok := by
      obtain ⟨p1,p2,p3,p4,p5,p6,s1,s2,s3,s4,s5,s6⟩ := HV.out.isok
      exact ⟨p1,p2,p3,p4,p5,p6,s1,s2,s3,HU.out.isok.2.2.2.2.2.2.2.1,HU.out.sof.isok,s6⟩
    have HY := Lib.hid hyok
    rw [hA]
    clear hA hyok HX
    unfold bFst3
    rw [fst3 (f := Tryz.f32) rfl]
    have hlt := BA.out.lt
    have HLT := Lib.hid hlt
    go_wp2_with fail
    refine wp_region_C (fun w' => Blk w' (w.heap.size + 1) (noteR n ln) 30) HM.out ?_
    have HC := Lib.hid (show Blk wf.drew (w.heap.size + 1) (noteR n ln) 30 from ⟨BN.out.at_⟩)
    have hbd := (Below.refl wf.heap.size wf).drew
    have BO := Lib.hid (BO.out.keep hbd)
    have BA := Lib.hid (BA.out.keep hbd)
    have HV := Lib.hid (HV.out.later hbd)
    have HU := Lib.hid (HU.out.later hbd)
    have HB := Lib.hid (HB.out.trans (hbd.mono HB.out.size))
    have HLT := Lib.hid (show gA < wf.drew.heap.size from HLT.out)
    clear hbd hlt BN d4
    generalize wf.drew = w0 at HC BO BA HV HU HB HLT ⊢
    refine anyC_take (i := 0) (v := .pointer (some ⟨w.heap.size + 1,7,none⟩)) rfl (by kernel_rfl) (by kernel_rfl) (by kernel_rfl) (fun _ _ _ h => h) HC.out ⟨by rfl,fun w' hw => by go_simp⟩ ?_
    refine anyC_take (i := 1) (v := .int .u32 n.epoch) rfl (by kernel_rfl) (by kernel_rfl) (by kernel_rfl) (fun _ _ _ h => h) HC.out ⟨by rfl,fun w' hw => by (have c := hw.cell 7 (.int .u32 n.epoch) rfl; go_simp)⟩ ?_
    refine anyC_take (i := 2) (v := .pointer (some ⟨w.heap.size + 1,11,none⟩)) rfl (by kernel_rfl) (by kernel_rfl) (by kernel_rfl) (fun _ _ _ h => h) HC.out ⟨by rfl,fun w' hw => by go_simp⟩ ?_
    refine anyC_take (i := 3) (v := .slice ln.c n.offer.length ln.k) rfl (by kernel_rfl) (by kernel_rfl) (by kernel_rfl) (fun _ _ _ h => h) HC.out ⟨by rfl,fun w' hw => by (have c := hw.cell 11 (.slice ln.c n.offer.length ln.k) rfl; go_simp)⟩ ?_
    refine anyC_take (i := 5) (v := .pointer (some ⟨gA,6,none⟩)) rfl (by kernel_rfl) (by kernel_rfl) (by kernel_rfl) (fun _ _ _ h => h) HC.out ⟨by rfl,fun w' hw => by go_simp⟩ ?_
    refine anyC_take (i := 6) (v := .pointer (some ⟨gA,10,none⟩)) rfl (by kernel_rfl) (by kernel_rfl) (by kernel_rfl) (fun _ _ _ h => h) HC.out ⟨by rfl,fun w' hw => by go_simp⟩ ?_
    refine anyC_one (i := 4) (by decide +kernel) rfl rfl fun K' hK => ?_
    go_simp
    refine (HC3.out w0 HU.out).mono ?_
    rintro e w1 ⟨v1,rfl,o1,hb⟩
    obtain ⟨A3,d3,rfl,_⟩ := o1.form
    have O1 := Lib.hid o1; clear o1
    have HC := Lib.hid (HC.out.keep hb)
    have BO := Lib.hid (BO.out.keep hb)
    have BA := Lib.hid (BA.out.keep hb)
    have HV := Lib.hid (HV.out.later hb)
    have HU := Lib.hid (HU.out.later hb)
    have HB := Lib.hid (HB.out.trans (hb.mono HB.out.size)); clear hb
    refine hK _ _ HC.out ?_
    clear hK
    refine anyC_one (i := 7) (by decide +kernel) rfl rfl fun K' hK => ?_
    have a10 := BA.out.cell 10 (.int .u32 x.ses.epoch) rfl
    have f10 := BA.out.free 10
    go_simp
    refine hK _ _ (HC.out.setOther (by omega) 10 (.int .u32 n.epoch)) ?_
    clear hK a10 f10
    have hoff := (Off.refl gA w1).set 10 (.int .u32 n.epoch)
    have BA := Lib.hid (show Blk (w1.setCell ⟨gA,10,none⟩ (.int .u32 n.epoch)) gA (repR (⟨x.rep,x.flt,x.epoch,x.seq,x.know,x.held,⟨x.ses.on,x.ses.num,x.ses.src,x.ses.cur,n.epoch,x.ses.offer,x.ses.last⟩⟩ : Rp) lx) 28 from BA.out.put 10 (.int .u32 n.epoch))
    have BO := Lib.hid (BO.out.off hoff (by omega))
    have HC := Lib.hid (HC.out.off hoff (by omega))
    have HV := Lib.hid (HV.out.off hoff (HA.out.mono fun k hk => hk.1))
    have HU := Lib.hid (HU.out.off hoff (HUA.out.mono fun k hk => by omega))
    have O1 := Lib.hid (O1.out.setOther (h := gA) (j := 10) (u := .int .u32 n.epoch) HLT.out)
    have HB := Lib.hid (below_off HB.out hoff (by omega))
    have hz := hoff.size
    rw [← hz] at HV HU
    clear hoff hz
    generalize w1.setCell ⟨gA,10,none⟩ (.int .u32 n.epoch) = w2 at BA BO HC HV HU O1 HB ⊢
    refine anyC_take (i := 8) (v := .pointer (some ⟨gA,6,none⟩)) rfl (by kernel_rfl) (by kernel_rfl) (by kernel_rfl) (fun _ _ _ h => h) HC.out ⟨by rfl,fun w' hw => by go_simp⟩ ?_
    refine anyC_take (i := 9) (v := .pointer (some ⟨gA,11,none⟩)) rfl (by kernel_rfl) (by kernel_rfl) (by kernel_rfl) (fun _ _ _ h => h) HC.out ⟨by rfl,fun w' hw => by go_simp⟩ ?_
    refine anyC_one (i := 10) (by decide +kernel) rfl rfl fun K' hK => ?_
    have a11 := BA.out.cell 11 (.slice lx.c x.ses.offer.length lx.k) rfl
    have f11 := BA.out.free 11
    go_simp
    refine hK _ _ (HC.out.setOther (by omega) 11 (.slice A3 n.offer.length d3)) (anyC_done (by decide +kernel) ?_)
    clear hK a11 f11
    have hoff := (Off.refl gA w2).set 11 (.slice A3 n.offer.length d3)
    have BA := Lib.hid (show Blk (w2.setCell ⟨gA,11,none⟩ (.slice A3 n.offer.length d3)) gA (repR (⟨x.rep,x.flt,x.epoch,x.seq,x.know,x.held,⟨x.ses.on,x.ses.num,x.ses.src,x.ses.cur,n.epoch,n.offer,x.ses.last⟩⟩ : Rp) ⟨lx.a,lx.b,A3,lx.i,lx.j,d3⟩) 28 from BA.out.put 11 (.slice A3 n.offer.length d3))
    have BO := Lib.hid (BO.out.off hoff (by omega))
    have HC := Lib.hid (HC.out.off hoff (by omega))
    have HV := Lib.hid (HV.out.off hoff (HA.out.mono fun k hk => hk.1))
    have HU := Lib.hid (HU.out.off hoff (HUA.out.mono fun k hk => by omega))
    have O1 := Lib.hid (O1.out.setOther (h := gA) (j := 11) (u := .slice A3 n.offer.length d3) HLT.out)
    have HB := Lib.hid (below_off HB.out hoff (by omega))
    have hz := hoff.size
    rw [← hz] at HV HU
    clear hoff hz
    generalize w2.setCell ⟨gA,11,none⟩ (.slice A3 n.offer.length d3) = w3 at BA BO HC HV HU O1 HB ⊢
    have hy := (show RpV w3 w3.heap.size (.agg (repR ⟨x.rep,x.flt,x.epoch,x.seq,x.know,x.held,⟨x.ses.on,x.ses.num,x.ses.src,x.ses.cur,n.epoch,n.offer,x.ses.last⟩⟩ ⟨lx.a,lx.b,A3,lx.i,lx.j,d3⟩)) ⟨x.rep,x.flt,x.epoch,x.seq,x.know,x.held,⟨x.ses.on,x.ses.num,x.ses.src,x.ses.cur,n.epoch,n.offer,x.ses.last⟩⟩ from
      ⟨.slice lx.a x.know.length lx.i,.slice lx.b x.held.length lx.j,.slice A3 n.offer.length d3,rfl,HV.out.skn,HV.out.she,O1.out.sl HU.out.sof.isok,HY.out⟩)
    have hya := (show RpAv (fun k => k ≠ gA ∧ w.heap.size + 1 + 1 < k) (.agg (repR ⟨x.rep,x.flt,x.epoch,x.seq,x.know,x.held,⟨x.ses.on,x.ses.num,x.ses.src,x.ses.cur,n.epoch,n.offer,x.ses.last⟩⟩ ⟨lx.a,lx.b,A3,lx.i,lx.j,d3⟩)) ⟨x.rep,x.flt,x.epoch,x.seq,x.know,x.held,⟨x.ses.on,x.ses.num,x.ses.src,x.ses.cur,n.epoch,n.offer,x.ses.last⟩⟩ from
      ⟨.slice lx.a x.know.length lx.i,.slice lx.b x.held.length lx.j,.slice A3 n.offer.length d3,rfl,HAL.out.1,HAL.out.2.1,O1.out.av.mono fun k hk => (by have := HLT.out; omega)⟩)
    go_wp2_with fail
    exact b_end4 HC.out BO.out BA.out hy hya HB.out hlg HNX.out
end Go.Proofs.YtfjaeohfigcciabGreatDoor

namespace Go.Proofs.YtfjaeohfigcciabGreatDoor
open Go.RowKit

def bTake (r : Rp) (n : Nt) : Except Int Rp := match takesR r.flt n.ents r.know r.held with | .error c => .error c | .ok x => bEnd n (afterP r n x.1 x.2)
structure BhAt (w : World) (r : Rp) (n : Nt) (ln : Ls) (gA k : Nat) (K : List Rn) (H : List En) (lk : Ls) (wl : World) : Prop where
  took : takesR r.flt (n.ents.take k) r.know r.held = .ok (K,H)
  bn : Blk wl (w.heap.size + 1) (noteR n ln) 30
  bo : Blk wl (w.heap.size + 1 + 1) #[.int .u8 0,.int .u8 0,.int .u32 0,.int .u32 0,.slice none 0 0,.slice none 0 0,.bool false,.int .u32 0,.int .u8 0,.int .u8 0,.int .u32 0,.slice none 0 0,.int .u32 0] 28
  ba : Blk wl gA (repR (withK r K H) lk) 28
  val : RpV wl wl.heap.size (.agg (repR (withK r K H) lk)) (withK r K H)
  av : RpAv (fun k => k ≠ gA ∧ w.heap.size + 1 + 1 < k) (.agg (repR (withK r K H) lk)) (withK r K H)
  nt : NtV wl wl.heap.size (.agg (noteR n ln)) n
  bel : Below w.heap.size w wl
theorem ent_of (r : Rp) (K : List Rn) (H : List En) (x : En) : entR (withK r K H) x = match takesR r.flt [x] K H with | .ok y => .ok (withK r y.1 y.2) | .error c => .error c := rfl

set_option maxHeartbeats 16000000 in
set_option maxRecDepth 100000 in
theorem b_rest2 {w wf : World} {r : Rp} {n : Nt} {ln lc : Ls} {gA : Nat} (hbn : Blk wf (w.heap.size + 1) (noteR n ln) 30) (hbo : Blk wf (w.heap.size + 1 + 1) #[.int .u8 0,.int .u8 0,.int .u32 0,.int .u32 0,.slice none 0 0,.slice none 0 0,.bool false,.int .u32 0,.int .u8 0,.int .u8 0,.int .u32 0,.slice none 0 0,.int .u32 0] 28) (hba : Blk wf gA (repR r lc) 28) (hv : RpV wf wf.heap.size (.agg (repR r lc)) r)
    (ha : RpAv (fun k => k ≠ gA ∧ w.heap.size + 1 + 1 < k) (.agg (repR r lc)) r) (hb : Below w.heap.size w wf) (hlg : w.heap.size + 1 + 1 < gA) (hu : NtV wf wf.heap.size (.agg (noteR n ln)) n) (hua : NtAv (fun k => k < w.heap.size) (.agg (noteR n ln)) n) (hg3 : n.offer.length ≤ 10000)
    (hh : erightB r.held = true) (hhl : r.held.length ≤ 1000) (hne : erightB n.ents = true) (hnl : n.ents.length ≤ 1000) {u0 u1 u2 u6 u7 u8 u9 u10 u11 u12 u13 u14 u15 u16 u17 u18 u19 u20 u21 u22 u23 u24 u25 u26 u27 u28 u29 u30 u31 u32 u33 u34 u35 u36 u37 u38 u39 u40 u41 u42 u43 u44 u45 u46 u47 u48 u49 u50 u51 u52 u53 u54 u55 u56 : Value} :
    bRest2.wp Tryz.prog (bodyPost Tryz.prog Tryz.f32 (RepSure w (bTake r n))) { tmps := #[u0,u1,u2,.pointer (some ⟨w.heap.size + 1,0,none⟩),.pointer (some ⟨w.heap.size + 1 + 1,0,none⟩),.pointer (some ⟨gA,0,none⟩),u6,u7,u8,u9,u10,u11,u12,u13,u14,u15,u16,u17,u18,u19,u20,u21,u22,u23,u24,u25,u26,u27,u28,u29,u30,u31,u32,u33,u34,u35,u36,u37,u38,u39,u40,u41,u42,u43,u44,u45,u46,u47,u48,u49,u50,u51,u52,u53,u54,u55,u56],defers := [] } wf := by
  have HNX := Lib.hid hu.isok.2.2.2.2.2.2.2.2.2.1
  have HNO := Lib.hid hu.sen.isok
  have HRH := Lib.hid (fun x hx => re_of_right hh x hx)
  have HRN := Lib.hid (fun x hx => re_of_right hne x hx)
  have HRI := Lib.hid (rise_of_right hh)
  have HL := Lib.hid (And.intro hhl hnl)
  have HUA := Lib.hid hua
  have HG3 := Lib.hid hg3
  have HLG := Lib.hid hlg
  have HR := Lib.hid (show bTake r n = match takesR r.flt n.ents r.know r.held with | .error c => .error c | .ok x => bEnd n (afterP r n x.1 x.2) from rfl)
  generalize bTake r n = R at HR ⊢
  have d8 := hbn.cell 8 (.slice ln.b n.ents.length ln.j) rfl
  have T0 := Lib.hid (show BhAt w r n ln gA 0 r.know r.held lc wf from ⟨rfl,hbn,hbo,hba,hv,ha,hu,hb⟩)
  clear hbn hbo hba hv ha hb hu hua hg3 hh hhl hne hnl hlg
  rw [b_cut3]
  unfold bFst2
  rw [fst2 (f := Tryz.f32) rfl]
  go_wp2_with fail
  clear d8
  go_loopw [17] (fun i wl => ∃ (k : Nat) (K : List Rn) (H : List En) (lk : Ls),i = .int .i64 k ∧ k ≤ n.ents.length ∧ BhAt w r n ln gA k K H lk wl) (fun i _ => n.ents.length - (intOf i).toNat)
  case atStart => exact ⟨0,r.know,r.held,lc,rfl,Nat.zero_le _,T0.out⟩
  case round =>
    rename World => wl
    obtain ⟨k,K,H,lk,rfl,hk,T⟩ := hrel
    have HT := Lib.hid T; clear T T0
    have hlen := HL.out.2
    by_cases hlt : k < n.ents.length
    · skip
      obtain ⟨x,hxk⟩ : ∃ x,n.ents[k]? = some x := ⟨_,List.getElem?_eq_getElem hlt⟩
      obtain ⟨be,oe,hA,hbe,hec⟩ := HT.out.nt.sen.at1 hxk
      have HX := Lib.hid hxk
      have hmem := List.mem_of_getElem? hxk
      have HXO := Lib.hid (HNO.out x hmem)
      have HXR := Lib.hid (HRN.out x hmem)
      have TB := tookB r.flt _ _ _ _ _ HRI.out HT.out.took
      have hHr : erightB H = true := right_of TB.rise (TB.good HRH.out fun y hy => HRN.out y (List.mem_of_mem_take hy))
      have hHl : H.length ≤ 8000 := by have h1 := TB.len; have h2 := HL.out; have h3 := List.length_take_le k n.ents; omega
      have HW := Lib.hid (al1 wl (.cells #[.int .u8 x.id,.int .u8 x.rep,.int .u32 x.seq,.int .u32 x.stamp,.int .i64 x.kind,.int .u8 x.cls,.int .u32 x.val] 62))
      have BE := Lib.hid (Blk.new wl #[.int .u8 x.id,.int .u8 x.rep,.int .u32 x.seq,.int .u32 x.stamp,.int .i64 x.kind,.int .u8 x.cls,.int .u32 x.val] 62)
      have HC := Lib.hid (tbehindEntry_any (fun k => k ≠ gA ∧ w.heap.size + 1 + 1 < k) (withK r K H) lk x (wl.alloc (.cells #[.int .u8 x.id,.int .u8 x.rep,.int .u32 x.seq,.int .u32 x.stamp,.int .i64 x.kind,.int .u8 x.cls,.int .u32 x.val] 62)) (HT.out.val.later HW.out) HT.out.av HXO.out HXR.out hHr hHl)
      rw [ent_of] at HC
      have HTN := Lib.hid (tc_next HX.out HT.out.took)
      have HTD := Lib.hid (fun c (h : takesR r.flt (n.ents.take (k + 1)) r.know r.held = .error c) => tc_dies h)
      simp only at HTN
      generalize takesR r.flt [x] K H = D at HC HTN
      simp only [En.agg] at HC
      have BA := Lib.hid (HT.out.ba.keep HW.out)
      have BN := Lib.hid (HT.out.bn.keep HW.out)
      have BO := Lib.hid (HT.out.bo.keep HW.out)
      have HN := Lib.hid (HT.out.nt.later HW.out)
      have HB := Lib.hid (HT.out.bel.trans (HW.out.mono HT.out.bel.size))
      have hi := rep_row_size (withK r K H) lk
      have hga := HT.out.ba.lt
      have HGA := Lib.hid hga
      obtain ⟨x0,x1,x2,x3,x4,x5,x6⟩ := hec.all
      clear hxk hec hmem TB hHr hHl hga
      generalize repR (withK r K H) lk = cs at HC BA hi
      rw [hA]
      clear hA
      go_upto_region 5 with fail
      clear x0 x1 x2 x3 x4 x5 x6
      have HGE := Lib.hid (show gA ≠ wl.heap.size by have := HGA.out; omega)
      generalize wl.alloc (.cells #[.int .u8 x.id,.int .u8 x.rep,.int .u32 x.seq,.int .u32 x.stamp,.int .i64 x.kind,.int .u8 x.cls,.int .u32 x.val] 62) = we at HC HW BE BA BN BO HN HB ⊢
      have HWS := Lib.hid HW.out.size
      generalize wl.heap.size = ge at BE HGE HGA HWS ⊢
      go_wp2_with (first
        | (refine wpList_load_row rfl _ _ rfl gA rfl 28 cs (0,0) _ BA.out.at_ Tryz.underlying28 rfl hi ?_)
        | (refine wpList_load_row rfl _ _ rfl ge rfl 62 #[.int .u8 x.id,.int .u8 x.rep,.int .u32 x.seq,.int .u32 x.stamp,.int .i64 x.kind,.int .u8 x.cls,.int .u32 x.val] (0,0) _ BE.out.at_ Tryz.underlying62 rfl be_size ?_))
      refine (HC.out).mono ?_
      cases D with
      | error c =>
        rintro e w5 ⟨rfl,hb⟩
        have hd := HTD.out c HTN.out
        have hR := HR.out
        rw [hd] at hR
        have hR : R = .error c := hR
        clear HR
        subst hR
        exact ⟨rfl,rfl,HB.out.trans (hb.mono HB.out.size)⟩
      | ok y =>
        rintro e w5 ⟨v5,rfl,hv5,ha5,hb⟩
        obtain ⟨l5,rfl⟩ := hv5.rows
        have hi5 := rep_row_size (withK r y.1 y.2) l5
        have ho5 := rep_row_one (withK r y.1 y.2) l5
        have hs5 : (repR (withK r y.1 y.2) l5).size = 13 := rfl
        have hcs : cs.size = 13 := by
          have := hi.symm.trans rep_size1
          simpa using this
        have BA := Lib.hid (BA.out.keep hb)
        have BN := Lib.hid (BN.out.keep hb)
        have BO := Lib.hid (BO.out.keep hb)
        have HN := Lib.hid (HN.out.later hb)
        have HB := Lib.hid (HB.out.trans (hb.mono HB.out.size))
        have ha6 : RpAv (fun k => k ≠ gA ∧ w.heap.size + 1 + 1 < k) (.agg (repR (withK r y.1 y.2) l5)) (withK r y.1 y.2) := ha5.mono fun j hj => by
          rcases hj with h | h
          · exact h
          · have h1 := HGA.out
            have h2 := HLG.out
            have h3 := HWS.out
            omega
        have NX := Lib.hid (show BhAt w r n ln gA (k + 1) y.1 y.2 l5 (w5.setRow gA (repR (withK r y.1 y.2) l5)) from by
          have hlg := HLG.out
          have hz : (w5.setRow gA (repR (withK r y.1 y.2) l5)).heap.size = w5.heap.size := by simp [World.setRow]
          have V := hv5.rowOff (g := gA) (ha6.mono fun j hj => hj.1) (repR (withK r y.1 y.2) l5)
          have N := HN.out.rowOff (g := gA) (HUA.out.mono fun j hj => by omega) (repR (withK r y.1 y.2) l5)
          rw [← hz] at V N
          exact ⟨HTN.out,BN.out.other (by omega) _,BO.out.other (by omega) _,BA.out.row _,V,ha6,N,below_setRow1 (B := w.heap.size) (r := gA) HB.out (by omega) _⟩)
        clear hb hv5 ha5 ha6
        generalize repR (withK r y.1 y.2) l5 = c5 at NX hi5 ho5 hs5 ⊢
        go_wp2_with (refine wpList_store_row rfl _ _ _ rfl gA c5 rfl rfl 28 cs BA.out.at_ hi5 (by rw [hs5,hcs]) ho5 ?_)
        go_roundw
        case rel => exact ⟨k + 1,y.1,y.2,l5,by go_num,by omega,NX.out⟩
        case measure => simp [intOf]; omega
    · have hkk : k = n.ents.length := by omega
      have ht : n.ents.take k = n.ents := List.take_of_length_le (by omega)
      have htk := HT.out.took
      rw [ht] at htk
      have hR := HR.out
      rw [htk] at hR
      have hR : R = bEnd n (afterP r n K H) := hR
      rw [hR]
      clear hR htk ht hkk HR
      go_wp2_with fail
      exact b_end3 rfl HT.out.bn HT.out.bo HT.out.ba HT.out.val HT.out.av HT.out.bel HLG.out HNX.out HT.out.nt HUA.out HG3.out
end Go.Proofs.YtfjaeohfigcciabGreatDoor

