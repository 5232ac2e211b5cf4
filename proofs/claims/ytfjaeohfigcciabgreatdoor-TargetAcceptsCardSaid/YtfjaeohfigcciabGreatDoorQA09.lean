/- Texts in one: NRight3, NRow, RefHas. -/
import Derived.Laws.Tables
import Derived.Test.YtfjaeohfigcciabGreatDoorQA08
import Derived.Test.YtfjaeohfigcciabGreatDoorQA06
import Derived.Test.YtfjaeohfigcciabGreatDoorQA03
import Derived.Test.YtfjaeohfigcciabGreatDoorQA02
set_option linter.all false
namespace Go.Proofs.YtfjaeohfigcciabGreatDoor
open Go.RowKit

theorem q4Right_any (v : Value) (n : Nt) (w : World) (hv : NtV w w.heap.size v n) (h1 : n.know.length ≤ 1000) (h2 : n.ents.length ≤ 1000) (h3 : n.offer.length ≤ 1000) :
    Calls Tryz.prog 26 #[v] w fun e w' => e = .returned (.bool (noteB n)) ∧ Below w.heap.size w w' := by
  cases hh : headB n
  · rw [note_head hh]
    exact q4Right_head v n w hv hh
  · by_cases hk : n.kind = 1
    · rw [note_pull hh hk]
      exact q4Right_pull v n w hv h1 h2 h3 hh hk
    · rw [note_batch hh hk]
      have hbt : batchB n = (decide (n.kind = 2 ∧ n.flt = 0 ∧ n.know = [] ∧ n.ents.length ≤ 4) && (erightB n.ents && (rightB n.offer && tailB n))) := rfl
      rw [hbt]
      by_cases hd : n.kind = 2 ∧ n.flt = 0 ∧ n.know = [] ∧ n.ents.length ≤ 4
      · rw [decide_eq_true hd,Bool.true_and]
        obtain ⟨d1,d2,d3,d4⟩ := hd
        cases hb1 : erightB n.ents
        · exact q4Right_batch1 v n w hv h3 hh d1 d2 d3 d4 (.inl hb1)
        · cases hb2 : rightB n.offer
          · exact q4Right_batch1 v n w hv h3 hh d1 d2 d3 d4 (.inr hb2)
          · rw [Bool.true_and,Bool.true_and]
            rcases Nat.eq_zero_or_pos n.ents.length with h0 | h0
            · by_cases hx : n.next = n.cur
              · exact q4Right_e2 v n w hv h3 hh d1 d2 d3 d4 hb1 hb2 h0 hx
              · have ht : tailB n = false := tail_no (by unfold nextB; rw [List.length_eq_zero_iff.1 h0]; simp [hx])
                exact q4Right_e1 v n w hv h3 hh d1 d2 d3 d4 hb1 hb2 h0 hx
            · obtain ⟨m,hm⟩ : ∃ m,n.ents.length = m + 1 := ⟨n.ents.length - 1,by omega⟩
              obtain ⟨e0,g0⟩ : ∃ e,n.ents[0]? = some e := ⟨n.ents[0]'(by omega),List.getElem?_eq_getElem (by omega)⟩
              obtain ⟨el,gl⟩ : ∃ e,n.ents[m]? = some e := ⟨n.ents[m]'(by omega),List.getElem?_eq_getElem (by omega)⟩
              by_cases hx : e0.id < n.cur
              · exact q4Right_n1 v n w hv h3 hh d1 d2 d3 d4 hb1 hb2 m e0 el hm g0 gl hx
              · by_cases hy : n.next = el.id + 1
                · exact q4Right_n3 v n w hv h3 hh d1 d2 d3 d4 hb1 hb2 m e0 el hm g0 gl (by omega) hy
                · exact q4Right_n2 v n w hv h3 hh d1 d2 d3 d4 hb1 hb2 m e0 el hm g0 gl (by omega) hy
      · rw [decide_eq_false hd,Bool.false_and]
        refine q4Right_batch0 v n w hv h1 h2 hh hk ?_
        by_cases d1 : n.kind = 2
        · by_cases d2 : n.flt = 0
          · by_cases d3 : n.know = []
            · exact .inr (.inr (.inr (Nat.lt_of_not_le fun d4 => hd ⟨d1,d2,d3,d4⟩)))
            · exact .inr (.inr (.inl d3))
          · exact .inr (.inl d2)
        · exact .inl d1
end Go.Proofs.YtfjaeohfigcciabGreatDoor

namespace Go.Proofs.YtfjaeohfigcciabGreatDoor
open Go.RowKit

theorem setRow_id {w : World} {g : Nat} {cs : Array Value} {t : TypeId} {fr : Nat × Nat} (hg : w.heap[g]? = some (.cells cs t fr)) : w.setRow g cs = w := by
  have h : (w.setRow g cs).heap = w.heap := by
    apply Array.ext_getElem?
    intro i
    by_cases hi : i = g
    · subst hi; rw [setRow_heap w i cs cs t fr hg,hg]
    · exact setRow_other w g i cs hi
  have e : w.setRow g cs = { w with heap := (w.setRow g cs).heap } := rfl
  rw [e,h]
def zeroN : Nt := ⟨0,0,0,0,0,0,[],0,[],0,false,[]⟩
def zeroC : Array Value := #[.int .i64 0,.int .u8 0,.int .u8 0,.int .u32 0,.int .u8 0,.int .u8 0,.slice none 0 0,.int .u32 0,.slice none 0 0,.int .u8 0,.bool false,.slice none 0 0]
theorem zero_v (w : World) (B : Nat) : NtV w B (.agg zeroC) zeroN := ⟨.slice none 0 0,.slice none 0 0,.slice none 0 0,rfl,Sl.nil _ _,ESl.nil _ _,Sl.nil _ _,by unfold Nt.ok zeroN; simp⟩
theorem Own.setOther {w : World} {base h j : Nat} {v u : Value} {zs : List Rn} (k : Own w base v zs) (hh : h < base) : Own (w.setCell ⟨h,j,none⟩ u) base v zs := by
  refine ⟨k.1,?_⟩
  rcases k.2 with hn | ⟨g,cap,cur,hv,hb',hg,r⟩
  · exact .inl hn
  · exact .inr ⟨g,cap,cur,hv,hb',(heap_setCell_other w ⟨h,j,none⟩ g u (by simp; omega)).trans hg,r⟩
theorem Own.setRowOther {w : World} {base h : Nat} {v : Value} {cs : Array Value} {zs : List Rn} (k : Own w base v zs) (hh : h < base) : Own (w.setRow h cs) base v zs := by
  refine ⟨k.1,?_⟩
  rcases k.2 with hn | ⟨g,cap,cur,hv,hb',hg,r⟩
  · exact .inl hn
  · exact .inr ⟨g,cap,cur,hv,hb',(setRow_other w h g cs (by omega)).trans hg,r⟩
theorem below_setRow {B : Nat} {W w : World} (h : Below B W w) {r : Nat} (hr : B ≤ r) (cs : Array Value) : Below B W (w.setRow r cs) :=
  ⟨h.os,h.tape,h.output,by simpa [World.setRow] using h.size,fun i hi => (setRow_other w r i cs (by omega)).trans (h.block i hi)⟩
theorem note_size : (Tryz.prog.info? 30).map (·.size) = some 12 := by kernel_rfl
end Go.Proofs.YtfjaeohfigcciabGreatDoor

namespace Go.Proofs.YtfjaeohfigcciabGreatDoor
open Go.RowKit Go.Sort

theorem covs_none {zs : List Rn} {p n : Int} (h : ∀ (j : Nat) (x : Rn),zs[j]? = some x → covB x p n = false) : covs zs p n = false := by
  rw [← Bool.not_eq_true,covs]
  intro ht
  obtain ⟨x,hx,hc⟩ := List.any_eq_true.1 ht
  obtain ⟨j,hj,rfl⟩ := List.mem_iff_getElem.1 hx
  rw [h j _ (List.getElem?_eq_getElem hj)] at hc
  cases hc
theorem covs_some {zs : List Rn} {p n : Int} {k : Nat} {x : Rn} (h : zs[k]? = some x) (hc : covB x p n = true) : covs zs p n = true :=
  List.any_eq_true.2 ⟨x,List.mem_of_getElem? h,hc⟩

set_option maxHeartbeats 2000000 in
set_option maxRecDepth 100000 in
theorem refin_any (v : Value) (zs : List Rn) (p n : Int) (w : World) (h : Sl w w.heap.size v zs) (hz : zs.length ≤ 1000) (hn : 0 ≤ n ∧ n ≤ 4294967296) :
    Calls Tryz.prog 114 #[v,.int .u8 p,.int .u64 n] w fun e w' => e = .returned (.bool (covs zs p n)) ∧ w' = w := by
  obtain ⟨A,c,rfl,_,hok,hA⟩ := h
  obtain ⟨n1,n2⟩ := hn
  have HA := Lib.hid hA; clear hA
  have HK := Lib.hid hok; clear hok
  generalize hrb : covs zs p n = rb
  have HR := Lib.hid hrb; clear hrb
  go_enter Tryz.func114,Tryz.ntmps114
  go_wp2
  go_loop [7] (fun i => ∃ k : Nat,i = .int .i64 k ∧ k ≤ zs.length ∧ Hid (∀ j x,j < k → zs[j]? = some x → covB x p n = false)) (fun i => zs.length - (intOf i).toNat)
  case atStart => exact ⟨0,rfl,by omega,Lib.hid (fun j _ hj => absurd hj (by omega))⟩
  case round =>
    obtain ⟨k,rfl,hk,HO⟩ := hrel
    by_cases hlt : k < zs.length
    · obtain ⟨b,off,rfl,hbw,hc⟩ := HA.out (by intro h; simp [h] at hlt)
      have hxk : zs[k]? = some zs[k] := List.getElem?_eq_getElem hlt
      generalize zs[k] = x at hxk
      obtain ⟨⟨o1,o2⟩,⟨o3,o4⟩,o5,o6⟩ := HK.out x (List.mem_of_getElem? hxk)
      obtain ⟨c0,c1,c2⟩ := hc k x hxk
      clear hc
      have HX := Lib.hid hxk; clear hxk
      by_cases q1 : x.r = p
      · have q1' : (x.r == p) = true := by simp [q1]
        by_cases q2 : x.lo ≤ n
        · by_cases q3 : n ≤ x.hi
          · have HV : Hid (covB x p n = true) := Lib.hid (by simp [covB,q1,q2,q3])
            clear q1
            go_wp2
            go_ret
            refine ⟨?_,rfl⟩
            rw [← HR.out,covs_some HX.out HV.out]
            rfl
          · have HV : Hid (covB x p n = false) := Lib.hid (by simp [covB]; omega)
            have q3' : decide (n ≤ x.hi) = false := by simp; omega
            clear q1
            go_wp2
            go_round
            case rel =>
              refine ⟨k + 1,by go_num,by omega,Lib.hid (fun j y hj hy => ?_)⟩
              rcases Nat.lt_or_ge j k with h | h
              · exact HO.out j y h hy
              · obtain rfl : j = k := by omega
                rw [HX.out] at hy; cases hy; exact HV.out
            case measure => simp [intOf]; omega
        · have HV : Hid (covB x p n = false) := Lib.hid (by simp [covB]; omega)
          have q2' : decide (x.lo ≤ n) = false := by simp; omega
          clear q1
          go_wp2
          go_round
          case rel =>
            refine ⟨k + 1,by go_num,by omega,Lib.hid (fun j y hj hy => ?_)⟩
            rcases Nat.lt_or_ge j k with h | h
            · exact HO.out j y h hy
            · obtain rfl : j = k := by omega
              rw [HX.out] at hy; cases hy; exact HV.out
          case measure => simp [intOf]; omega
      · have HV : Hid (covB x p n = false) := Lib.hid (by simp [covB,q1])
        have q1' : (x.r == p) = false := by simp [q1]
        clear q1
        go_wp2
        go_round
        case rel =>
          refine ⟨k + 1,by go_num,by omega,Lib.hid (fun j y hj hy => ?_)⟩
          rcases Nat.lt_or_ge j k with h | h
          · exact HO.out j y h hy
          · obtain rfl : j = k := by omega
            rw [HX.out] at hy; cases hy; exact HV.out
        case measure => simp [intOf]; omega
    · go_wp2
      go_ret
      refine ⟨?_,rfl⟩
      rw [← HR.out,covs_none (fun j x hj => HO.out j x (by have := (List.getElem?_eq_some_iff.1 hj).1; omega) hj)]
      rfl

set_option maxHeartbeats 2000000 in
set_option maxRecDepth 100000 in
theorem refHas_any (v : Value) (zs : List Rn) (p n : Int) (w : World) (h : Sl w w.heap.size v zs) (hz : zs.length ≤ 1000) :
    Calls Tryz.prog 97 #[v,.int .u8 p,.int .u32 n] w fun e w' => e = .returned (.bool (hasB zs p n)) ∧ Below w.heap.size w w' := by
  have hr := refRight_any v zs w h hz
  by_cases hx : rightB zs = true
  · rw [show hasB zs p n = covs zs p n by simp [hasB,hx,covs]]
    rw [hx] at hr
    have HRT := Lib.hid hr; clear hr hx
    obtain ⟨A,c,rfl,_,hok,hA⟩ := h
    have HA := Lib.hid hA; clear hA
    have HK := Lib.hid hok; clear hok
    generalize hrb : covs zs p n = rb
    have HR := Lib.hid hrb; clear hrb
    go_enter Tryz.func97,Tryz.ntmps97
    go_wp2_with fail
    refine (HRT.out).mono ?_
    rintro e w1 ⟨rfl,hb1⟩
    have HB1 := Lib.hid hb1; clear hb1
    go_wp2_with fail
    go_loop [7] (fun i => ∃ k : Nat,i = .int .i64 k ∧ k ≤ zs.length ∧ Hid (∀ j x,j < k → zs[j]? = some x → covB x p n = false)) (fun i => zs.length - (intOf i).toNat)
    case atStart => exact ⟨0,rfl,by omega,Lib.hid (fun j _ hj => absurd hj (by omega))⟩
    case round =>
      obtain ⟨k,rfl,hk,HO⟩ := hrel
      by_cases hlt : k < zs.length
      · obtain ⟨b,off,rfl,hbw,hc⟩ := HA.out (by intro h; simp [h] at hlt)
        have hxk : zs[k]? = some zs[k] := List.getElem?_eq_getElem hlt
        generalize zs[k] = x at hxk
        obtain ⟨⟨o1,o2⟩,⟨o3,o4⟩,o5,o6⟩ := HK.out x (List.mem_of_getElem? hxk)
        obtain ⟨c0,c1,c2⟩ := (hc k x hxk).keep HB1.out hbw
        clear hc
        have HX := Lib.hid hxk; clear hxk
        by_cases q1 : x.r = p
        · have q1' : (x.r == p) = true := by simp [q1]
          by_cases q2 : x.lo ≤ n
          · by_cases q3 : n ≤ x.hi
            · have HV : Hid (covB x p n = true) := Lib.hid (by simp [covB,q1,q2,q3])
              clear q1
              go_wp2
              go_ret
              refine ⟨?_,HB1.out⟩
              rw [← HR.out,covs_some HX.out HV.out]
              rfl
            · have HV : Hid (covB x p n = false) := Lib.hid (by simp [covB]; omega)
              have q3' : decide (n ≤ x.hi) = false := by simp; omega
              clear q1
              go_wp2
              go_round
              case rel =>
                refine ⟨k + 1,by go_num,by omega,Lib.hid (fun j y hj hy => ?_)⟩
                rcases Nat.lt_or_ge j k with h | h
                · exact HO.out j y h hy
                · obtain rfl : j = k := by omega
                  rw [HX.out] at hy; cases hy; exact HV.out
              case measure => simp [intOf]; omega
          · have HV : Hid (covB x p n = false) := Lib.hid (by simp [covB]; omega)
            have q2' : decide (x.lo ≤ n) = false := by simp; omega
            clear q1
            go_wp2
            go_round
            case rel =>
              refine ⟨k + 1,by go_num,by omega,Lib.hid (fun j y hj hy => ?_)⟩
              rcases Nat.lt_or_ge j k with h | h
              · exact HO.out j y h hy
              · obtain rfl : j = k := by omega
                rw [HX.out] at hy; cases hy; exact HV.out
            case measure => simp [intOf]; omega
        · have HV : Hid (covB x p n = false) := Lib.hid (by simp [covB,q1])
          have q1' : (x.r == p) = false := by simp [q1]
          clear q1
          go_wp2
          go_round
          case rel =>
            refine ⟨k + 1,by go_num,by omega,Lib.hid (fun j y hj hy => ?_)⟩
            rcases Nat.lt_or_ge j k with h | h
            · exact HO.out j y h hy
            · obtain rfl : j = k := by omega
              rw [HX.out] at hy; cases hy; exact HV.out
          case measure => simp [intOf]; omega
      · go_wp2
        go_ret
        refine ⟨?_,HB1.out⟩
        rw [← HR.out,covs_none (fun j x hj => HO.out j x (by have := (List.getElem?_eq_some_iff.1 hj).1; omega) hj)]
        rfl
  · have hx : rightB zs = false := by simpa using hx
    rw [show hasB zs p n = false by simp [hasB,hx]]
    rw [hx] at hr
    have HRT := Lib.hid hr; clear hr hx
    obtain ⟨A,c,rfl,_,_,_⟩ := h
    go_enter Tryz.func97,Tryz.ntmps97
    go_wp2_with fail
    refine (HRT.out).mono ?_
    rintro e w1 ⟨rfl,hb1⟩
    go_wp2_with fail
    go_ret
    exact ⟨rfl,hb1⟩
end Go.Proofs.YtfjaeohfigcciabGreatDoor

