/- Texts in one: ITakesR. -/
import Derived.OneCell
import Derived.Deep.DeepCutAuto
import Derived.Test.YtfjaeohfigcciabGreatDoorQA43
import Derived.Test.YtfjaeohfigcciabGreatDoorQA32
set_option linter.all false
namespace Go.Proofs.YtfjaeohfigcciabGreatDoor
open Go.RowKit

theorem EnAt.grown {w w' : World} {row : Option Nat} {b o : Nat} {x : En} (h : EnAt w b o x) (hg : w.grownBy w' row) (hne : some b ≠ row) : EnAt w' b o x := fun i u hu => hg.cell (h i u hu) hne
theorem putEn_own {w : World} {base : Nat} {v : Value} {zs : List En} (h : EOwn w base v zs) {g : Nat} (hg : v.ownBlock ≠ some g) (o : Nat) (x : En) : EOwn (putEn w g o x) base v zs :=
  ownsRow_setCell_other (ownsRow_setCell_other (ownsRow_setCell_other (ownsRow_setCell_other (ownsRow_setCell_other (ownsRow_setCell_other (ownsRow_setCell_other h (a := ⟨g,_,none⟩) hg _) (a := ⟨g,_,none⟩) hg _) (a := ⟨g,_,none⟩) hg _) (a := ⟨g,_,none⟩) hg _) (a := ⟨g,_,none⟩) hg _) (a := ⟨g,_,none⟩) hg _) (a := ⟨g,_,none⟩) hg _
theorem vr_ne' {r q t r' q' t' : Int} (h : ¬ (⟨r,q,t⟩ : Vr) = ⟨r',q',t'⟩) : (r == r') = false ∨ ((r == r') = true ∧ (q == q') = false) ∨ ((r == r') = true ∧ (q == q') = true ∧ (t == t') = false) := by
  by_cases h1 : r = r'
  · by_cases h2 : q = q'
    · by_cases h3 : t = t'
      · exact absurd (by rw [h1,h2,h3]) h
      · exact .inr (.inr ⟨by simp [h1],by simp [h2],by simp [h3]⟩)
    · exact .inr (.inl ⟨by simp [h1],by simp [h2]⟩)
  · exact .inl (by simp [h1])

def TkRel (zs : List En) (e : En) (wz : World) (k : Nat) (s5 : Value) (wr : World) : Prop := EOwn wr wz.heap.size s5 (outT zs e k) ∧ Below wz.heap.size wz wr

set_option maxRecDepth 100000 in
set_option maxHeartbeats 8000000 in
theorem rTake_any (v : Value) (zs : List En) (e : En) (w : World) (h : ESl w w.heap.size v zs) (hl : zs.length ≤ 9000) (he : e.ok) (hr : Rise zs) :
    Calls Tryz.prog 39 #[v,e.agg] w fun en w' => ∃ v',en = .returned v' ∧ ESl w' w'.heap.size v' (takeS zs e) ∧ Below w.heap.size w w' := by
  have HEND := Lib.hid (outT_end zs e)
  have hokT : ∀ k,∀ u ∈ outT zs e k,u.ok := fun k u hu => by
    have hz := h.okAll
    unfold outT at hu
    split at hu
    · rcases mem_takeS hu with h1 | h1
      · rw [h1]; exact he
      · exact hz u (List.mem_of_mem_take h1)
    · exact hz u (List.mem_of_mem_take hu)
  have HOK := Lib.hid hokT; clear hokT
  have HRI := Lib.hid hr; clear hr
  have HEO := Lib.hid he; clear he
  have HLN := Lib.hid (outT_length zs e)
  have HZO := Lib.hid h.okAll
  obtain ⟨A,c,rfl,g1,g2,hA⟩ := h
  clear g1 g2
  have HA := Lib.hid hA; clear hA
  have HNE := Lib.hid (new_entry w e 62)
  have HAL := Lib.hid (al1 w (.cells #[.int .u8 e.id,.int .u8 e.rep,.int .u32 e.seq,.int .u32 e.stamp,.int .i64 e.kind,.int .u8 e.cls,.int .u32 e.val] 62))
  have hwz : w.heap.size < (w.alloc (.cells #[.int .u8 e.id,.int .u8 e.rep,.int .u32 e.seq,.int .u32 e.stamp,.int .i64 e.kind,.int .u8 e.cls,.int .u32 e.val] 62)).heap.size := by simp
  obtain ⟨T,hT⟩ : ∃ T,takeS zs e = T := ⟨_,rfl⟩
  rw [hT] at HEND ⊢
  clear hT
  simp only [En.agg]
  go_enter Tryz.func39,Tryz.ntmps39
  go_wp2_with fail
  generalize w.alloc (.cells #[.int .u8 e.id,.int .u8 e.rep,.int .u32 e.seq,.int .u32 e.stamp,.int .i64 e.kind,.int .u8 e.cls,.int .u32 e.val] 62) = wz at HNE HAL hwz ⊢
  go_loopw [5,6,7] (fun s5 s6 s7 wr => ∃ k : Nat,s7 = .int .i64 k ∧ k ≤ zs.length ∧ s6 = .bool (putT zs e k) ∧ Hid (TkRel zs e wz k s5 wr)) (fun _ _ s7 _ => zs.length - (intOf s7).toNat)
  case atStart => exact ⟨0,rfl,by omega,by simp [putT],Lib.hid ⟨by simp [outT]; exact EOwn.nil _ _,Below.refl _ _⟩⟩
  case round =>
    rename World => wr
    obtain ⟨k,rfl,hk,rfl,HT⟩ := hrel
    have HO := Lib.hid HT.out.1
    have HB := Lib.hid HT.out.2
    have hz := HT.out.2.size
    have hlk := HLN.out k
    clear HT
    obtain ⟨e0,e1,e2,e3,e4,e5,e6⟩ := (HNE.out.keep HB.out hwz).all0
    have hwr : w.heap.size < wr.heap.size := by omega
    by_cases hlt : k < zs.length
    · obtain ⟨b,off,rfl,hbw,hc⟩ := HA.out (by intro h; simp [h] at hlt)
      have hxk : zs[k]? = some zs[k] := List.getElem?_eq_getElem hlt
      generalize zs[k] = x at hxk
      have HXO := Lib.hid (HZO.out x (List.mem_of_getElem? hxk))
      obtain ⟨c0,c1,c2,c3,c4,c5,c6⟩ := (((hc k x hxk).keep HAL.out hbw).keep HB.out (by omega)).all
      obtain ⟨st1,st2⟩ := outT_step (e := e) hxk HRI.out
      clear hxk hc
      have HOW := Lib.hid (fun q hq => (HO.out.lt q hq).2)
      obtain ⟨pt,hpt⟩ : ∃ pt,putT zs e k = pt := ⟨_,rfl⟩
      rw [hpt] at st1 st2 ⊢
      clear hpt
      cases pt
      · obtain ⟨sB,sC,sD⟩ := st2 rfl
        clear st1 st2
        rcases Int.lt_trichotomy x.id e.id with hid | hid | hid
        · have HST := Lib.hid (sB hid); clear sB sC sD
          have q1 : decide (e.id < x.id) = false := by simp; omega
          have q2 : (x.id == e.id) = false := by simp; omega
          go_wp2_with (at_builtin; (refine append_ents rfl _ _ rfl wz.heap.size _ (outT zs e k) rfl ((HO.out.alloc _).alloc _) _ _ [⟨x.id,x.rep,x.seq,x.stamp,x.kind,x.cls,x.val⟩] rfl (one_esl' _ _ x.id x.rep x.seq x.stamp x.kind x.cls x.val (by simp) HXO.out) (by simp; omega) (by simp; omega) ?_); intro v1 w5 ho1 hg1)
          have HO1 := Lib.hid ho1; clear ho1
          have HG1 := Lib.hid (egrown_below ((HB.out.alloc (by omega) (.cells #[.int .u8 x.id,.int .u8 x.rep,.int .u32 x.seq,.int .u32 x.stamp,.int .i64 x.kind,.int .u8 x.cls,.int .u32 x.val] 62)).alloc (by simp; omega) (.cells #[.int .u8 x.id,.int .u8 x.rep,.int .u32 x.seq,.int .u32 x.stamp,.int .i64 x.kind,.int .u8 x.cls,.int .u32 x.val] 62)) ((HO.out.alloc (.cells #[.int .u8 x.id,.int .u8 x.rep,.int .u32 x.seq,.int .u32 x.stamp,.int .i64 x.kind,.int .u8 x.cls,.int .u32 x.val] 62)).alloc (.cells #[.int .u8 x.id,.int .u8 x.rep,.int .u32 x.seq,.int .u32 x.stamp,.int .i64 x.kind,.int .u8 x.cls,.int .u32 x.val] 62)) hg1 (Nat.le_refl _) (by simp; omega)); clear hg1
          go_wp2
          go_roundw
          case rel => exact ⟨k + 1,by go_num,by omega,by rw [(HST.out).1],Lib.hid ⟨by rw [HST.out.2]; exact HO1.out,HG1.out⟩⟩
          case measure => simp [intOf]; omega
        · have HST := Lib.hid (sC hid); clear sB sC sD
          have q1 : decide (e.id < x.id) = false := by simp; omega
          have q2 : (x.id == e.id) = true := by simpa using hid
          have q3 : decide (x.id < e.id) = false := by simp; omega
          have HID := Lib.hid hid; clear hid
          have HLS := Lib.hid (fun W => rLess_any x.rep x.seq x.stamp e.rep e.seq e.stamp W)
          have HXN := Lib.hid (new_entry wr x 62)
          have HEN := Lib.hid ((HNE.out.keep HB.out hwz).keep (al1 wr (.cells #[.int .u8 x.id,.int .u8 x.rep,.int .u32 x.seq,.int .u32 x.stamp,.int .i64 x.kind,.int .u8 x.cls,.int .u32 x.val] 62)) hwr)
          have hrv : repB e x = (ltV ⟨x.rep,x.seq,x.stamp⟩ ⟨e.rep,e.seq,e.stamp⟩ || (decide ((⟨x.rep,x.seq,x.stamp⟩ : Vr) = ⟨e.rep,e.seq,e.stamp⟩) && (decide (x.kind = 2) && decide (e.kind ≠ 2)))) := rfl
          by_cases hL : ltV ⟨x.rep,x.seq,x.stamp⟩ ⟨e.rep,e.seq,e.stamp⟩ = true
          · have hrp : repB e x = true := by rw [hrv,hL]; rfl
            have hls := HLS.out
            rw [hL] at hls
            have HLS := Lib.hid hls; clear hls
            have HST2 := Lib.hid (by have := HST.out.2; rw [if_pos hrp] at this; exact this); clear hrp hrv hL
            go_wp2_with fail
            refine (HLS.out _).mono ?_
            rintro en w3 ⟨rfl,hb3⟩
            have HB3 := Lib.hid ((HB.out.alloc (by omega) (.cells #[.int .u8 x.id,.int .u8 x.rep,.int .u32 x.seq,.int .u32 x.stamp,.int .i64 x.kind,.int .u8 x.cls,.int .u32 x.val] 62)).trans (hb3.mono (by simp; omega)))
            have HO3 := Lib.hid ((HO.out.alloc (.cells #[.int .u8 x.id,.int .u8 x.rep,.int .u32 x.seq,.int .u32 x.stamp,.int .i64 x.kind,.int .u8 x.cls,.int .u32 x.val] 62)).below hb3)
            obtain ⟨x0,x1,x2,x3,x4,x5,x6⟩ := (HXN.out.keep hb3 (by simp)).all0
            clear e0 e1 e2 e3 e4 e5 e6
            obtain ⟨e0,e1,e2,e3,e4,e5,e6⟩ := (HEN.out.keep hb3 (by simp; omega)).all0
            have hz3 : wr.heap.size + 1 ≤ w3.heap.size := by have := hb3.size; simpa using this
            have hl3 : w.heap.size < w3.heap.size := by omega
            have hl4 : wr.heap.size < w3.heap.size := by omega
            have HXN3 := Lib.hid (HXN.out.keep hb3 (by simp))
            have fz := fun j => (hb3.frozen (p := ⟨wr.heap.size,j,none⟩) (by simp)).trans (frozen_of_row _ _ j _ _ (heap_alloc_new wr _))
            clear hb3
            go_upto_region 13 with fail
            go_cut [59] (fun _ wx => Hid (wx = putEn w3 wr.heap.size 0 e))
            case first =>
              go_wp2
              go_meet
              case rel => exact Lib.hid rfl
            case rest =>
              clear fz e0 e1 e2 e3 e4 e5 e6 x0 x1 x2 x3 x4 x5 x6
              have HXE : Hid (EnAt wc wr.heap.size 0 e) := Lib.hid (by rw [hcut.out]; exact putEn_at HXN3.out e)
              have HOP : Hid (EOwn wc wz.heap.size _ (outT zs e k)) := Lib.hid (by rw [hcut.out]; exact putEn_own HO3.out (g := wr.heap.size) (fun h => Nat.lt_irrefl _ (HOW.out _ h)) 0 e)
              have HBP : Hid (Below wz.heap.size wz wc) := Lib.hid (by rw [hcut.out]; exact putEn_below HB3.out (g := wr.heap.size) (by omega) 0 e)
              have hzp : w3.heap.size ≤ wc.heap.size := by rw [hcut.out,putEn_size]; exact Nat.le_refl _
              clear hcut HXN3 HO3 HB3
              obtain ⟨x0,x1,x2,x3,x4,x5,x6⟩ := HXE.out.all0
              have hl5 : wr.heap.size < wc.heap.size := by omega
              go_wp2_with (at_builtin; (refine append_ents rfl _ _ rfl wz.heap.size _ (outT zs e k) rfl (HOP.out.alloc _) _ _ [⟨e.id,e.rep,e.seq,e.stamp,e.kind,e.cls,e.val⟩] rfl (one_esl' _ _ e.id e.rep e.seq e.stamp e.kind e.cls e.val (by simp) HEO.out) (by simp; omega) (by simp; omega) ?_); intro v1 w5 ho1 hg1)
              have HO1 := Lib.hid ho1; clear ho1
              have HG1 := Lib.hid (egrown_below (HBP.out.alloc (by omega) (.cells #[.int .u8 e.id,.int .u8 e.rep,.int .u32 e.seq,.int .u32 e.stamp,.int .i64 e.kind,.int .u8 e.cls,.int .u32 e.val] 62)) (HOP.out.alloc (.cells #[.int .u8 e.id,.int .u8 e.rep,.int .u32 e.seq,.int .u32 e.stamp,.int .i64 e.kind,.int .u8 e.cls,.int .u32 e.val] 62)) hg1 (Nat.le_refl _) (by simp; omega)); clear hg1
              go_wp2
              go_roundw
              case rel => exact ⟨k + 1,by go_num,by omega,by rw [(HST.out).1],Lib.hid ⟨by rw [HST2.out]; exact HO1.out,HG1.out⟩⟩
              case measure => simp [intOf]; omega
          · have hL : ltV ⟨x.rep,x.seq,x.stamp⟩ ⟨e.rep,e.seq,e.stamp⟩ = false := by simpa using hL
            have hls := HLS.out
            rw [hL] at hls
            have HLS := Lib.hid hls; clear hls
            rw [hL,Bool.false_or] at hrv
            by_cases hV : (⟨x.rep,x.seq,x.stamp⟩ : Vr) = ⟨e.rep,e.seq,e.stamp⟩
            · rw [decide_eq_true hV,Bool.true_and] at hrv
              simp only [Vr.mk.injEq] at hV
              have p1 : (x.rep == e.rep) = true := by simp [hV.1]
              have p2 : (x.seq == e.seq) = true := by simp [hV.2.1]
              have p3 : (x.stamp == e.stamp) = true := by simp [hV.2.2]
              clear hV hL
              by_cases hk2 : x.kind = 2
              · by_cases he2 : e.kind = 2
                · have hrp : repB e x = false := by rw [hrv]; simp [he2]
                  have r1 : (x.kind == 2) = true := by simp [hk2]
                  have r2 : (e.kind != 2) = false := by simp [he2]
                  have HST2 := Lib.hid (by have := HST.out.2; rw [if_neg (by rw [hrp]; simp)] at this; exact this); clear hrp hrv hk2 he2
                  go_wp2_with fail
                  refine (HLS.out _).mono ?_
                  rintro en w3 ⟨rfl,hb3⟩
                  have HB3 := Lib.hid ((HB.out.alloc (by omega) (.cells #[.int .u8 x.id,.int .u8 x.rep,.int .u32 x.seq,.int .u32 x.stamp,.int .i64 x.kind,.int .u8 x.cls,.int .u32 x.val] 62)).trans (hb3.mono (by simp; omega)))
                  have HO3 := Lib.hid ((HO.out.alloc (.cells #[.int .u8 x.id,.int .u8 x.rep,.int .u32 x.seq,.int .u32 x.stamp,.int .i64 x.kind,.int .u8 x.cls,.int .u32 x.val] 62)).below hb3)
                  obtain ⟨x0,x1,x2,x3,x4,x5,x6⟩ := (HXN.out.keep hb3 (by simp)).all0
                  clear e0 e1 e2 e3 e4 e5 e6
                  obtain ⟨e0,e1,e2,e3,e4,e5,e6⟩ := (HEN.out.keep hb3 (by simp; omega)).all0
                  have hz3 : wr.heap.size + 1 ≤ w3.heap.size := by have := hb3.size; simpa using this
                  have hl3 : w.heap.size < w3.heap.size := by omega
                  have hl4 : wr.heap.size < w3.heap.size := by omega
                  clear hb3
                  go_wp2_with (at_builtin; (refine append_ents rfl _ _ rfl wz.heap.size _ (outT zs e k) rfl (HO3.out.alloc _) _ _ [⟨x.id,x.rep,x.seq,x.stamp,x.kind,x.cls,x.val⟩] rfl (one_esl' _ _ x.id x.rep x.seq x.stamp x.kind x.cls x.val (by simp) HXO.out) (by simp; omega) (by simp; omega) ?_); intro v1 w5 ho1 hg1)
                  have HO1 := Lib.hid ho1; clear ho1
                  have HG1 := Lib.hid (egrown_below (HB3.out.alloc (by omega) (.cells #[.int .u8 x.id,.int .u8 x.rep,.int .u32 x.seq,.int .u32 x.stamp,.int .i64 x.kind,.int .u8 x.cls,.int .u32 x.val] 62)) (HO3.out.alloc (.cells #[.int .u8 x.id,.int .u8 x.rep,.int .u32 x.seq,.int .u32 x.stamp,.int .i64 x.kind,.int .u8 x.cls,.int .u32 x.val] 62)) hg1 (Nat.le_refl _) (by simp; omega)); clear hg1
                  go_wp2
                  go_roundw
                  case rel => exact ⟨k + 1,by go_num,by omega,by rw [(HST.out).1],Lib.hid ⟨by rw [HST2.out]; exact HO1.out,HG1.out⟩⟩
                  case measure => simp [intOf]; omega
                · have hrp : repB e x = true := by rw [hrv]; simp [hk2,he2]
                  have r1 : (x.kind == 2) = true := by simp [hk2]
                  have r2 : (e.kind != 2) = true := by simp [he2]
                  have HST2 := Lib.hid (by have := HST.out.2; rw [if_pos hrp] at this; exact this); clear hrp hrv hk2 he2
                  go_wp2_with fail
                  refine (HLS.out _).mono ?_
                  rintro en w3 ⟨rfl,hb3⟩
                  have HB3 := Lib.hid ((HB.out.alloc (by omega) (.cells #[.int .u8 x.id,.int .u8 x.rep,.int .u32 x.seq,.int .u32 x.stamp,.int .i64 x.kind,.int .u8 x.cls,.int .u32 x.val] 62)).trans (hb3.mono (by simp; omega)))
                  have HO3 := Lib.hid ((HO.out.alloc (.cells #[.int .u8 x.id,.int .u8 x.rep,.int .u32 x.seq,.int .u32 x.stamp,.int .i64 x.kind,.int .u8 x.cls,.int .u32 x.val] 62)).below hb3)
                  obtain ⟨x0,x1,x2,x3,x4,x5,x6⟩ := (HXN.out.keep hb3 (by simp)).all0
                  clear e0 e1 e2 e3 e4 e5 e6
                  obtain ⟨e0,e1,e2,e3,e4,e5,e6⟩ := (HEN.out.keep hb3 (by simp; omega)).all0
                  have hz3 : wr.heap.size + 1 ≤ w3.heap.size := by have := hb3.size; simpa using this
                  have hl3 : w.heap.size < w3.heap.size := by omega
                  have hl4 : wr.heap.size < w3.heap.size := by omega
                  have HXN3 := Lib.hid (HXN.out.keep hb3 (by simp))
                  have fz := fun j => (hb3.frozen (p := ⟨wr.heap.size,j,none⟩) (by simp)).trans (frozen_of_row _ _ j _ _ (heap_alloc_new wr _))
                  clear hb3
                  go_upto_region 13 with fail
                  go_cut [59] (fun _ wx => Hid (wx = putEn w3 wr.heap.size 0 e))
                  case first =>
                    go_wp2
                    go_meet
                    case rel => exact Lib.hid rfl
                  case rest =>
                    clear fz e0 e1 e2 e3 e4 e5 e6 x0 x1 x2 x3 x4 x5 x6
                    have HXE : Hid (EnAt wc wr.heap.size 0 e) := Lib.hid (by rw [hcut.out]; exact putEn_at HXN3.out e)
                    have HOP : Hid (EOwn wc wz.heap.size _ (outT zs e k)) := Lib.hid (by rw [hcut.out]; exact putEn_own HO3.out (g := wr.heap.size) (fun h => Nat.lt_irrefl _ (HOW.out _ h)) 0 e)
                    have HBP : Hid (Below wz.heap.size wz wc) := Lib.hid (by rw [hcut.out]; exact putEn_below HB3.out (g := wr.heap.size) (by omega) 0 e)
                    have hzp : w3.heap.size ≤ wc.heap.size := by rw [hcut.out,putEn_size]; exact Nat.le_refl _
                    clear hcut HXN3 HO3 HB3
                    obtain ⟨x0,x1,x2,x3,x4,x5,x6⟩ := HXE.out.all0
                    have hl5 : wr.heap.size < wc.heap.size := by omega
                    go_wp2_with (at_builtin; (refine append_ents rfl _ _ rfl wz.heap.size _ (outT zs e k) rfl (HOP.out.alloc _) _ _ [⟨e.id,e.rep,e.seq,e.stamp,e.kind,e.cls,e.val⟩] rfl (one_esl' _ _ e.id e.rep e.seq e.stamp e.kind e.cls e.val (by simp) HEO.out) (by simp; omega) (by simp; omega) ?_); intro v1 w5 ho1 hg1)
                    have HO1 := Lib.hid ho1; clear ho1
                    have HG1 := Lib.hid (egrown_below (HBP.out.alloc (by omega) (.cells #[.int .u8 e.id,.int .u8 e.rep,.int .u32 e.seq,.int .u32 e.stamp,.int .i64 e.kind,.int .u8 e.cls,.int .u32 e.val] 62)) (HOP.out.alloc (.cells #[.int .u8 e.id,.int .u8 e.rep,.int .u32 e.seq,.int .u32 e.stamp,.int .i64 e.kind,.int .u8 e.cls,.int .u32 e.val] 62)) hg1 (Nat.le_refl _) (by simp; omega)); clear hg1
                    go_wp2
                    go_roundw
                    case rel => exact ⟨k + 1,by go_num,by omega,by rw [(HST.out).1],Lib.hid ⟨by rw [HST2.out]; exact HO1.out,HG1.out⟩⟩
                    case measure => simp [intOf]; omega
              · have hrp : repB e x = false := by rw [hrv]; simp [hk2]
                have r1 : (x.kind == 2) = false := by simp [hk2]
                have HST2 := Lib.hid (by have := HST.out.2; rw [if_neg (by rw [hrp]; simp)] at this; exact this); clear hrp hrv hk2
                go_wp2_with fail
                refine (HLS.out _).mono ?_
                rintro en w3 ⟨rfl,hb3⟩
                have HB3 := Lib.hid ((HB.out.alloc (by omega) (.cells #[.int .u8 x.id,.int .u8 x.rep,.int .u32 x.seq,.int .u32 x.stamp,.int .i64 x.kind,.int .u8 x.cls,.int .u32 x.val] 62)).trans (hb3.mono (by simp; omega)))
                have HO3 := Lib.hid ((HO.out.alloc (.cells #[.int .u8 x.id,.int .u8 x.rep,.int .u32 x.seq,.int .u32 x.stamp,.int .i64 x.kind,.int .u8 x.cls,.int .u32 x.val] 62)).below hb3)
                obtain ⟨x0,x1,x2,x3,x4,x5,x6⟩ := (HXN.out.keep hb3 (by simp)).all0
                clear e0 e1 e2 e3 e4 e5 e6
                obtain ⟨e0,e1,e2,e3,e4,e5,e6⟩ := (HEN.out.keep hb3 (by simp; omega)).all0
                have hz3 : wr.heap.size + 1 ≤ w3.heap.size := by have := hb3.size; simpa using this
                have hl3 : w.heap.size < w3.heap.size := by omega
                have hl4 : wr.heap.size < w3.heap.size := by omega
                clear hb3
                go_wp2_with (at_builtin; (refine append_ents rfl _ _ rfl wz.heap.size _ (outT zs e k) rfl (HO3.out.alloc _) _ _ [⟨x.id,x.rep,x.seq,x.stamp,x.kind,x.cls,x.val⟩] rfl (one_esl' _ _ x.id x.rep x.seq x.stamp x.kind x.cls x.val (by simp) HXO.out) (by simp; omega) (by simp; omega) ?_); intro v1 w5 ho1 hg1)
                have HO1 := Lib.hid ho1; clear ho1
                have HG1 := Lib.hid (egrown_below (HB3.out.alloc (by omega) (.cells #[.int .u8 x.id,.int .u8 x.rep,.int .u32 x.seq,.int .u32 x.stamp,.int .i64 x.kind,.int .u8 x.cls,.int .u32 x.val] 62)) (HO3.out.alloc (.cells #[.int .u8 x.id,.int .u8 x.rep,.int .u32 x.seq,.int .u32 x.stamp,.int .i64 x.kind,.int .u8 x.cls,.int .u32 x.val] 62)) hg1 (Nat.le_refl _) (by simp; omega)); clear hg1
                go_wp2
                go_roundw
                case rel => exact ⟨k + 1,by go_num,by omega,by rw [(HST.out).1],Lib.hid ⟨by rw [HST2.out]; exact HO1.out,HG1.out⟩⟩
                case measure => simp [intOf]; omega
            · rw [decide_eq_false hV,Bool.false_and] at hrv
              have HST2 := Lib.hid (by have := HST.out.2; rw [if_neg (by rw [hrv]; simp)] at this; exact this); clear hrv hL
              rcases vr_ne' hV with p1 | ⟨p1,p2⟩ | ⟨p1,p2,p3⟩
              · clear hV
                go_wp2_with fail
                refine (HLS.out _).mono ?_
                rintro en w3 ⟨rfl,hb3⟩
                have HB3 := Lib.hid ((HB.out.alloc (by omega) (.cells #[.int .u8 x.id,.int .u8 x.rep,.int .u32 x.seq,.int .u32 x.stamp,.int .i64 x.kind,.int .u8 x.cls,.int .u32 x.val] 62)).trans (hb3.mono (by simp; omega)))
                have HO3 := Lib.hid ((HO.out.alloc (.cells #[.int .u8 x.id,.int .u8 x.rep,.int .u32 x.seq,.int .u32 x.stamp,.int .i64 x.kind,.int .u8 x.cls,.int .u32 x.val] 62)).below hb3)
                obtain ⟨x0,x1,x2,x3,x4,x5,x6⟩ := (HXN.out.keep hb3 (by simp)).all0
                clear e0 e1 e2 e3 e4 e5 e6
                obtain ⟨e0,e1,e2,e3,e4,e5,e6⟩ := (HEN.out.keep hb3 (by simp; omega)).all0
                have hz3 : wr.heap.size + 1 ≤ w3.heap.size := by have := hb3.size; simpa using this
                have hl3 : w.heap.size < w3.heap.size := by omega
                have hl4 : wr.heap.size < w3.heap.size := by omega
                clear hb3
                go_wp2_with (at_builtin; (refine append_ents rfl _ _ rfl wz.heap.size _ (outT zs e k) rfl (HO3.out.alloc _) _ _ [⟨x.id,x.rep,x.seq,x.stamp,x.kind,x.cls,x.val⟩] rfl (one_esl' _ _ x.id x.rep x.seq x.stamp x.kind x.cls x.val (by simp) HXO.out) (by simp; omega) (by simp; omega) ?_); intro v1 w5 ho1 hg1)
                have HO1 := Lib.hid ho1; clear ho1
                have HG1 := Lib.hid (egrown_below (HB3.out.alloc (by omega) (.cells #[.int .u8 x.id,.int .u8 x.rep,.int .u32 x.seq,.int .u32 x.stamp,.int .i64 x.kind,.int .u8 x.cls,.int .u32 x.val] 62)) (HO3.out.alloc (.cells #[.int .u8 x.id,.int .u8 x.rep,.int .u32 x.seq,.int .u32 x.stamp,.int .i64 x.kind,.int .u8 x.cls,.int .u32 x.val] 62)) hg1 (Nat.le_refl _) (by simp; omega)); clear hg1
                go_wp2
                go_roundw
                case rel => exact ⟨k + 1,by go_num,by omega,by rw [(HST.out).1],Lib.hid ⟨by rw [HST2.out]; exact HO1.out,HG1.out⟩⟩
                case measure => simp [intOf]; omega
              · clear hV
                go_wp2_with fail
                refine (HLS.out _).mono ?_
                rintro en w3 ⟨rfl,hb3⟩
                have HB3 := Lib.hid ((HB.out.alloc (by omega) (.cells #[.int .u8 x.id,.int .u8 x.rep,.int .u32 x.seq,.int .u32 x.stamp,.int .i64 x.kind,.int .u8 x.cls,.int .u32 x.val] 62)).trans (hb3.mono (by simp; omega)))
                have HO3 := Lib.hid ((HO.out.alloc (.cells #[.int .u8 x.id,.int .u8 x.rep,.int .u32 x.seq,.int .u32 x.stamp,.int .i64 x.kind,.int .u8 x.cls,.int .u32 x.val] 62)).below hb3)
                obtain ⟨x0,x1,x2,x3,x4,x5,x6⟩ := (HXN.out.keep hb3 (by simp)).all0
                clear e0 e1 e2 e3 e4 e5 e6
                obtain ⟨e0,e1,e2,e3,e4,e5,e6⟩ := (HEN.out.keep hb3 (by simp; omega)).all0
                have hz3 : wr.heap.size + 1 ≤ w3.heap.size := by have := hb3.size; simpa using this
                have hl3 : w.heap.size < w3.heap.size := by omega
                have hl4 : wr.heap.size < w3.heap.size := by omega
                clear hb3
                go_wp2_with (at_builtin; (refine append_ents rfl _ _ rfl wz.heap.size _ (outT zs e k) rfl (HO3.out.alloc _) _ _ [⟨x.id,x.rep,x.seq,x.stamp,x.kind,x.cls,x.val⟩] rfl (one_esl' _ _ x.id x.rep x.seq x.stamp x.kind x.cls x.val (by simp) HXO.out) (by simp; omega) (by simp; omega) ?_); intro v1 w5 ho1 hg1)
                have HO1 := Lib.hid ho1; clear ho1
                have HG1 := Lib.hid (egrown_below (HB3.out.alloc (by omega) (.cells #[.int .u8 x.id,.int .u8 x.rep,.int .u32 x.seq,.int .u32 x.stamp,.int .i64 x.kind,.int .u8 x.cls,.int .u32 x.val] 62)) (HO3.out.alloc (.cells #[.int .u8 x.id,.int .u8 x.rep,.int .u32 x.seq,.int .u32 x.stamp,.int .i64 x.kind,.int .u8 x.cls,.int .u32 x.val] 62)) hg1 (Nat.le_refl _) (by simp; omega)); clear hg1
                go_wp2
                go_roundw
                case rel => exact ⟨k + 1,by go_num,by omega,by rw [(HST.out).1],Lib.hid ⟨by rw [HST2.out]; exact HO1.out,HG1.out⟩⟩
                case measure => simp [intOf]; omega
              · clear hV
                go_wp2_with fail
                refine (HLS.out _).mono ?_
                rintro en w3 ⟨rfl,hb3⟩
                have HB3 := Lib.hid ((HB.out.alloc (by omega) (.cells #[.int .u8 x.id,.int .u8 x.rep,.int .u32 x.seq,.int .u32 x.stamp,.int .i64 x.kind,.int .u8 x.cls,.int .u32 x.val] 62)).trans (hb3.mono (by simp; omega)))
                have HO3 := Lib.hid ((HO.out.alloc (.cells #[.int .u8 x.id,.int .u8 x.rep,.int .u32 x.seq,.int .u32 x.stamp,.int .i64 x.kind,.int .u8 x.cls,.int .u32 x.val] 62)).below hb3)
                obtain ⟨x0,x1,x2,x3,x4,x5,x6⟩ := (HXN.out.keep hb3 (by simp)).all0
                clear e0 e1 e2 e3 e4 e5 e6
                obtain ⟨e0,e1,e2,e3,e4,e5,e6⟩ := (HEN.out.keep hb3 (by simp; omega)).all0
                have hz3 : wr.heap.size + 1 ≤ w3.heap.size := by have := hb3.size; simpa using this
                have hl3 : w.heap.size < w3.heap.size := by omega
                have hl4 : wr.heap.size < w3.heap.size := by omega
                clear hb3
                go_wp2_with (at_builtin; (refine append_ents rfl _ _ rfl wz.heap.size _ (outT zs e k) rfl (HO3.out.alloc _) _ _ [⟨x.id,x.rep,x.seq,x.stamp,x.kind,x.cls,x.val⟩] rfl (one_esl' _ _ x.id x.rep x.seq x.stamp x.kind x.cls x.val (by simp) HXO.out) (by simp; omega) (by simp; omega) ?_); intro v1 w5 ho1 hg1)
                have HO1 := Lib.hid ho1; clear ho1
                have HG1 := Lib.hid (egrown_below (HB3.out.alloc (by omega) (.cells #[.int .u8 x.id,.int .u8 x.rep,.int .u32 x.seq,.int .u32 x.stamp,.int .i64 x.kind,.int .u8 x.cls,.int .u32 x.val] 62)) (HO3.out.alloc (.cells #[.int .u8 x.id,.int .u8 x.rep,.int .u32 x.seq,.int .u32 x.stamp,.int .i64 x.kind,.int .u8 x.cls,.int .u32 x.val] 62)) hg1 (Nat.le_refl _) (by simp; omega)); clear hg1
                go_wp2
                go_roundw
                case rel => exact ⟨k + 1,by go_num,by omega,by rw [(HST.out).1],Lib.hid ⟨by rw [HST2.out]; exact HO1.out,HG1.out⟩⟩
                case measure => simp [intOf]; omega
        · have HST := Lib.hid (sD hid); clear sB sC sD
          have q1 : decide (e.id < x.id) = true := by simpa using hid
          have q2 : (x.id == e.id) = false := by simp; omega
          clear hid
          have HXN := Lib.hid (new_entry wr x 62)
          go_wp2_with (first | (at_builtin; (refine append_ents rfl _ _ rfl wz.heap.size _ (outT zs e k) rfl ((HO.out.alloc _).alloc _) _ _ [⟨e.id,e.rep,e.seq,e.stamp,e.kind,e.cls,e.val⟩] rfl (one_esl' _ _ e.id e.rep e.seq e.stamp e.kind e.cls e.val (by simp) HEO.out) (by simp; omega) (by simp; omega) ?_); intro v1 w5 ho1 hg1; obtain ⟨x0,x1,x2,x3,x4,x5,x6⟩ := ((HXN.out.keep (al1 _ (.cells #[.int .u8 e.id,.int .u8 e.rep,.int .u32 e.seq,.int .u32 e.stamp,.int .i64 e.kind,.int .u8 e.cls,.int .u32 e.val] 62)) (by simp)).grown hg1 (fun h => Nat.lt_irrefl _ (HOW.out _ h.symm))).all0; obtain ⟨f0,f1,f2,f3,f4,f5,f6⟩ := (HNE.out.keep (egrown_below ((HB.out.alloc (by omega) (.cells #[.int .u8 x.id,.int .u8 x.rep,.int .u32 x.seq,.int .u32 x.stamp,.int .i64 x.kind,.int .u8 x.cls,.int .u32 x.val] 62)).alloc (by simp; omega) (.cells #[.int .u8 e.id,.int .u8 e.rep,.int .u32 e.seq,.int .u32 e.stamp,.int .i64 e.kind,.int .u8 e.cls,.int .u32 e.val] 62)) ((HO.out.alloc (.cells #[.int .u8 x.id,.int .u8 x.rep,.int .u32 x.seq,.int .u32 x.stamp,.int .i64 x.kind,.int .u8 x.cls,.int .u32 x.val] 62)).alloc (.cells #[.int .u8 e.id,.int .u8 e.rep,.int .u32 e.seq,.int .u32 e.stamp,.int .i64 e.kind,.int .u8 e.cls,.int .u32 e.val] 62)) hg1 (Nat.le_refl _) (by simp; omega)) hwz).all0; have hs5 := hg1.size; have HG0 := Lib.hid (egrown_below ((HB.out.alloc (by omega) (.cells #[.int .u8 x.id,.int .u8 x.rep,.int .u32 x.seq,.int .u32 x.stamp,.int .i64 x.kind,.int .u8 x.cls,.int .u32 x.val] 62)).alloc (by simp; omega) (.cells #[.int .u8 e.id,.int .u8 e.rep,.int .u32 e.seq,.int .u32 e.stamp,.int .i64 e.kind,.int .u8 e.cls,.int .u32 e.val] 62)) ((HO.out.alloc (.cells #[.int .u8 x.id,.int .u8 x.rep,.int .u32 x.seq,.int .u32 x.stamp,.int .i64 x.kind,.int .u8 x.cls,.int .u32 x.val] 62)).alloc (.cells #[.int .u8 e.id,.int .u8 e.rep,.int .u32 e.seq,.int .u32 e.stamp,.int .i64 e.kind,.int .u8 e.cls,.int .u32 e.val] 62)) hg1 (Nat.le_refl _) (by simp; omega)); have HO0 := Lib.hid ho1; clear ho1 hg1; simp only [World.size_alloc] at hs5; have hl5 : (outT zs e k ++ [(⟨e.id,e.rep,e.seq,e.stamp,e.kind,e.cls,e.val⟩ : En)]).length ≤ 9100 := (by simp; omega)) | (at_builtin; (refine append_ents rfl _ _ rfl wz.heap.size _ _ rfl (HO0.out.alloc _) _ _ [⟨x.id,x.rep,x.seq,x.stamp,x.kind,x.cls,x.val⟩] rfl (one_esl' _ _ x.id x.rep x.seq x.stamp x.kind x.cls x.val (by simp) HXO.out) (by simp at hl5 ⊢; omega) (by simp; omega) ?_); intro v2 w6 ho2 hg2))
          have HO1 := Lib.hid ho2; clear ho2
          have HG1 := Lib.hid (egrown_below (HG0.out.alloc (by omega) (.cells #[.int .u8 x.id,.int .u8 x.rep,.int .u32 x.seq,.int .u32 x.stamp,.int .i64 x.kind,.int .u8 x.cls,.int .u32 x.val] 62)) (HO0.out.alloc (.cells #[.int .u8 x.id,.int .u8 x.rep,.int .u32 x.seq,.int .u32 x.stamp,.int .i64 x.kind,.int .u8 x.cls,.int .u32 x.val] 62)) hg2 (Nat.le_refl _) (by simp; omega)); clear hg2
          go_wp2
          go_roundw
          case rel => exact ⟨k + 1,by go_num,by omega,by rw [(HST.out).1],Lib.hid ⟨by rw [HST.out.2]; exact HO1.out,HG1.out⟩⟩
          case measure => simp [intOf]; omega
      · have HST := Lib.hid (st1 rfl); clear st1 st2
        have q1 : decide (e.id < x.id) = true := by simpa using HST.out.2.2
        have q2 : (x.id == e.id) = false := by have := HST.out.2.2; simp; omega
        go_wp2_with (at_builtin; (refine append_ents rfl _ _ rfl wz.heap.size _ (outT zs e k) rfl ((HO.out.alloc _).alloc _) _ _ [⟨x.id,x.rep,x.seq,x.stamp,x.kind,x.cls,x.val⟩] rfl (one_esl' _ _ x.id x.rep x.seq x.stamp x.kind x.cls x.val (by simp) HXO.out) (by simp; omega) (by simp; omega) ?_); intro v1 w5 ho1 hg1)
        have HO1 := Lib.hid ho1; clear ho1
        have HG1 := Lib.hid (egrown_below ((HB.out.alloc (by omega) (.cells #[.int .u8 x.id,.int .u8 x.rep,.int .u32 x.seq,.int .u32 x.stamp,.int .i64 x.kind,.int .u8 x.cls,.int .u32 x.val] 62)).alloc (by simp; omega) (.cells #[.int .u8 x.id,.int .u8 x.rep,.int .u32 x.seq,.int .u32 x.stamp,.int .i64 x.kind,.int .u8 x.cls,.int .u32 x.val] 62)) ((HO.out.alloc (.cells #[.int .u8 x.id,.int .u8 x.rep,.int .u32 x.seq,.int .u32 x.stamp,.int .i64 x.kind,.int .u8 x.cls,.int .u32 x.val] 62)).alloc (.cells #[.int .u8 x.id,.int .u8 x.rep,.int .u32 x.seq,.int .u32 x.stamp,.int .i64 x.kind,.int .u8 x.cls,.int .u32 x.val] 62)) hg1 (Nat.le_refl _) (by simp; omega)); clear hg1
        go_wp2
        go_roundw
        case rel => exact ⟨k + 1,by go_num,by omega,by rw [(HST.out).1],Lib.hid ⟨by rw [HST.out.2.1]; exact HO1.out,HG1.out⟩⟩
        case measure => simp [intOf]; omega
    · obtain rfl : k = zs.length := by omega
      obtain ⟨pt,hpt⟩ : ∃ pt,putT zs e zs.length = pt := ⟨_,rfl⟩
      have hend := HEND.out
      rw [hpt] at hend ⊢
      clear hpt
      cases pt
      · have HE2 := Lib.hid (by rw [if_neg (by simp)] at hend; exact hend); clear hend
        go_wp2_with (at_builtin; (refine append_ents rfl _ _ rfl wz.heap.size _ (outT zs e zs.length) rfl (HO.out.alloc _) _ _ [⟨e.id,e.rep,e.seq,e.stamp,e.kind,e.cls,e.val⟩] rfl (one_esl' _ _ e.id e.rep e.seq e.stamp e.kind e.cls e.val (by simp) HEO.out) (by simp; omega) (by simp; omega) ?_); intro v1 w5 ho1 hg1)
        have HO1 := Lib.hid ho1; clear ho1
        have HG1 := Lib.hid (egrown_below (HB.out.alloc (by omega) (.cells #[.int .u8 e.id,.int .u8 e.rep,.int .u32 e.seq,.int .u32 e.stamp,.int .i64 e.kind,.int .u8 e.cls,.int .u32 e.val] 62)) (HO.out.alloc (.cells #[.int .u8 e.id,.int .u8 e.rep,.int .u32 e.seq,.int .u32 e.stamp,.int .i64 e.kind,.int .u8 e.cls,.int .u32 e.val] 62)) hg1 (Nat.le_refl _) (by simp; omega)); clear hg1
        go_wp2
        go_ret
        have hsl := HO1.out.sl (fun u hu => by
          rcases List.mem_append.1 hu with h1 | h1
          · exact HOK.out _ u h1
          · rw [List.mem_singleton.1 h1]; exact HEO.out)
        rw [show outT zs e zs.length ++ [(⟨e.id,e.rep,e.seq,e.stamp,e.kind,e.cls,e.val⟩ : En)] = T from HE2.out] at hsl
        exact ⟨v1,rfl,hsl,HAL.out.trans (HG1.out.mono (by omega))⟩
      · have HE2 := Lib.hid (by rw [if_pos rfl] at hend; exact hend); clear hend
        go_wp2
        go_ret
        have := HO.out.sl (HOK.out _)
        rw [HE2.out] at this
        exact ⟨_,rfl,this,HAL.out.trans (HB.out.mono (by omega))⟩
end Go.Proofs.YtfjaeohfigcciabGreatDoor

