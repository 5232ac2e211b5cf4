/- Texts in one: TC8b. -/
import Derived.Test.YtfjaeohfigcciabGreatDoorQF29
set_option linter.unusedVariables false
set_option linter.unusedSimpArgs false
set_option linter.unusedSectionVars false
set_option linter.unnecessarySimpa false
namespace Go.Proofs.YtfjaeohfigcciabGreatDoor
open Go.RowKit

/-- behind a Batch that is taken -/
def bTake (r : Rp) (n : Nt) : Except Int Rp := match takesR r.flt n.ents r.know r.held with | .error c => .error c | .ok x => bEnd n (afterP r n x.1 x.2)
/-- where the loop stands -/
structure BhAt (w : World) (r : Rp) (n : Nt) (ln : Ls) (gA k : Nat) (K : List Rn) (H : List En) (lk : Ls) (wl : World) : Prop where
  took : takesR r.flt (n.ents.take k) r.know r.held = .ok (K, H)
  bn : Blk wl (w.heap.size + 1) (noteR n ln) 30
  bo : Blk wl (w.heap.size + 1 + 1) #[.int .u8 0, .int .u8 0, .int .u32 0, .int .u32 0, .slice none 0 0, .slice none 0 0, .bool false, .int .u32 0, .int .u8 0, .int .u8 0, .int .u32 0, .slice none 0 0, .int .u32 0] 28
  ba : Blk wl gA (repR (withK r K H) lk) 28
  val : RpV wl wl.heap.size (.agg (repR (withK r K H) lk)) (withK r K H)
  av : RpAv (fun k => k ≠ gA ∧ w.heap.size + 1 + 1 < k) (.agg (repR (withK r K H) lk)) (withK r K H)
  nt : NtV wl wl.heap.size (.agg (noteR n ln)) n
  bel : Below w.heap.size w wl
theorem ent_of (r : Rp) (K : List Rn) (H : List En) (x : En) : entR (withK r K H) x = match takesR r.flt [x] K H with | .ok y => .ok (withK r y.1 y.2) | .error c => .error c := rfl

set_option maxHeartbeats 16000000 in
set_option maxRecDepth 100000 in
theorem b_rest2 {w wf : World} {r : Rp} {n : Nt} {ln lc : Ls} {gA : Nat} (hbn : Blk wf (w.heap.size + 1) (noteR n ln) 30) (hbo : Blk wf (w.heap.size + 1 + 1) #[.int .u8 0, .int .u8 0, .int .u32 0, .int .u32 0, .slice none 0 0, .slice none 0 0, .bool false, .int .u32 0, .int .u8 0, .int .u8 0, .int .u32 0, .slice none 0 0, .int .u32 0] 28) (hba : Blk wf gA (repR r lc) 28) (hv : RpV wf wf.heap.size (.agg (repR r lc)) r)
    (ha : RpAv (fun k => k ≠ gA ∧ w.heap.size + 1 + 1 < k) (.agg (repR r lc)) r) (hb : Below w.heap.size w wf) (hlg : w.heap.size + 1 + 1 < gA) (hu : NtV wf wf.heap.size (.agg (noteR n ln)) n) (hua : NtAv (fun k => k < w.heap.size) (.agg (noteR n ln)) n) (hg3 : n.offer.length ≤ 10000)
    (hh : erightB r.held = true) (hhl : r.held.length ≤ 1000) (hne : erightB n.ents = true) (hnl : n.ents.length ≤ 1000) {u0 u1 u2 u6 u7 u8 u9 u10 u11 u12 u13 u14 u15 u16 u17 u18 u19 u20 u21 u22 u23 u24 u25 u26 u27 u28 u29 u30 u31 u32 u33 u34 u35 u36 u37 u38 u39 u40 u41 u42 u43 u44 u45 u46 u47 u48 u49 u50 u51 u52 u53 u54 u55 u56 : Value} :
    bRest2.wp Tryz.prog (bodyPost Tryz.prog Tryz.f32 (RepSure w (bTake r n))) { tmps := #[u0, u1, u2, .pointer (some ⟨w.heap.size + 1, 0, none⟩), .pointer (some ⟨w.heap.size + 1 + 1, 0, none⟩), .pointer (some ⟨gA, 0, none⟩), u6, u7, u8, u9, u10, u11, u12, u13, u14, u15, u16, u17, u18, u19, u20, u21, u22, u23, u24, u25, u26, u27, u28, u29, u30, u31, u32, u33, u34, u35, u36, u37, u38, u39, u40, u41, u42, u43, u44, u45, u46, u47, u48, u49, u50, u51, u52, u53, u54, u55, u56], defers := [] } wf := by
  have HNX := Lib.hid hu.isok.2.2.2.2.2.2.2.2.2.1
  have HNO := Lib.hid hu.sen.isok
  have HRH := Lib.hid (fun x hx => re_of_right hh x hx)
  have HRN := Lib.hid (fun x hx => re_of_right hne x hx)
  have HRI := Lib.hid (rise_of_right hh)
  have HL := Lib.hid (And.intro hhl hnl)
  have HUA := Lib.hid hua
  have HG3 := Lib.hid hg3
  have HLG := Lib.hid hlg
  have HR := Lib.hid (show bTake r n = match takesR r.flt n.ents r.know r.held with | .error c => .error c | .ok x => bEnd n (afterP r n x.1 x.2) from rfl)
  generalize bTake r n = R at HR ⊢
  have d8 := hbn.cell 8 (.slice ln.b n.ents.length ln.j) rfl
  have T0 := Lib.hid (show BhAt w r n ln gA 0 r.know r.held lc wf from ⟨rfl, hbn, hbo, hba, hv, ha, hu, hb⟩)
  clear hbn hbo hba hv ha hb hu hua hg3 hh hhl hne hnl hlg
  rw [b_cut3]
  unfold bFst2
  rw [fst2 (f := Tryz.f32) rfl]
  go_wp2_with fail
  clear d8
  go_loopw [17] (fun i wl => ∃ (k : Nat) (K : List Rn) (H : List En) (lk : Ls), i = .int .i64 k ∧ k ≤ n.ents.length ∧ BhAt w r n ln gA k K H lk wl) (fun i _ => n.ents.length - (intOf i).toNat)
  case atStart => exact ⟨0, r.know, r.held, lc, rfl, Nat.zero_le _, T0.out⟩
  case round =>
    rename World => wl
    obtain ⟨k, K, H, lk, rfl, hk, T⟩ := hrel
    have HT := Lib.hid T; clear T T0
    have hlen := HL.out.2
    by_cases hlt : k < n.ents.length
    · skip
      obtain ⟨x, hxk⟩ : ∃ x, n.ents[k]? = some x := ⟨_, List.getElem?_eq_getElem hlt⟩
      obtain ⟨be, oe, hA, hbe, hec⟩ := HT.out.nt.sen.at1 hxk
      have HX := Lib.hid hxk
      have hmem := List.mem_of_getElem? hxk
      have HXO := Lib.hid (HNO.out x hmem)
      have HXR := Lib.hid (HRN.out x hmem)
      have TB := tookB r.flt _ _ _ _ _ HRI.out HT.out.took
      have hHr : erightB H = true := right_of TB.rise (TB.good HRH.out fun y hy => HRN.out y (List.mem_of_mem_take hy))
      have hHl : H.length ≤ 8000 := by have h1 := TB.len; have h2 := HL.out; have h3 := List.length_take_le k n.ents; omega
      have HW := Lib.hid (al1 wl (.cells #[.int .u8 x.id, .int .u8 x.rep, .int .u32 x.seq, .int .u32 x.stamp, .int .i64 x.kind, .int .u8 x.cls, .int .u32 x.val] 62))
      have BE := Lib.hid (Blk.new wl #[.int .u8 x.id, .int .u8 x.rep, .int .u32 x.seq, .int .u32 x.stamp, .int .i64 x.kind, .int .u8 x.cls, .int .u32 x.val] 62)
      have HC := Lib.hid (tbehindEntry_any (fun k => k ≠ gA ∧ w.heap.size + 1 + 1 < k) (withK r K H) lk x (wl.alloc (.cells #[.int .u8 x.id, .int .u8 x.rep, .int .u32 x.seq, .int .u32 x.stamp, .int .i64 x.kind, .int .u8 x.cls, .int .u32 x.val] 62)) (HT.out.val.later HW.out) HT.out.av HXO.out HXR.out hHr hHl)
      rw [ent_of] at HC
      have HTN := Lib.hid (tc_next HX.out HT.out.took)
      have HTD := Lib.hid (fun c (h : takesR r.flt (n.ents.take (k + 1)) r.know r.held = .error c) => tc_dies h)
      simp only at HTN
      generalize takesR r.flt [x] K H = D at HC HTN
      simp only [En.agg] at HC
      have BA := Lib.hid (HT.out.ba.keep HW.out)
      have BN := Lib.hid (HT.out.bn.keep HW.out)
      have BO := Lib.hid (HT.out.bo.keep HW.out)
      have HN := Lib.hid (HT.out.nt.later HW.out)
      have HB := Lib.hid (HT.out.bel.trans (HW.out.mono HT.out.bel.size))
      have hi := rep_row_size (withK r K H) lk
      have hga := HT.out.ba.lt
      have HGA := Lib.hid hga
      obtain ⟨x0, x1, x2, x3, x4, x5, x6⟩ := hec.all
      clear hxk hec hmem TB hHr hHl hga
      generalize repR (withK r K H) lk = cs at HC BA hi
      rw [hA]
      clear hA
      go_upto_region 5 with fail
      clear x0 x1 x2 x3 x4 x5 x6
      have HGE := Lib.hid (show gA ≠ wl.heap.size by have := HGA.out; omega)
      generalize wl.alloc (.cells #[.int .u8 x.id, .int .u8 x.rep, .int .u32 x.seq, .int .u32 x.stamp, .int .i64 x.kind, .int .u8 x.cls, .int .u32 x.val] 62) = we at HC HW BE BA BN BO HN HB ⊢
      have HWS := Lib.hid HW.out.size
      generalize wl.heap.size = ge at BE HGE HGA HWS ⊢
      go_wp2_with (first
        | (refine wpList_load_row rfl _ _ rfl gA rfl 28 cs (0, 0) _ BA.out.at_ Tryz.underlying28 rfl hi ?_)
        | (refine wpList_load_row rfl _ _ rfl ge rfl 62 #[.int .u8 x.id, .int .u8 x.rep, .int .u32 x.seq, .int .u32 x.stamp, .int .i64 x.kind, .int .u8 x.cls, .int .u32 x.val] (0, 0) _ BE.out.at_ Tryz.underlying62 rfl be_size ?_))
      refine (HC.out).mono ?_
      cases D with
      | error c =>
        rintro e w5 ⟨rfl, hb⟩
        have hd := HTD.out c HTN.out
        have hR := HR.out
        rw [hd] at hR
        have hR : R = .error c := hR
        clear HR
        subst hR
        exact ⟨rfl, rfl, HB.out.trans (hb.mono HB.out.size)⟩
      | ok y =>
        rintro e w5 ⟨v5, rfl, hv5, ha5, hb⟩
        obtain ⟨l5, rfl⟩ := hv5.rows
        have hi5 := rep_row_size (withK r y.1 y.2) l5
        have ho5 := rep_row_one (withK r y.1 y.2) l5
        have hs5 : (repR (withK r y.1 y.2) l5).size = 13 := rfl
        have hcs : cs.size = 13 := by
          have := hi.symm.trans rep_size1
          simpa using this
        have BA := Lib.hid (BA.out.keep hb)
        have BN := Lib.hid (BN.out.keep hb)
        have BO := Lib.hid (BO.out.keep hb)
        have HN := Lib.hid (HN.out.later hb)
        have HB := Lib.hid (HB.out.trans (hb.mono HB.out.size))
        have ha6 : RpAv (fun k => k ≠ gA ∧ w.heap.size + 1 + 1 < k) (.agg (repR (withK r y.1 y.2) l5)) (withK r y.1 y.2) := ha5.mono fun j hj => by
          rcases hj with h | h
          · exact h
          · have h1 := HGA.out
            have h2 := HLG.out
            have h3 := HWS.out
            omega
        have NX := Lib.hid (show BhAt w r n ln gA (k + 1) y.1 y.2 l5 (w5.setRow gA (repR (withK r y.1 y.2) l5)) from by
          have hlg := HLG.out
          have hz : (w5.setRow gA (repR (withK r y.1 y.2) l5)).heap.size = w5.heap.size := by simp [World.setRow]
          have V := hv5.rowOff (g := gA) (ha6.mono fun j hj => hj.1) (repR (withK r y.1 y.2) l5)
          have N := HN.out.rowOff (g := gA) (HUA.out.mono fun j hj => by omega) (repR (withK r y.1 y.2) l5)
          rw [← hz] at V N
          exact ⟨HTN.out, BN.out.other (by omega) _, BO.out.other (by omega) _, BA.out.row _, V, ha6, N, below_setRow1 (B := w.heap.size) (r := gA) HB.out (by omega) _⟩)
        clear hb hv5 ha5 ha6
        generalize repR (withK r y.1 y.2) l5 = c5 at NX hi5 ho5 hs5 ⊢
        go_wp2_with (refine wpList_store_row rfl _ _ _ rfl gA c5 rfl rfl 28 cs BA.out.at_ hi5 (by rw [hs5, hcs]) ho5 ?_)
        go_roundw
        case rel => exact ⟨k + 1, y.1, y.2, l5, by go_num, by omega, NX.out⟩
        case measure => simp [intOf]; omega
    · have hkk : k = n.ents.length := by omega
      have ht : n.ents.take k = n.ents := List.take_of_length_le (by omega)
      have htk := HT.out.took
      rw [ht] at htk
      have hR := HR.out
      rw [htk] at hR
      have hR : R = bEnd n (afterP r n K H) := hR
      rw [hR]
      clear hR htk ht hkk HR
      go_wp2_with fail
      exact b_end3 rfl HT.out.bn HT.out.bo HT.out.ba HT.out.val HT.out.av HT.out.bel HLG.out HNX.out HT.out.nt HUA.out HG3.out
end Go.Proofs.YtfjaeohfigcciabGreatDoor

