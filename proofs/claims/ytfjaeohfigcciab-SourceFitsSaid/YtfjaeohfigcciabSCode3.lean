/- What is due comes by a function: the contract of the closure. -/
import Derived.Test.YtfjaeohfigcciabSCode2b
import Derived.RangeFuncNested
import Derived.RangeFuncBound
import Derived.RangeFuncCalls
import Derived.RangeFuncLeaves
import Derived.RangeFuncBox
import Derived.Shelf.Abstract
import Derived.Shelf.RegionOpen
import Derived.WalkKit
import Derived.OwnWalkIn
import Derived.TacticsInMore
import Derived.LoopNIn
import Derived.LoopIn
namespace Go.Proofs.Ytfjaeohfigcciab
open Go.RowKit Go.Shelf
attribute [local go_sem] Oper.semAt_some

abbrev EnX := { x : En // x.ok }
theorem grown_none {W W' : World} (h : Below W.heap.size W W') : W.grownBy W' none := ⟨h.os, h.tape, h.output, h.size, fun k hk _ => h.block k hk⟩
/-- what a round must keep: all that lay ahead of the caller, and the note's own block -/
def KpD (n0 Bp : Nat) (W W' : World) : Prop := Below n0 W W' ∧ ∀ o, W.heap[Bp]? = some o → W'.heap[Bp]? = some o
theorem KpD.trans {n0 Bp : Nat} {A B C : World} (h : KpD n0 Bp A B) (k : KpD n0 Bp B C) : KpD n0 Bp A C := ⟨h.1.trans k.1, fun o ho => k.2 o (h.2 o ho)⟩
theorem KpD.of {n0 Bp : Nat} {W W' : World} (h : Below W.heap.size W W') (hn : n0 ≤ W.heap.size) : KpD n0 Bp W W' := ⟨h.mono hn, fun o ho => (h.block Bp (Array.getElem?_eq_some_iff.1 ho).1).trans ho⟩
theorem KpD.blk {n0 Bp : Nat} {W W' : World} {cs : Array Value} {t : TypeId} (h : KpD n0 Bp W W') (k : Blk W Bp cs t) : Blk W' Bp cs t := ⟨h.2 _ k.at_⟩

theorem due_take {held : List En} {k : Nat} {x : En} (p : Nt) (h : held[k]? = some x) : (held.take (k + 1)).filter (dueB p) = (held.take k).filter (dueB p) ++ (if dueB p x = true then [x] else []) := by
  rw [List.take_add_one, h, List.filter_append]
  congr 1
  simp only [Option.toList_some, List.filter_cons, List.filter_nil]
theorem due_pre {held : List En} (k : Nat) (p : Nt) : (held.take k).filter (dueB p) <+: held.filter (dueB p) := (List.take_prefix k held).filter _

set_option maxRecDepth 100000 in
set_option maxHeartbeats 8000000 in
theorem sdue1_in (n : Nat) (hn : 1 ≤ n) (l Br Bp n0 : Nat) (r : Rp) (p : Nt) (lr ln : Ls) (J Jx : List EnX → World → Prop)
    (hY : ∀ pre x W, J pre W → pre.length < (r.held.filter (dueB p)).length → YieldAt Fence.wide (n - 1) Try.prog l #[x.1.agg] W fun e W' =>
      (e = .returned (.bool true) ∧ J (pre ++ [x]) W' ∧ KpD n0 Bp W W') ∨ (e = .returned (.bool false) ∧ Jx (pre ++ [x]) W'))
    (W : World) (hJ : AbidesFrom W.heap.size J) (BR : Blk W Br (repR r lr) 28) (BP : Blk W Bp (noteR p ln) 30) (hn0 : n0 ≤ W.heap.size)
    (hu : NtV W n0 (.agg (noteR p ln)) p) (hh : ESl W n0 (.slice lr.b r.held.length lr.j) r.held) (hl : r.held.length ≤ 1000) (h0 : J [] W) :
    CallsIn Fence.wide n Try.prog 26 #[.func (.yield l) #[] #[], .pointer (some ⟨Br, 0, none⟩), .pointer (some ⟨Bp, 0, none⟩)] W fun e W' => (∃ v, e = .returned v) ∧
      ((∃ ys : List EnX, ys.map Subtype.val = r.held.filter (dueB p) ∧ J ys W') ∨ (∃ pre : List EnX, pre.map Subtype.val <+: r.held.filter (dueB p) ∧ Jx pre W')) := by
  have BR5 := BR.cell 5 (.slice lr.b r.held.length lr.j) rfl
  have HY := Lib.hid hY
  have HJ := Lib.hid hJ
  have HU := Lib.hid hu
  have HBP := Lib.hid BP
  have HH := Lib.hid hh
  have HL := Lib.hid hl
  obtain ⟨A, c, hA0, _, hok, hA⟩ := hh
  cases hA0
  have HOK := Lib.hid hok
  have HA := Lib.hid hA
  clear hok hA hY hJ hu BP hl BR
  refine callsIn_of_wp Try.func26 rfl trivial ?_ rfl
  simp only [Try.ntmps26, List.size_toArray, List.length_cons, List.length_nil, Nat.reduceAdd, Nat.reduceSub, Array.replicate_succ, Array.replicate_zero, List.push_toArray, List.append_toArray, List.nil_append, List.cons_append]
  gi_wp2
  gi_loopw [9] (fun i wr => ∃ (k : Nat) (pre : List EnX), i = .int .i64 k ∧ k ≤ r.held.length ∧ pre.map Subtype.val = (r.held.take k).filter (dueB p) ∧ J pre wr ∧ Below n0 W wr ∧ Blk wr Bp (noteR p ln) 30) (fun i _ => r.held.length - (intOf i).toNat)
  case atStart => exact ⟨0, [], rfl, Nat.zero_le _, by simp, h0, Below.refl _ _, HBP.out⟩
  case round =>
    rename World => wr
    obtain ⟨k, pre, rfl, hk, hpre, hj, hb, hbp⟩ := hrel
    have hl := HL.out
    by_cases hlt : k < r.held.length
    · obtain ⟨b, off, hAd, hbw, hc⟩ := HA.out (by intro h; simp [h] at hlt)
      have hxk : r.held[k]? = some r.held[k] := List.getElem?_eq_getElem hlt
      generalize r.held[k] = x at hxk
      have HX := Lib.hid (HOK.out x (List.mem_of_getElem? hxk))
      obtain ⟨c0, c1, c2, c3, c4, c5, c6⟩ := ((hc k x hxk).keep hb hbw).all
      rw [hAd]
      have lp : Bp < wr.heap.size := hbp.lt
      have d0 := hbp.cell 0 (.int .i64 p.kind) rfl
      have d1 := hbp.cell 1 (.int .u8 p.src) rfl
      have d2 := hbp.cell 2 (.int .u8 p.dst) rfl
      have d3 := hbp.cell 3 (.int .u32 p.num) rfl
      have d4 := hbp.cell 4 (.int .u8 p.cur) rfl
      have d5 := hbp.cell 5 (.int .u8 p.flt) rfl
      have d6 := hbp.cell 6 (.slice ln.a p.know.length ln.i) rfl
      have d7 := hbp.cell 7 (.int .u32 p.epoch) rfl
      have d8 := hbp.cell 8 (.slice ln.b p.ents.length ln.j) rfl
      have d9 := hbp.cell 9 (.int .u8 p.next) rfl
      have d10 := hbp.cell 10 (.bool p.done) rfl
      have d11 := hbp.cell 11 (.slice ln.c p.offer.length ln.k) rfl
      have hbe := al1 wr (.cells #[.int .u8 x.id, .int .u8 x.rep, .int .u32 x.seq, .int .u32 x.stamp, .int .i64 x.kind, .int .u8 x.cls, .int .u32 x.val] 43)
      have BE := Lib.hid (Blk.new wr #[.int .u8 x.id, .int .u8 x.rep, .int .u32 x.seq, .int .u32 x.stamp, .int .i64 x.kind, .int .u8 x.cls, .int .u32 x.val] 43)
      have HBE := Lib.hid hbe
      have hun := (HU.out.below hb).below (hbe.mono (Nat.le_trans hn0 (by have := hb.size; omega)))
      have HIS := Lib.hid (sisDue_any x (.agg (noteR p ln)) p _ (hun.more (Nat.le_trans (Nat.le_trans hn0 hb.size) hbe.size)))
      unfold noteR noteRow Nt.cells at HIS
      simp only [En.agg] at HIS
      clear hun hbe
      have HD := Lib.hid (due_take p hxk)
      have HPK := Lib.hid (due_pre (held := r.held) (k + 1) p)
      have HJW := Lib.hid hj
      have HBW := Lib.hid hb
      have HBP2 := Lib.hid hbp
      clear hc hxk
      have HPRE := Lib.hid hpre
      clear hpre hb hbp
      gi_wp2_with fail
      refine ⟨trivial, (callsIn_wide.2 HIS.out).mono ?_⟩
      rintro e w2 ⟨rfl, hb2⟩
      have BE2 := Lib.hid (BE.out.keep hb2)
      have HB2 := Lib.hid (HBE.out.trans (hb2.mono HBE.out.size))
      have HJ2 := Lib.hid (HJ.out pre wr w2 none hj (grown_none HB2.out) (fun _ h => by cases h))
      have HBP3 := Lib.hid (HBP2.out.keep HB2.out)
      clear hb2 hj c0 c1 c2 c3 c4 c5 c6 d0 d1 d2 d3 d4 d5 d6 d7 d8 d9 d10 d11
      obtain ⟨q, hq⟩ : ∃ q : Bool, dueB p x = q := ⟨_, rfl⟩
      have HQ := Lib.hid hq
      rw [hq]
      clear hq
      cases q
      · gi_wp2_with fail
        refine ⟨fun _ h => (by cases h), ?_⟩
        gi_wp2_with fail
        go_roundw
        case rel =>
          refine ⟨k + 1, pre, by go_num, by omega, ?_, HJ2.out, HBW.out.trans (HB2.out.mono (Nat.le_trans hn0 HBW.out.size)), HBP3.out⟩
          rw [HD.out, HQ.out, HPRE.out]
          simp
        case measure => simp [intOf]; omega
      · have e0 := BE2.out.cell 0 (.int .u8 x.id) rfl
        have e1 := BE2.out.cell 1 (.int .u8 x.rep) rfl
        have e2 := BE2.out.cell 2 (.int .u32 x.seq) rfl
        have e3 := BE2.out.cell 3 (.int .u32 x.stamp) rfl
        have e4 := BE2.out.cell 4 (.int .i64 x.kind) rfl
        have e5 := BE2.out.cell 5 (.int .u8 x.cls) rfl
        have e6 := BE2.out.cell 6 (.int .u32 x.val) rfl
        have HD2 := Lib.hid (show (r.held.take (k + 1)).filter (dueB p) = (pre ++ [(⟨x, HX.out⟩ : EnX)]).map Subtype.val by rw [HD.out, HQ.out, ← HPRE.out]; simp)
        obtain ⟨fn, tmps, assign, body, hy, hR⟩ := HY.out pre ⟨x, HX.out⟩ w2 HJ2.out (by
          have h1 := HPK.out
          rw [HD2.out] at h1
          have h2 := h1.length_le
          simp at h2
          omega)
        try dsimp only [En.agg] at hy
        gi_wp2_with fail
        refine hR.mono ?_
        rintro e W3 (⟨rfl, hJ3, hk3⟩ | ⟨rfl, hJx3⟩)
        · have HK3 := Lib.hid hk3
          have HJ3 := Lib.hid hJ3
          clear hk3 hJ3 hy hR
          gi_wp2_with fail
          go_roundw
          case rel =>
            exact ⟨k + 1, pre ++ [⟨x, HX.out⟩], by go_num, by omega, HD2.out.symm, HJ3.out, (HBW.out.trans (HB2.out.mono (Nat.le_trans hn0 HBW.out.size))).trans HK3.out.1, HK3.out.blk HBP3.out⟩
          case measure => simp [intOf]; omega
        · have HX3 := Lib.hid hJx3
          clear hJx3 hy hR
          gi_wp2_with fail
          refine bodyPost_ret (results_none rfl _ _ _) rfl ?_
          exact ⟨⟨_, rfl⟩, .inr ⟨pre ++ [⟨x, HX.out⟩], by rw [← HD2.out]; exact HPK.out, HX3.out⟩⟩
    · have hkk : k = r.held.length := by omega
      rw [hkk, List.take_length] at hpre
      have HP := Lib.hid hpre
      have HJ4 := Lib.hid hj
      clear hpre hj hb hbp
      gi_wp2_with fail
      go_end0
      exact ⟨⟨_, rfl⟩, .inl ⟨pre, HP.out, HJ4.out⟩⟩
end Go.Proofs.Ytfjaeohfigcciab

