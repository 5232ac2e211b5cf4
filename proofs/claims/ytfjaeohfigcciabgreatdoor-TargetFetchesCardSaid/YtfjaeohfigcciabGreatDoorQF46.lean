/- Texts in one: TFetches, SCode2b, SCode3, SCode4. -/
import Derived.RangeFuncNested
import Derived.RangeFuncBound
import Derived.RangeFuncCalls
import Derived.RangeFuncLeaves
import Derived.RangeFuncBox
import Derived.Shelf.Abstract
import Derived.Shelf.RegionOpen
import Derived.WalkKit
import Derived.OwnWalkIn
import Derived.TacticsInMore
import Derived.LoopNIn
import Derived.LoopIn
import Derived.Maps.AppendAt
import Derived.Test.YtfjaeohfigcciabGreatDoorQF41
import Derived.Test.YtfjaeohfigcciabGreatDoorQF43
import Derived.Test.YtfjaeohfigcciabGreatDoorQF45
import Derived.Test.YtfjaeohfigcciabGreatDoorQF19
import Derived.Test.YtfjaeohfigcciabGreatDoorQF28
import Derived.Test.YtfjaeohfigcciabGreatDoorQF00
set_option linter.unusedVariables false
set_option linter.unusedSimpArgs false
set_option linter.unusedSectionVars false
set_option linter.unnecessarySimpa false
namespace Go.Proofs.YtfjaeohfigcciabGreatDoor
open Go.RowKit

theorem tfetches_any (v u : Value) (r s : Rp) (w : World) (hv : RpV w w.heap.size v r) (hu : RpV w w.heap.size u s) (hg : ErrVar w) (haw : AwakeSaidE 6) (hbe : BeginSaid 14) (hdu : DueSaid 24) (han : AnswerIs 25) (hac : AcceptSaid 9) :
    Calls Tryz.prog 5 #[v, u] w fun e w' => e = .returned (.bool true) ∧ Below w.heap.size w w' := by
  by_cases h1 : shortR r
  · by_cases h2 : shortR s
    · cases h3 : rpB r with
      | false => exact fetch_early3 v u r s w hv hu hg haw hbe hdu han hac h1 h2 h3
      | true =>
        cases h4 : rpB s with
        | false => exact fetch_early4 v u r s w hv hu hg haw hbe hdu han hac h1 h2 h3 h4
        | true =>
          by_cases h5 : r.rep = s.rep
          · exact fetch_early5 v u r s w hv hu hg haw hbe hdu han hac h1 h2 h3 h4 (by simpa using h5)
          · by_cases hl : r.ses.last = 4294967295
            · exact fetch_full v u r s w hv hu hg haw hbe hdu han hac h1 h2 h3 h4 h5 hl
            · exact fetch_go v u r s w hv hu hg haw hbe hdu han hac h1 h2 h3 h4 h5 hl
    · exact fetch_early2 v u r s w hv hu hg haw hbe hdu han hac h1 h2
  · exact fetch_early1 v u r s w hv hu hg haw hbe hdu han hac h1
end Go.Proofs.YtfjaeohfigcciabGreatDoor

namespace Go.Proofs.YtfjaeohfigcciabGreatDoor
open Go.RowKit

theorem offer_skip {f : Int} {e : En} {es : List En} {k : List Rn} (h : ¬ (e.kind = 2 ∧ inB e f = true)) : offerR f (e :: es) k = offerR f es k := by
  rw [offerR, if_neg h]
theorem offer_drop {f : Int} {e : En} {es : List En} {k : List Rn} (h1 : e.kind = 2) (h2 : inB e f = true) : offerR f (e :: es) k = match dropR k e.rep e.seq with | .ok k' => offerR f es k' | .error c => .error c := by
  rw [offerR, if_pos ⟨h1, h2⟩]
  cases dropR k e.rep e.seq <;> rfl
theorem enok_seq {x : En} (h : x.ok) : 0 ≤ x.seq ∧ x.seq ≤ 4294967295 := by
  obtain ⟨_, h, _⟩ := h
  exact h.2.1
theorem RpV.knows {w : World} {B : Nat} {v : Value} {r : Rp} (h : RpV w B v r) : ∀ x ∈ r.know, x.ok := by
  obtain ⟨_, _, _, _, _, _, _, h⟩ := h
  exact h.2.2.2.2.1

set_option maxHeartbeats 8000000 in
set_option maxRecDepth 100000 in
theorem soffered_any (v : Value) (r : Rp) (f : Int) (w : World) (hv : RpV w w.heap.size v r) (hf : 0 ≤ f ∧ f ≤ 255) (h1 : r.know.length ≤ 1000) (h2 : r.held.length ≤ 1000) :
    Calls Tryz.prog 64 #[v, .int .u8 f] w (ResOwn w (offerR f r.held r.know)) := by
  have HC := Lib.hid (fun w1 (hb : Below w.heap.size w w1) vk (hk : Sl w1 w1.heap.size vk r.know) => rClone_any vk r.know w1 hk (by omega))
  have HK := Lib.hid (fun w1 (hb : Below w.heap.size w w1) => (show ∃ vk, v = v ∧ True from ⟨v, rfl, trivial⟩))
  clear HK
  have HV := Lib.hid hv
  obtain ⟨vk, vh, vo, rfl, ik, ih, io, iok⟩ := hv
  have IH := Lib.hid ih
  obtain ⟨Ak, ck, rfl, _⟩ := id ik
  obtain ⟨Ah, ch, rfl, _, hokH, hA⟩ := ih
  obtain ⟨Ao, co, rfl, _⟩ := io
  have HHA := Lib.hid hA
  have HOK := Lib.hid hokH
  have HF := Lib.hid hf
  have HL2 := Lib.hid h2
  have HCL := Lib.hid (fun w1 (hb : Below w.heap.size w w1) => HC.out w1 hb _ ((ik.below hb).more hb.size))
  clear hA hokH ik iok HC hf h1
  unfold Rp.cells
  generalize hD : offerR f r.held r.know = D
  have HD := Lib.hid hD; clear hD
  go_enter Tryz.func64, Tryz.ntmps64
  go_wp2_with fail
  refine (HCL.out _ (al1 _ _)).mono ?_
  rintro e w1 ⟨v1, rfl, ho1, hb⟩
  have HB := Lib.hid ((al1 w (.cells #[.int .u8 r.rep, .int .u8 r.flt, .int .u32 r.epoch, .int .u32 r.seq, .slice Ak r.know.length ck, .slice Ah r.held.length ch, .bool r.ses.on, .int .u32 r.ses.num, .int .u8 r.ses.src, .int .u8 r.ses.cur, .int .u32 r.ses.epoch, .slice Ao r.ses.offer.length co, .int .u32 r.ses.last] 28)).trans (hb.mono (al1 w (.cells #[.int .u8 r.rep, .int .u8 r.flt, .int .u32 r.epoch, .int .u32 r.seq, .slice Ak r.know.length ck, .slice Ah r.held.length ch, .bool r.ses.on, .int .u32 r.ses.num, .int .u8 r.ses.src, .int .u8 r.ses.cur, .int .u32 r.ses.epoch, .slice Ao r.ses.offer.length co, .int .u32 r.ses.last] 28)).size))
  have BR := Lib.hid ((Blk.new w #[.int .u8 r.rep, .int .u8 r.flt, .int .u32 r.epoch, .int .u32 r.seq, .slice Ak r.know.length ck, .slice Ah r.held.length ch, .bool r.ses.on, .int .u32 r.ses.num, .int .u8 r.ses.src, .int .u8 r.ses.cur, .int .u32 r.ses.epoch, .slice Ao r.ses.offer.length co, .int .u32 r.ses.last] 28).keep hb)
  have HS1 := Lib.hid (ho1.sl (fun x hx => HV.out.knows x hx))
  have HO1 := Lib.hid (show Own w1 w.heap.size v1 r.know from ho1.mono (by simp))
  clear ho1 hb
  have c5 := BR.out.cell 5 (.slice Ah r.held.length ch) rfl
  go_wp2_with fail
  clear c5
  go_loopw [6, 16] (fun s i wr => ∃ (k : Nat) (ks : List Rn) (sv : Value), sv = s ∧ i = .int .i64 k ∧ k ≤ r.held.length ∧ (Own wr w.heap.size sv ks ∧ Sl wr wr.heap.size sv ks) ∧ Hid (offerR f (r.held.drop k) ks = D) ∧ Below w1.heap.size w1 wr) (fun _ i _ => r.held.length - (intOf i).toNat)
  case atStart => exact ⟨0, r.know, _, rfl, rfl, Nat.zero_le _, ⟨HO1.out, HS1.out⟩, Lib.hid HD.out, Below.refl _ _⟩
  case round =>
    obtain ⟨k, ks, sv, rfl, rfl, hk, ⟨hown, hs⟩, hoff, hb⟩ := hrel
    have HOW := Lib.hid hown
    clear hown
    rename World => wr
    by_cases hlt : k < r.held.length
    · obtain ⟨b, off, rfl, hbw, hc⟩ := HHA.out (by intro h; simp [h] at hlt)
      have hxk : r.held[k]? = some r.held[k] := List.getElem?_eq_getElem hlt
      have hstep := hoff.out
      rw [List.drop_eq_getElem_cons hlt] at hstep
      generalize r.held[k] = x at hxk hstep
      have HX := Lib.hid (HOK.out x (List.mem_of_getElem? hxk))
      have hbx := HB.out.trans (hb.mono HB.out.size)
      obtain ⟨c0, c1, c2, c3, c4, c5, c6⟩ := ((hc k x hxk).keep hbx hbw).all
      have HST := Lib.hid hstep
      clear hc hxk hstep hoff
      have HS := Lib.hid hs
      have HBW := Lib.hid hb
      have IN := Lib.hid (fun w1 => iIn_any x f w1 HX.out HF.out)
      have h2' := HL2.out
      have HDR := Lib.hid (fun w1 (hb : Below wr.heap.size wr w1) => Drop_anyO sv ks x.rep x.seq w1 (enok_seq HX.out) ((HS.out.below hb).more hb.size))
      have HSV := Lib.hid (show True from trivial)
      obtain ⟨As, cs, rfl, _⟩ := hs
      clear hb hbx HSV
      obtain ⟨id, rep, seq, stamp, kind, cls, val⟩ := x
      simp only [En.agg] at *
      obtain ⟨kq, hkq⟩ : ∃ q : Bool, (kind != 2) = q := ⟨_, rfl⟩
      cases kq
      · skip
        obtain ⟨q, hq⟩ : ∃ q : Bool, inB ⟨id, rep, seq, stamp, kind, cls, val⟩ f = q := ⟨_, rfl⟩
        rw [hq] at IN
        have HQ := Lib.hid hq; clear hq
        have HKQ := Lib.hid hkq
        go_wp2_with fail
        have BE := Lib.hid (Blk.new wr #[.int .u8 id, .int .u8 rep, .int .u32 seq, .int .u32 stamp, .int .i64 kind, .int .u8 cls, .int .u32 val] 62)
        have HBE := Lib.hid (al1 wr (.cells #[.int .u8 id, .int .u8 rep, .int .u32 seq, .int .u32 stamp, .int .i64 kind, .int .u8 cls, .int .u32 val] 62))
        generalize wr.alloc (.cells #[.int .u8 id, .int .u8 rep, .int .u32 seq, .int .u32 stamp, .int .i64 kind, .int .u8 cls, .int .u32 val] 62) = we at BE HBE ⊢
        refine (IN.out _).mono ?_
        rintro e w3 ⟨rfl, hb⟩
        have BE := Lib.hid (BE.out.keep hb)
        have HBE := Lib.hid (HBE.out.trans (hb.mono HBE.out.size)); clear hb
        cases q
        · skip
          go_wp2_with fail
          go_roundw
          case rel =>
            refine ⟨k + 1, ks, _, rfl, by go_num, by omega, ⟨HOW.out.below HBE.out, (HS.out.below HBE.out).more HBE.out.size⟩, Lib.hid ?_, HBW.out.trans (HBE.out.mono HBW.out.size)⟩
            have := HST.out
            rw [offer_skip (by rw [HQ.out]; simp)] at this
            exact this
          case measure => simp [intOf]; omega
        · skip
          have e1 := BE.out.cell 1 (.int .u8 rep) rfl
          have e2 := BE.out.cell 2 (.int .u32 seq) rfl
          have hst := HST.out
          rw [offer_drop (by simpa using HKQ.out) HQ.out] at hst
          have HST := Lib.hid hst; clear hst
          generalize hdr : dropR ks rep seq = DR at HST HDR
          clear hdr
          go_wp2_with fail
          refine (HDR.out _ HBE.out).mono ?_
          cases DR with
          | ok l =>
            rintro e w4 ⟨v4, rfl, hv4, hb4⟩
            have H4 := Lib.hid (show Own w4 w.heap.size v4 l ∧ Sl w4 w4.heap.size v4 l from ⟨hv4.1.mono (Nat.le_trans HB.out.size (Nat.le_trans HBW.out.size HBE.out.size)), hv4.2⟩)
            have HB4 := Lib.hid (HBW.out.trans ((HBE.out.trans (hb4.mono HBE.out.size)).mono HBW.out.size))
            obtain ⟨A4, c4', rfl, _⟩ := hv4.2
            clear hb4
            go_wp2_with fail
            go_roundw
            case rel => exact ⟨k + 1, l, _, rfl, by go_num, by omega, H4.out, Lib.hid HST.out, HB4.out⟩
            case measure => simp [intOf]; omega
          | error cc =>
            rintro e w4 ⟨rfl, hb4⟩
            have HB4 := Lib.hid (HB.out.trans ((HBW.out.trans ((HBE.out.trans (hb4.mono HBE.out.size)).mono HBW.out.size)).mono HB.out.size))
            clear hb4
            go_wp2_with fail
            go_ret2
            have := HST.out
            subst this
            exact ⟨rfl, HB4.out⟩
      · skip
        have HKQ := Lib.hid hkq
        go_wp2_with fail
        go_roundw
        case rel =>
          refine ⟨k + 1, ks, _, rfl, by go_num, by omega, ⟨HOW.out.below (al1 _ _), (HS.out.below (al1 _ _)).more (al1 _ _).size⟩, Lib.hid ?_, HBW.out.trans ((al1 _ _).mono HBW.out.size)⟩
          have := HST.out
          rw [offer_skip (by simpa using fun h => absurd h (by simpa using HKQ.out))] at this
          exact this
        case measure => simp [intOf]; omega
    · have hkk : r.held.length ≤ k := by omega
      have hof := hoff.out
      rw [List.drop_eq_nil_of_le hkk] at hof
      have HS := Lib.hid hs
      have HB2 := Lib.hid (HB.out.trans (hb.mono HB.out.size))
      have HOF := Lib.hid hof
      obtain ⟨As, cs, rfl, _⟩ := hs
      clear hb hof hoff
      go_wp2_with fail
      go_ret2
      have hof := HOF.out
      unfold offerR at hof
      subst hof
      exact ⟨_, rfl, ⟨HOW.out, HS.out⟩, HB2.out⟩
end Go.Proofs.YtfjaeohfigcciabGreatDoor

namespace Go.Proofs.YtfjaeohfigcciabGreatDoor
open Go.RowKit Go.Shelf
attribute [local go_sem] Oper.semAt_some

abbrev EnX := { x : En // x.ok }
theorem grown_none {W W' : World} (h : Below W.heap.size W W') : W.grownBy W' none := ⟨h.os, h.tape, h.output, h.size, fun k hk _ => h.block k hk⟩
/-- what a round must keep: all that lay ahead of the caller, and the note's own block -/
def KpD (n0 Bp : Nat) (W W' : World) : Prop := Below n0 W W' ∧ ∀ o, W.heap[Bp]? = some o → W'.heap[Bp]? = some o
theorem KpD.trans {n0 Bp : Nat} {A B C : World} (h : KpD n0 Bp A B) (k : KpD n0 Bp B C) : KpD n0 Bp A C := ⟨h.1.trans k.1, fun o ho => k.2 o (h.2 o ho)⟩
theorem KpD.of {n0 Bp : Nat} {W W' : World} (h : Below W.heap.size W W') (hn : n0 ≤ W.heap.size) : KpD n0 Bp W W' := ⟨h.mono hn, fun o ho => (h.block Bp (Array.getElem?_eq_some_iff.1 ho).1).trans ho⟩
theorem KpD.blk {n0 Bp : Nat} {W W' : World} {cs : Array Value} {t : TypeId} (h : KpD n0 Bp W W') (k : Blk W Bp cs t) : Blk W' Bp cs t := ⟨h.2 _ k.at_⟩

theorem due_take {held : List En} {k : Nat} {x : En} (p : Nt) (h : held[k]? = some x) : (held.take (k + 1)).filter (dueB p) = (held.take k).filter (dueB p) ++ (if dueB p x = true then [x] else []) := by
  rw [List.take_add_one, h, List.filter_append]
  congr 1
  simp only [Option.toList_some, List.filter_cons, List.filter_nil]
theorem due_pre {held : List En} (k : Nat) (p : Nt) : (held.take k).filter (dueB p) <+: held.filter (dueB p) := (List.take_prefix k held).filter _

set_option maxRecDepth 100000 in
set_option maxHeartbeats 8000000 in
theorem sdue1_in (n : Nat) (hn : 1 ≤ n) (l Br Bp n0 : Nat) (r : Rp) (p : Nt) (lr ln : Ls) (J Jx : List EnX → World → Prop)
    (hY : ∀ pre x W, J pre W → pre.length < (r.held.filter (dueB p)).length → YieldAt Fence.wide (n - 1) Tryz.prog l #[x.1.agg] W fun e W' =>
      (e = .returned (.bool true) ∧ J (pre ++ [x]) W' ∧ KpD n0 Bp W W') ∨ (e = .returned (.bool false) ∧ Jx (pre ++ [x]) W'))
    (W : World) (hJ : AbidesFrom W.heap.size J) (BR : Blk W Br (repR r lr) 28) (BP : Blk W Bp (noteR p ln) 30) (hn0 : n0 ≤ W.heap.size)
    (hu : NtV W n0 (.agg (noteR p ln)) p) (hh : ESl W n0 (.slice lr.b r.held.length lr.j) r.held) (hl : r.held.length ≤ 1000) (h0 : J [] W) :
    CallsIn Fence.wide n Tryz.prog 98 #[.func (.yield l) #[] #[], .pointer (some ⟨Br, 0, none⟩), .pointer (some ⟨Bp, 0, none⟩)] W fun e W' => (∃ v, e = .returned v) ∧
      ((∃ ys : List EnX, ys.map Subtype.val = r.held.filter (dueB p) ∧ J ys W') ∨ (∃ pre : List EnX, pre.map Subtype.val <+: r.held.filter (dueB p) ∧ Jx pre W')) := by
  have BR5 := BR.cell 5 (.slice lr.b r.held.length lr.j) rfl
  have HY := Lib.hid hY
  have HJ := Lib.hid hJ
  have HU := Lib.hid hu
  have HBP := Lib.hid BP
  have HH := Lib.hid hh
  have HL := Lib.hid hl
  obtain ⟨A, c, hA0, _, hok, hA⟩ := hh
  cases hA0
  have HOK := Lib.hid hok
  have HA := Lib.hid hA
  clear hok hA hY hJ hu BP hl BR
  refine callsIn_of_wp Tryz.func98 rfl trivial ?_ rfl
  simp only [Tryz.ntmps98, List.size_toArray, List.length_cons, List.length_nil, Nat.reduceAdd, Nat.reduceSub, Array.replicate_succ, Array.replicate_zero, List.push_toArray, List.append_toArray, List.nil_append, List.cons_append]
  gi_wp2
  gi_loopw [9] (fun i wr => ∃ (k : Nat) (pre : List EnX), i = .int .i64 k ∧ k ≤ r.held.length ∧ pre.map Subtype.val = (r.held.take k).filter (dueB p) ∧ J pre wr ∧ Below n0 W wr ∧ Blk wr Bp (noteR p ln) 30) (fun i _ => r.held.length - (intOf i).toNat)
  case atStart => exact ⟨0, [], rfl, Nat.zero_le _, by simp, h0, Below.refl _ _, HBP.out⟩
  case round =>
    rename World => wr
    obtain ⟨k, pre, rfl, hk, hpre, hj, hb, hbp⟩ := hrel
    have hl := HL.out
    by_cases hlt : k < r.held.length
    · obtain ⟨b, off, hAd, hbw, hc⟩ := HA.out (by intro h; simp [h] at hlt)
      have hxk : r.held[k]? = some r.held[k] := List.getElem?_eq_getElem hlt
      generalize r.held[k] = x at hxk
      have HX := Lib.hid (HOK.out x (List.mem_of_getElem? hxk))
      obtain ⟨c0, c1, c2, c3, c4, c5, c6⟩ := ((hc k x hxk).keep hb hbw).all
      rw [hAd]
      have lp : Bp < wr.heap.size := hbp.lt
      have d0 := hbp.cell 0 (.int .i64 p.kind) rfl
      have d1 := hbp.cell 1 (.int .u8 p.src) rfl
      have d2 := hbp.cell 2 (.int .u8 p.dst) rfl
      have d3 := hbp.cell 3 (.int .u32 p.num) rfl
      have d4 := hbp.cell 4 (.int .u8 p.cur) rfl
      have d5 := hbp.cell 5 (.int .u8 p.flt) rfl
      have d6 := hbp.cell 6 (.slice ln.a p.know.length ln.i) rfl
      have d7 := hbp.cell 7 (.int .u32 p.epoch) rfl
      have d8 := hbp.cell 8 (.slice ln.b p.ents.length ln.j) rfl
      have d9 := hbp.cell 9 (.int .u8 p.next) rfl
      have d10 := hbp.cell 10 (.bool p.done) rfl
      have d11 := hbp.cell 11 (.slice ln.c p.offer.length ln.k) rfl
      have hbe := al1 wr (.cells #[.int .u8 x.id, .int .u8 x.rep, .int .u32 x.seq, .int .u32 x.stamp, .int .i64 x.kind, .int .u8 x.cls, .int .u32 x.val] 62)
      have BE := Lib.hid (Blk.new wr #[.int .u8 x.id, .int .u8 x.rep, .int .u32 x.seq, .int .u32 x.stamp, .int .i64 x.kind, .int .u8 x.cls, .int .u32 x.val] 62)
      have HBE := Lib.hid hbe
      have hun := (HU.out.below hb).below (hbe.mono (Nat.le_trans hn0 (by have := hb.size; omega)))
      have HIS := Lib.hid (sisDue_any x (.agg (noteR p ln)) p _ (hun.more (Nat.le_trans (Nat.le_trans hn0 hb.size) hbe.size)))
      unfold noteR noteRow Nt.cells at HIS
      simp only [En.agg] at HIS
      clear hun hbe
      have HD := Lib.hid (due_take p hxk)
      have HPK := Lib.hid (due_pre (held := r.held) (k + 1) p)
      have HJW := Lib.hid hj
      have HBW := Lib.hid hb
      have HBP2 := Lib.hid hbp
      clear hc hxk
      have HPRE := Lib.hid hpre
      clear hpre hb hbp
      gi_wp2_with fail
      refine ⟨trivial, (callsIn_wide.2 HIS.out).mono ?_⟩
      rintro e w2 ⟨rfl, hb2⟩
      have BE2 := Lib.hid (BE.out.keep hb2)
      have HB2 := Lib.hid (HBE.out.trans (hb2.mono HBE.out.size))
      have HJ2 := Lib.hid (HJ.out pre wr w2 none hj (grown_none HB2.out) (fun _ h => by cases h))
      have HBP3 := Lib.hid (HBP2.out.keep HB2.out)
      clear hb2 hj c0 c1 c2 c3 c4 c5 c6 d0 d1 d2 d3 d4 d5 d6 d7 d8 d9 d10 d11
      obtain ⟨q, hq⟩ : ∃ q : Bool, dueB p x = q := ⟨_, rfl⟩
      have HQ := Lib.hid hq
      rw [hq]
      clear hq
      cases q
      · gi_wp2_with fail
        refine ⟨fun _ h => (by cases h), ?_⟩
        gi_wp2_with fail
        go_roundw
        case rel =>
          refine ⟨k + 1, pre, by go_num, by omega, ?_, HJ2.out, HBW.out.trans (HB2.out.mono (Nat.le_trans hn0 HBW.out.size)), HBP3.out⟩
          rw [HD.out, HQ.out, HPRE.out]
          simp
        case measure => simp [intOf]; omega
      · have e0 := BE2.out.cell 0 (.int .u8 x.id) rfl
        have e1 := BE2.out.cell 1 (.int .u8 x.rep) rfl
        have e2 := BE2.out.cell 2 (.int .u32 x.seq) rfl
        have e3 := BE2.out.cell 3 (.int .u32 x.stamp) rfl
        have e4 := BE2.out.cell 4 (.int .i64 x.kind) rfl
        have e5 := BE2.out.cell 5 (.int .u8 x.cls) rfl
        have e6 := BE2.out.cell 6 (.int .u32 x.val) rfl
        have HD2 := Lib.hid (show (r.held.take (k + 1)).filter (dueB p) = (pre ++ [(⟨x, HX.out⟩ : EnX)]).map Subtype.val by rw [HD.out, HQ.out, ← HPRE.out]; simp)
        obtain ⟨fn, tmps, assign, body, hy, hR⟩ := HY.out pre ⟨x, HX.out⟩ w2 HJ2.out (by
          have h1 := HPK.out
          rw [HD2.out] at h1
          have h2 := h1.length_le
          simp at h2
          omega)
        try dsimp only [En.agg] at hy
        gi_wp2_with fail
        refine hR.mono ?_
        rintro e W3 (⟨rfl, hJ3, hk3⟩ | ⟨rfl, hJx3⟩)
        · have HK3 := Lib.hid hk3
          have HJ3 := Lib.hid hJ3
          clear hk3 hJ3 hy hR
          gi_wp2_with fail
          go_roundw
          case rel =>
            exact ⟨k + 1, pre ++ [⟨x, HX.out⟩], by go_num, by omega, HD2.out.symm, HJ3.out, (HBW.out.trans (HB2.out.mono (Nat.le_trans hn0 HBW.out.size))).trans HK3.out.1, HK3.out.blk HBP3.out⟩
          case measure => simp [intOf]; omega
        · have HX3 := Lib.hid hJx3
          clear hJx3 hy hR
          gi_wp2_with fail
          refine bodyPost_ret (results_none rfl _ _ _) rfl ?_
          exact ⟨⟨_, rfl⟩, .inr ⟨pre ++ [⟨x, HX.out⟩], by rw [← HD2.out]; exact HPK.out, HX3.out⟩⟩
    · have hkk : k = r.held.length := by omega
      rw [hkk, List.take_length] at hpre
      have HP := Lib.hid hpre
      have HJ4 := Lib.hid hj
      clear hpre hj hb hbp
      gi_wp2_with fail
      go_end0
      exact ⟨⟨_, rfl⟩, .inl ⟨pre, HP.out, HJ4.out⟩⟩
end Go.Proofs.YtfjaeohfigcciabGreatDoor

namespace Go.Proofs.YtfjaeohfigcciabGreatDoor
open Go.RowKit Go.Shelf
attribute [local go_sem] Oper.semAt_some

theorem sdue_stops (n : Nat) (hn : 1 ≤ n) (Br Bp n0 : Nat) (r : Rp) (p : Nt) (lr ln : Ls) (w : World) (BR : Blk w Br (repR r lr) 28) (BP : Blk w Bp (noteR p ln) 30) (hn0 : n0 ≤ w.heap.size)
    (hu : NtV w n0 (.agg (noteR p ln)) p) (hh : ESl w n0 (.slice lr.b r.held.length lr.j) r.held) (hl : r.held.length ≤ 1000) :
    SeqStopsK Fence.wide n Tryz.prog 98 #[.pointer (some ⟨Br, 0, none⟩), .pointer (some ⟨Bp, 0, none⟩)] (fun x : EnX => #[x.1.agg]) (KpD n0 Bp)
      (fun ys : List EnX => ys.map Subtype.val = r.held.filter (dueB p)) (fun pre : List EnX => pre.map Subtype.val <+: r.held.filter (dueB p)) (r.held.filter (dueB p)).length w := fun l J Jx W hW hJ _ hY h0 =>
  sdue1_in n hn l Br Bp n0 r p lr ln J Jx hY W hJ (BR.keep hW) (BP.keep hW) (Nat.le_trans hn0 hW.size) (hu.below (hW.mono hn0)) (hh.below (hW.mono hn0)) hl h0

set_option maxHeartbeats 4000000 in
set_option maxRecDepth 100000 in
/-- the closure that gives what is due has boxed both arguments -/
theorem sdue_any (r : Rp) (p : Nt) (lr ln : Ls) (w : World) :
    Calls Tryz.prog 61 #[.agg (repR r lr), .agg (noteR p ln)] w fun e w' => e = .returned (.func (.func 98) #[] #[.pointer (some ⟨w.heap.size, 0, none⟩), .pointer (some ⟨w.heap.size + 1, 0, none⟩)]) ∧
      w' = (w.alloc (.cells (repR r lr) 28)).alloc (.cells (noteR p ln) 30) := by
  unfold repR repRow Rp.cells noteR noteRow Nt.cells
  go_enter Tryz.func61, Tryz.ntmps61
  go_wp2_with fail
  go_ret
  exact ⟨rfl, rfl⟩

theorem blk_own {β : Type} (g : Nat) (cs : Array Value) (t : TypeId) : _root_.Go.Own (fun (_ : β) W => Blk W g cs t) := fun s X Y row hs hg hrow => ⟨(hg.block g hs.lt (fun e' => by
  obtain ⟨o, ho, hc⟩ := hrow g e'.symm
  rw [hs.at_] at ho; cases ho; cases hc)).trans hs.at_⟩

/-- an entry is put behind a slice of the call's own, in a round -/
theorem append_entIn {F : Fence} {n : Nat} {ops : Array Oper} {rest : List Oper} {o : Oper} {a : Act} {w : World} {Q : Exit → Act → World → Prop} (hgd : o.guard = none) (s x : Operand)
    (ho : o.op = .call { callee := .builtin .append, args := #[s, x], argTypes := #[24, 24] })
    (base : Nat) (v : Value) (zs : List En) (hs : a.eval s = v) (hown : EOwn w base v zs) (g c : Nat) (y : En) (hx : a.eval x = .slice (some ⟨g, 0, none⟩) 1 c) (hsl : EnAt w g 0 y)
    (hlen : zs.length + 1 ≤ 10000) (hbase : base ≤ w.heap.size)
    (h : ∀ v' w', EOwn w' base v' (zs ++ [y]) → w.grownBy w' v.ownBlock → wpListIn F n Tryz.prog ops Q rest (a.put o.dst v') w') : wpListIn F n Tryz.prog ops Q (o :: rest) a w := by
  obtain ⟨i0, hi, hz0, hz1, hz2⟩ := info_parts infoEnt
  refine wpListIn_append_own w hgd s x 24 ho base 62 i0 _ 7 32 Tryz.underlying24 hi hz0 hz1 hz2 rfl (by decide) v zs.length (flatE zs) hs hown ⟨g, 0, none⟩ 1 c (flatE [y]) hx (flatE_length [y]) ?_ (flatE_one_cell [y]) (by unfold maxLen; omega) (by omega) hbase ?_
  · intro j u hu
    have e : ∀ m, (⟨g, 0, none⟩ : Addr).add m = ⟨g, 0 + m, none⟩ := fun m => by unfold Addr.add; split <;> simp_all
    rw [e]
    refine flat_cells (zs := [y]) (fun j z hz => ?_) j u hu
    match j, hz with
    | 0, hz => simp at hz; subst hz; simpa using hsl
    | j + 1, hz => simp at hz
  · intro v' w' h1 h2 _
    refine h v' w' ?_ h2
    unfold EOwn
    rw [flatE_append, List.length_append]
    exact h1

theorem kpd_b {n0 Bp : Nat} {w : World} (hn : n0 ≤ w.heap.size) (hp : Bp < w.heap.size) : ∀ (W : World) (l : Nat) (o o' : Obj), w.heap.size ≤ l → W.heap[l]? = some o → o.isCells = false → o.isWalk = false → KpD n0 Bp W (W.putObj l o') :=
  fun W l o o' h1 h2 h3 h4 => ⟨belowK_b hn W l o o' h1 h2 h3 h4, fun o1 ho => (World.putObj_heap_other (by omega)).trans ho⟩
theorem RpV.heldSl {w : World} {B : Nat} {r : Rp} {lr : Ls} (h : RpV w B (.agg (repR r lr)) r) : ESl w B (.slice lr.b r.held.length lr.j) r.held := by
  obtain ⟨a, b, c, he, _, h2, _, _⟩ := h
  unfold repR repRow Rp.cells at he
  injection he with he
  injection he with he
  simp at he
  rw [he.2.1]
  exact h2
theorem RpV.helds {w : World} {B : Nat} {v : Value} {r : Rp} (h : RpV w B v r) : ∀ x ∈ r.held, x.ok := by
  obtain ⟨_, _, _, _, _, _, _, h⟩ := h
  exact h.2.2.2.2.2.1

set_option maxRecDepth 100000 in
set_option maxHeartbeats 8000000 in
theorem sDue_any (v u : Value) (r : Rp) (p : Nt) (w : World) (hv : RpV w w.heap.size v r) (hu : NtV w w.heap.size u p) (h1 : r.know.length ≤ 1000) (h2 : r.held.length ≤ 1000) (h3 : r.ses.offer.length ≤ 1000) :
    Calls Tryz.prog 24 #[v, u] w (DuePost w (dueR r p)) := by
  have HRF := Lib.hid (fun w1 (hb : Below w.heap.size w w1) => srefusal_any v u r p w1 (hv.later hb) (hu.later hb) h1 h2 h3)
  have HU := Lib.hid hu
  have HV := Lib.hid hv
  obtain ⟨lr, rfl⟩ := hv.rows
  obtain ⟨ln, rfl⟩ := hu.rows
  have HDU := Lib.hid (fun w1 => sdue_any r p lr ln w1)
  have HD := Lib.hid (due_refuse r p)
  have H2 := Lib.hid h2
  generalize dueR r p = D at HD ⊢
  clear hv hu h1 h2 h3
  unfold repR repRow Rp.cells at HRF HDU ⊢
  unfold noteR noteRow Nt.cells at HRF HDU ⊢
  refine (callsIn_wide (n := 5)).1 ?_
  refine callsIn_of_wp_marks Tryz.func24 rfl trivial ?_ rfl
  simp only [Tryz.ntmps24, List.size_toArray, List.length_cons, List.length_nil, Nat.reduceAdd, Nat.reduceSub, Array.replicate_succ, Array.replicate_zero, List.push_toArray, List.append_toArray, List.nil_append, List.cons_append]
  gi_wp2_with fail
  have HB := Lib.hid (al2 w (.cells #[.int .u8 r.rep, .int .u8 r.flt, .int .u32 r.epoch, .int .u32 r.seq, .slice lr.a r.know.length lr.i, .slice lr.b r.held.length lr.j, .bool r.ses.on, .int .u32 r.ses.num, .int .u8 r.ses.src, .int .u8 r.ses.cur, .int .u32 r.ses.epoch, .slice lr.c r.ses.offer.length lr.k, .int .u32 r.ses.last] 28) (.cells #[.int .i64 p.kind, .int .u8 p.src, .int .u8 p.dst, .int .u32 p.num, .int .u8 p.cur, .int .u8 p.flt, .slice ln.a p.know.length ln.i, .int .u32 p.epoch, .slice ln.b p.ents.length ln.j, .int .u8 p.next, .bool p.done, .slice ln.c p.offer.length ln.k] 30))
  have BR := Lib.hid ((Blk.new w #[.int .u8 r.rep, .int .u8 r.flt, .int .u32 r.epoch, .int .u32 r.seq, .slice lr.a r.know.length lr.i, .slice lr.b r.held.length lr.j, .bool r.ses.on, .int .u32 r.ses.num, .int .u8 r.ses.src, .int .u8 r.ses.cur, .int .u32 r.ses.epoch, .slice lr.c r.ses.offer.length lr.k, .int .u32 r.ses.last] 28).alloc (.cells #[.int .i64 p.kind, .int .u8 p.src, .int .u8 p.dst, .int .u32 p.num, .int .u8 p.cur, .int .u8 p.flt, .slice ln.a p.know.length ln.i, .int .u32 p.epoch, .slice ln.b p.ents.length ln.j, .int .u8 p.next, .bool p.done, .slice ln.c p.offer.length ln.k] 30))
  have BP := Lib.hid (blk_two w (.cells #[.int .u8 r.rep, .int .u8 r.flt, .int .u32 r.epoch, .int .u32 r.seq, .slice lr.a r.know.length lr.i, .slice lr.b r.held.length lr.j, .bool r.ses.on, .int .u32 r.ses.num, .int .u8 r.ses.src, .int .u8 r.ses.cur, .int .u32 r.ses.epoch, .slice lr.c r.ses.offer.length lr.k, .int .u32 r.ses.last] 28) #[.int .i64 p.kind, .int .u8 p.src, .int .u8 p.dst, .int .u32 p.num, .int .u8 p.cur, .int .u8 p.flt, .slice ln.a p.know.length ln.i, .int .u32 p.epoch, .slice ln.b p.ents.length ln.j, .int .u8 p.next, .bool p.done, .slice ln.c p.offer.length ln.k] 30)
  generalize (w.alloc (.cells #[.int .u8 r.rep, .int .u8 r.flt, .int .u32 r.epoch, .int .u32 r.seq, .slice lr.a r.know.length lr.i, .slice lr.b r.held.length lr.j, .bool r.ses.on, .int .u32 r.ses.num, .int .u8 r.ses.src, .int .u8 r.ses.cur, .int .u32 r.ses.epoch, .slice lr.c r.ses.offer.length lr.k, .int .u32 r.ses.last] 28)).alloc (.cells #[.int .i64 p.kind, .int .u8 p.src, .int .u8 p.dst, .int .u32 p.num, .int .u8 p.cur, .int .u8 p.flt, .slice ln.a p.know.length ln.i, .int .u32 p.epoch, .slice ln.b p.ents.length ln.j, .int .u8 p.next, .bool p.done, .slice ln.c p.offer.length ln.k] 30) = wz at HB BR BP ⊢
  refine ⟨trivial, (callsIn_wide.2 (HRF.out wz HB.out)).mono ?_⟩
  rintro e w1 ⟨rfl, hb⟩
  have BR := Lib.hid (BR.out.keep hb)
  have BP := Lib.hid (BP.out.keep hb)
  have HB := Lib.hid (HB.out.trans (hb.mono HB.out.size)); clear hb
  generalize refuseR r p = q at HD ⊢
  cases q with
  | some c =>
    unfold refV
    gi_wp2_with fail
    refine ⟨_, results_tmp2 rfl _ _ _, ?_⟩
    have hd : D = .error c := HD.out
    rw [hd]
    exact ⟨_, _, rfl, HB.out⟩
  | none =>
    unfold refV
    have c0 := BR.out.cell 0 (.int .u8 r.rep) rfl
    have c1 := BR.out.cell 1 (.int .u8 r.flt) rfl
    have c2 := BR.out.cell 2 (.int .u32 r.epoch) rfl
    have c3 := BR.out.cell 3 (.int .u32 r.seq) rfl
    have c4 := BR.out.cell 4 (.slice lr.a r.know.length lr.i) rfl
    have c5 := BR.out.cell 5 (.slice lr.b r.held.length lr.j) rfl
    have c6 := BR.out.cell 6 (.bool r.ses.on) rfl
    have c7 := BR.out.cell 7 (.int .u32 r.ses.num) rfl
    have c8 := BR.out.cell 8 (.int .u8 r.ses.src) rfl
    have c9 := BR.out.cell 9 (.int .u8 r.ses.cur) rfl
    have c10 := BR.out.cell 10 (.int .u32 r.ses.epoch) rfl
    have c11 := BR.out.cell 11 (.slice lr.c r.ses.offer.length lr.k) rfl
    have c12 := BR.out.cell 12 (.int .u32 r.ses.last) rfl
    have d0 := BP.out.cell 0 (.int .i64 p.kind) rfl
    have d1 := BP.out.cell 1 (.int .u8 p.src) rfl
    have d2 := BP.out.cell 2 (.int .u8 p.dst) rfl
    have d3 := BP.out.cell 3 (.int .u32 p.num) rfl
    have d4 := BP.out.cell 4 (.int .u8 p.cur) rfl
    have d5 := BP.out.cell 5 (.int .u8 p.flt) rfl
    have d6 := BP.out.cell 6 (.slice ln.a p.know.length ln.i) rfl
    have d7 := BP.out.cell 7 (.int .u32 p.epoch) rfl
    have d8 := BP.out.cell 8 (.slice ln.b p.ents.length ln.j) rfl
    have d9 := BP.out.cell 9 (.int .u8 p.next) rfl
    have d10 := BP.out.cell 10 (.bool p.done) rfl
    have d11 := BP.out.cell 11 (.slice ln.c p.offer.length ln.k) rfl
    have l1 : w.heap.size < w1.heap.size := BR.out.lt
    have l2 : w.heap.size + 1 < w1.heap.size := BP.out.lt
    gi_wp2_with fail
    refine ⟨trivial, (callsIn_wide.2 (HDU.out _)).mono ?_⟩
    rintro e w2 ⟨rfl, rfl⟩
    clear c0 c1 c2 c3 c4 c5 c6 c7 c8 c9 c10 c11 c12 d0 d1 d2 d3 d4 d5 d6 d7 d8 d9 d10 d11
    gi_wp2_with fail
    have BL := Lib.hid (((Boxed.new w1 24 (.slice none 0 0)).alloc (.cells #[.int .u8 r.rep, .int .u8 r.flt, .int .u32 r.epoch, .int .u32 r.seq, .slice lr.a r.know.length lr.i, .slice lr.b r.held.length lr.j, .bool r.ses.on, .int .u32 r.ses.num, .int .u8 r.ses.src, .int .u8 r.ses.cur, .int .u32 r.ses.epoch, .slice lr.c r.ses.offer.length lr.k, .int .u32 r.ses.last] 28)).alloc (.cells #[.int .i64 p.kind, .int .u8 p.src, .int .u8 p.dst, .int .u32 p.num, .int .u8 p.cur, .int .u8 p.flt, .slice ln.a p.know.length ln.i, .int .u32 p.epoch, .slice ln.b p.ents.length ln.j, .int .u8 p.next, .bool p.done, .slice ln.c p.offer.length ln.k] 30))
    have B3 := Lib.hid (blk_three w1 #[.slice none 0 0] 24 #[.int .u8 r.rep, .int .u8 r.flt, .int .u32 r.epoch, .int .u32 r.seq, .slice lr.a r.know.length lr.i, .slice lr.b r.held.length lr.j, .bool r.ses.on, .int .u32 r.ses.num, .int .u8 r.ses.src, .int .u8 r.ses.cur, .int .u32 r.ses.epoch, .slice lr.c r.ses.offer.length lr.k, .int .u32 r.ses.last] 28 #[.int .i64 p.kind, .int .u8 p.src, .int .u8 p.dst, .int .u32 p.num, .int .u8 p.cur, .int .u8 p.flt, .slice ln.a p.know.length ln.i, .int .u32 p.epoch, .slice ln.b p.ents.length ln.j, .int .u8 p.next, .bool p.done, .slice ln.c p.offer.length ln.k] 30)
    have HB0 := Lib.hid (HB.out.trans ((al3 w1 (.cells #[.slice none 0 0] 24) (.cells #[.int .u8 r.rep, .int .u8 r.flt, .int .u32 r.epoch, .int .u32 r.seq, .slice lr.a r.know.length lr.i, .slice lr.b r.held.length lr.j, .bool r.ses.on, .int .u32 r.ses.num, .int .u8 r.ses.src, .int .u8 r.ses.cur, .int .u32 r.ses.epoch, .slice lr.c r.ses.offer.length lr.k, .int .u32 r.ses.last] 28) (.cells #[.int .i64 p.kind, .int .u8 p.src, .int .u8 p.dst, .int .u32 p.num, .int .u8 p.cur, .int .u8 p.flt, .slice ln.a p.know.length ln.i, .int .u32 p.epoch, .slice ln.b p.ents.length ln.j, .int .u8 p.next, .bool p.done, .slice ln.c p.offer.length ln.k] 30)).mono HB.out.size))
    have hsz : (((w1.alloc (.cells #[.slice none 0 0] 24)).alloc (.cells #[.int .u8 r.rep, .int .u8 r.flt, .int .u32 r.epoch, .int .u32 r.seq, .slice lr.a r.know.length lr.i, .slice lr.b r.held.length lr.j, .bool r.ses.on, .int .u32 r.ses.num, .int .u8 r.ses.src, .int .u8 r.ses.cur, .int .u32 r.ses.epoch, .slice lr.c r.ses.offer.length lr.k, .int .u32 r.ses.last] 28)).alloc (.cells #[.int .i64 p.kind, .int .u8 p.src, .int .u8 p.dst, .int .u32 p.num, .int .u8 p.cur, .int .u8 p.flt, .slice ln.a p.know.length ln.i, .int .u32 p.epoch, .slice ln.b p.ents.length ln.j, .int .u8 p.next, .bool p.done, .slice ln.c p.offer.length ln.k] 30)).heap.size = w1.heap.size + 3 := by simp
    generalize ((w1.alloc (.cells #[.slice none 0 0] 24)).alloc (.cells #[.int .u8 r.rep, .int .u8 r.flt, .int .u32 r.epoch, .int .u32 r.seq, .slice lr.a r.know.length lr.i, .slice lr.b r.held.length lr.j, .bool r.ses.on, .int .u32 r.ses.num, .int .u8 r.ses.src, .int .u8 r.ses.cur, .int .u32 r.ses.epoch, .slice lr.c r.ses.offer.length lr.k, .int .u32 r.ses.last] 28)).alloc (.cells #[.int .i64 p.kind, .int .u8 p.src, .int .u8 p.dst, .int .u32 p.num, .int .u8 p.cur, .int .u8 p.flt, .slice ln.a p.know.length ln.i, .int .u32 p.epoch, .slice ln.b p.ents.length ln.j, .int .u8 p.next, .bool p.done, .slice ln.c p.offer.length ln.k] 30) = W0 at BL B3 HB0 hsz ⊢
    generalize Value.agg #[.int .u8 r.rep, .int .u8 r.flt, .int .u32 r.epoch, .int .u32 r.seq, .slice lr.a r.know.length lr.i, .slice lr.b r.held.length lr.j, .bool r.ses.on, .int .u32 r.ses.num, .int .u8 r.ses.src, .int .u8 r.ses.cur, .int .u32 r.ses.epoch, .slice lr.c r.ses.offer.length lr.k, .int .u32 r.ses.last] = VR
    generalize Value.agg #[.int .i64 p.kind, .int .u8 p.src, .int .u8 p.dst, .int .u32 p.num, .int .u8 p.cur, .int .u8 p.flt, .slice ln.a p.know.length ln.i, .int .u32 p.epoch, .slice ln.b p.ents.length ln.j, .int .u8 p.next, .bool p.done, .slice ln.c p.offer.length ln.k] = VN
    have hd : D = .ok (dueL r.held p.know p.cur) := HD.out
    subst hd
    clear HD HRF HDU BR BP
    have hl2 := H2.out
    have hw1 := HB.out.size
    clear HB
    have hN : (r.held.filter (dueB p)).length ≤ 1000 := Nat.le_trans (List.length_filter_le _ _) hl2
    have HHE := Lib.hid (show ESl w w.heap.size (.slice lr.b r.held.length lr.j) r.held from HV.out.heldSl)
    refine wpIn_rangeFunc_ownH rfl (by decide) (gf := 98) (lb := #[.pointer (some ⟨w1.heap.size + 1, 0, none⟩), .pointer (some ⟨w1.heap.size + 1 + 1, 0, none⟩)]) rfl trivial (enters_of Tryz.func98 (by kernel_rfl) rfl)
      (sdue_stops _ (by decide) (w1.heap.size + 1) (w1.heap.size + 1 + 1) w.heap.size r p lr ln W0 B3.out.2.1 B3.out.2.2 (by omega) (HU.out.below HB0.out) (HHE.out.below HB0.out) hl2) KpD.trans (kpd_b (by omega) (by omega)) (Below.refl _ _) (fun _ => rfl)
      (fun (pre : List EnX) W => ((∃ v, Boxed W w1.heap.size 24 v ∧ W.ownsRow w.heap.size 62 7 v (pre.map Subtype.val).length (flatE (pre.map Subtype.val)) ∧ True) ∧ Blk W (w1.heap.size + 1 + 1) (noteR p ln) 30) ∧ Below w.heap.size w W)
      (fun _ _ _ => False)
      (OwnFrom.and (OwnFrom.and (Own.from (holdsRow_own w.heap.size w1.heap.size 24 62 7 (fun pre : List EnX => (pre.map Subtype.val).length) (fun pre => flatE (pre.map Subtype.val)) (fun _ _ => True)) _) (Own.from (blk_own _ _ _) _)) (ownFrom_below (Nat.le_refl _) (by omega)))
      (fun _ _ _ _ _ hs _ _ => hs)
      ⟨⟨⟨_, BL.out, EOwn.nil W0 w.heap.size, trivial⟩, B3.out.2.2⟩, HB0.out⟩
      (fun x a' W => ∃ Bx, w1.heap.size + 2 < Bx ∧ Blk W Bx #[.int .u8 x.1.id, .int .u8 x.1.rep, .int .u32 x.1.seq, .int .u32 x.1.stamp, .int .i64 x.1.kind, .int .u8 x.1.cls, .int .u32 x.1.val] 62 ∧ a' = { tmps := #[VR, VN, .pointer (some ⟨w.heap.size, 0, none⟩), .pointer (some ⟨w.heap.size + 1, 0, none⟩), .slice none 0 0, .nilIface, .nilIface, .pointer (some ⟨w1.heap.size, 0, none⟩), .pointer (some ⟨Bx, 0, none⟩), VR, VN, .nilIface, .nilIface, .bool false, undef, VR, VN, .func (.func 98) #[] #[.pointer (some ⟨w1.heap.size + 1, 0, none⟩), .pointer (some ⟨w1.heap.size + 1 + 1, 0, none⟩)], .agg #[.int .u8 x.1.id, .int .u8 x.1.rep, .int .u32 x.1.seq, .int .u32 x.1.stamp, .int .i64 x.1.kind, .int .u8 x.1.cls, .int .u32 x.1.val], undef, undef, undef, undef, undef], defers := [] })
      (fun x a' _ A B row hs hg hr => by obtain ⟨Bx, h1, h2, h3⟩ := hs; exact ⟨Bx, h1, blk_own Bx _ _ () A B row h2 hg (fun r e => (hr r e).2), h3⟩)
      ?assign ?body ?done ?stop
    case assign =>
      rintro l pre x W K ⟨⟨⟨v, hv, hrow, _⟩, hbp⟩, hB⟩ hK
      simp only [En.agg]
      gi_wp2
      exact hK _ _ ((KeepsOthers.alloc _ _).from _) (KpD.of (al1 _ _) hB.size) ⟨⟨⟨v, hv.alloc _, World.ownsRow.alloc hrow _, trivial⟩, hbp.alloc _⟩, hB.alloc hB.size _⟩ ⟨W.heap.size, by have := hbp.lt; omega, Blk.new W _ _, rfl⟩
    case body =>
      rintro l pre x a' W hl ⟨rr, hr⟩ ⟨⟨⟨v, hv, hrow, _⟩, hbp⟩, hB⟩ ⟨Bx, hBx, bX, rfl⟩ hlt
      have cv := hv.cell
      have x0 := bX.cell 0 _ rfl
      have x1 := bX.cell 1 _ rfl
      have x2 := bX.cell 2 _ rfl
      have x3 := bX.cell 3 _ rfl
      have x4 := bX.cell 4 _ rfl
      have x5 := bX.cell 5 _ rfl
      have x6 := bX.cell 6 _ rfl
      have hpl : (pre.map Subtype.val).length ≤ 1000 := by rw [List.length_map]; omega
      have hnew : EnAt (W.alloc (.cells #[.int .u8 x.1.id, .int .u8 x.1.rep, .int .u32 x.1.seq, .int .u32 x.1.stamp, .int .i64 x.1.kind, .int .u8 x.1.cls, .int .u32 x.1.val] 62)) W.heap.size 0 x.1 := new_entry W x.1 _
      have HROW := Lib.hid (show EOwn W w.heap.size v (pre.map Subtype.val) from hrow)
      clear hrow
      have hs1 : w.heap.size ≤ W.heap.size := hB.size
      gi_wp2_with (gi_at_builtin; refine append_entIn rfl _ _ rfl w.heap.size v (pre.map Subtype.val) rfl (HROW.out.alloc _) W.heap.size 1 x.1 rfl hnew (by omega) (by simp; omega) ?_; intro v' w' ho hg; obtain ⟨hv1, hv2, hr2, hk2, hb2⟩ := hv.appended (by decide) HROW.out hs1 (by omega) ho hg; have hc1 := hv1.cell; have hf1 := hv1.frozen; obtain ⟨A', cap', rfl, _⟩ := ho.form)
      have hq : Blk (w'.setCell ⟨w1.heap.size, 0, none⟩ (.slice A' (pre.length + 1) cap')) (w1.heap.size + 1 + 1) (noteR p ln) 30 := (blk_grown (hbp.alloc _) (by decide) (HROW.out.alloc _) hg).setOther (by omega) _ _
      simp only [List.length_append, List.length_map, List.length_cons, List.length_nil, Nat.zero_add] at hv2 hr2 hk2 hb2
      exact ⟨hk2.from _, ⟨hb2, fun o ho' => hq.at_.trans (hbp.at_.symm.trans ho')⟩, ⟨⟨_, hv2, by simpa [EOwn] using hr2, trivial⟩, hq⟩, hB.trans hb2⟩
    case done =>
      rintro D ys W hD hys ⟨⟨⟨v, hv, hrow, _⟩, hbp⟩, hB⟩ hK
      have hc := hv.cell
      gi_wp2_with fail
      refine ⟨by simp, .inl ⟨_, _, rfl, run_takeDeferred hK, ?_⟩⟩
      refine ⟨_, results_tmp2 rfl _ _ _, ?_⟩
      have ho : EOwn (W.putObj D (.deferred none)) w.heap.size v (ys.map Subtype.val) := ownsRow_putObj hrow _ hK rfl
      rw [hys] at ho
      obtain ⟨A, c, rfl, _⟩ := ho.form
      exact ⟨A, c, rfl, ho.le, ho.sl (fun z hz => HV.out.helds z (List.mem_filter.1 hz).1), hB.trans (belowK_b (w := w) (Nat.le_refl _) W D _ _ (by omega) hK rfl rfl)⟩
    case stop =>
      rintro D c pre W _ _ h _
      exact h.elim
end Go.Proofs.YtfjaeohfigcciabGreatDoor

