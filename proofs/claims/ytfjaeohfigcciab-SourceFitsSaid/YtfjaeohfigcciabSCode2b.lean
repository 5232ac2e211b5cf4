/- The contract of source.offered. -/
import Derived.Test.YtfjaeohfigcciabSCode2
namespace Go.Proofs.Ytfjaeohfigcciab
open Go.RowKit

theorem offer_skip {f : Int} {e : En} {es : List En} {k : List Rn} (h : ¬ (e.kind = 2 ∧ inB e f = true)) : offerR f (e :: es) k = offerR f es k := by
  rw [offerR, if_neg h]
theorem offer_drop {f : Int} {e : En} {es : List En} {k : List Rn} (h1 : e.kind = 2) (h2 : inB e f = true) : offerR f (e :: es) k = match dropR k e.rep e.seq with | .ok k' => offerR f es k' | .error c => .error c := by
  rw [offerR, if_pos ⟨h1, h2⟩]
  cases dropR k e.rep e.seq <;> rfl
theorem enok_seq {x : En} (h : x.ok) : 0 ≤ x.seq ∧ x.seq ≤ 4294967295 := by
  obtain ⟨_, h, _⟩ := h
  exact h.2.1
theorem RpV.knows {w : World} {B : Nat} {v : Value} {r : Rp} (h : RpV w B v r) : ∀ x ∈ r.know, x.ok := by
  obtain ⟨_, _, _, _, _, _, _, h⟩ := h
  exact h.2.2.2.2.1

set_option maxHeartbeats 8000000 in
set_option maxRecDepth 100000 in
theorem soffered_any (v : Value) (r : Rp) (f : Int) (w : World) (hv : RpV w w.heap.size v r) (hf : 0 ≤ f ∧ f ≤ 255) (h1 : r.know.length ≤ 1000) (h2 : r.held.length ≤ 1000) :
    Calls Try.prog 16 #[v, .int .u8 f] w (ResPost w (offerR f r.held r.know)) := by
  have HC := Lib.hid (fun w1 (hb : Below w.heap.size w w1) vk (hk : Sl w1 w1.heap.size vk r.know) => rClone_any vk r.know w1 hk (by omega))
  have HK := Lib.hid (fun w1 (hb : Below w.heap.size w w1) => (show ∃ vk, v = v ∧ True from ⟨v, rfl, trivial⟩))
  clear HK
  have HV := Lib.hid hv
  obtain ⟨vk, vh, vo, rfl, ik, ih, io, iok⟩ := hv
  have IH := Lib.hid ih
  obtain ⟨Ak, ck, rfl, _⟩ := id ik
  obtain ⟨Ah, ch, rfl, _, hokH, hA⟩ := ih
  obtain ⟨Ao, co, rfl, _⟩ := io
  have HHA := Lib.hid hA
  have HOK := Lib.hid hokH
  have HF := Lib.hid hf
  have HL2 := Lib.hid h2
  have HCL := Lib.hid (fun w1 (hb : Below w.heap.size w w1) => HC.out w1 hb _ ((ik.below hb).more hb.size))
  clear hA hokH ik iok HC hf h1
  unfold Rp.cells
  generalize hD : offerR f r.held r.know = D
  have HD := Lib.hid hD; clear hD
  go_enter Try.func16, Try.ntmps16
  go_wp2_with fail
  refine (HCL.out _ (al1 _ _)).mono ?_
  rintro e w1 ⟨v1, rfl, ho1, hb⟩
  have HB := Lib.hid ((al1 w (.cells #[.int .u8 r.rep, .int .u8 r.flt, .int .u32 r.epoch, .int .u32 r.seq, .slice Ak r.know.length ck, .slice Ah r.held.length ch, .bool r.ses.on, .int .u32 r.ses.num, .int .u8 r.ses.src, .int .u8 r.ses.cur, .int .u32 r.ses.epoch, .slice Ao r.ses.offer.length co, .int .u32 r.ses.last] 28)).trans (hb.mono (al1 w (.cells #[.int .u8 r.rep, .int .u8 r.flt, .int .u32 r.epoch, .int .u32 r.seq, .slice Ak r.know.length ck, .slice Ah r.held.length ch, .bool r.ses.on, .int .u32 r.ses.num, .int .u8 r.ses.src, .int .u8 r.ses.cur, .int .u32 r.ses.epoch, .slice Ao r.ses.offer.length co, .int .u32 r.ses.last] 28)).size))
  have BR := Lib.hid ((Blk.new w #[.int .u8 r.rep, .int .u8 r.flt, .int .u32 r.epoch, .int .u32 r.seq, .slice Ak r.know.length ck, .slice Ah r.held.length ch, .bool r.ses.on, .int .u32 r.ses.num, .int .u8 r.ses.src, .int .u8 r.ses.cur, .int .u32 r.ses.epoch, .slice Ao r.ses.offer.length co, .int .u32 r.ses.last] 28).keep hb)
  have HS1 := Lib.hid (ho1.sl (fun x hx => HV.out.knows x hx))
  clear ho1 hb
  have c5 := BR.out.cell 5 (.slice Ah r.held.length ch) rfl
  go_wp2_with fail
  clear c5
  go_loopw [6, 16] (fun s i wr => ∃ (k : Nat) (ks : List Rn) (sv : Value), sv = s ∧ i = .int .i64 k ∧ k ≤ r.held.length ∧ Sl wr wr.heap.size sv ks ∧ Hid (offerR f (r.held.drop k) ks = D) ∧ Below w1.heap.size w1 wr) (fun _ i _ => r.held.length - (intOf i).toNat)
  case atStart => exact ⟨0, r.know, _, rfl, rfl, Nat.zero_le _, HS1.out, Lib.hid HD.out, Below.refl _ _⟩
  case round =>
    obtain ⟨k, ks, sv, rfl, rfl, hk, hs, hoff, hb⟩ := hrel
    rename World => wr
    by_cases hlt : k < r.held.length
    · obtain ⟨b, off, rfl, hbw, hc⟩ := HHA.out (by intro h; simp [h] at hlt)
      have hxk : r.held[k]? = some r.held[k] := List.getElem?_eq_getElem hlt
      have hstep := hoff.out
      rw [List.drop_eq_getElem_cons hlt] at hstep
      generalize r.held[k] = x at hxk hstep
      have HX := Lib.hid (HOK.out x (List.mem_of_getElem? hxk))
      have hbx := HB.out.trans (hb.mono HB.out.size)
      obtain ⟨c0, c1, c2, c3, c4, c5, c6⟩ := ((hc k x hxk).keep hbx hbw).all
      have HST := Lib.hid hstep
      clear hc hxk hstep hoff
      have HS := Lib.hid hs
      have HBW := Lib.hid hb
      have IN := Lib.hid (fun w1 => iIn_any x f w1 HX.out HF.out)
      have h2' := HL2.out
      have HDR := Lib.hid (fun w1 (hb : Below wr.heap.size wr w1) => Drop_any sv ks x.rep x.seq w1 (enok_seq HX.out) ((HS.out.below hb).more hb.size))
      have HSV := Lib.hid (show True from trivial)
      obtain ⟨As, cs, rfl, _⟩ := hs
      clear hb hbx HSV
      obtain ⟨id, rep, seq, stamp, kind, cls, val⟩ := x
      simp only [En.agg] at *
      obtain ⟨kq, hkq⟩ : ∃ q : Bool, (kind != 2) = q := ⟨_, rfl⟩
      cases kq
      · skip
        obtain ⟨q, hq⟩ : ∃ q : Bool, inB ⟨id, rep, seq, stamp, kind, cls, val⟩ f = q := ⟨_, rfl⟩
        rw [hq] at IN
        have HQ := Lib.hid hq; clear hq
        have HKQ := Lib.hid hkq
        go_wp2_with fail
        have BE := Lib.hid (Blk.new wr #[.int .u8 id, .int .u8 rep, .int .u32 seq, .int .u32 stamp, .int .i64 kind, .int .u8 cls, .int .u32 val] 43)
        have HBE := Lib.hid (al1 wr (.cells #[.int .u8 id, .int .u8 rep, .int .u32 seq, .int .u32 stamp, .int .i64 kind, .int .u8 cls, .int .u32 val] 43))
        generalize wr.alloc (.cells #[.int .u8 id, .int .u8 rep, .int .u32 seq, .int .u32 stamp, .int .i64 kind, .int .u8 cls, .int .u32 val] 43) = we at BE HBE ⊢
        refine (IN.out _).mono ?_
        rintro e w3 ⟨rfl, hb⟩
        have BE := Lib.hid (BE.out.keep hb)
        have HBE := Lib.hid (HBE.out.trans (hb.mono HBE.out.size)); clear hb
        cases q
        · skip
          go_wp2_with fail
          go_roundw
          case rel =>
            refine ⟨k + 1, ks, _, rfl, by go_num, by omega, (HS.out.below HBE.out).more HBE.out.size, Lib.hid ?_, HBW.out.trans (HBE.out.mono HBW.out.size)⟩
            have := HST.out
            rw [offer_skip (by rw [HQ.out]; simp)] at this
            exact this
          case measure => simp [intOf]; omega
        · skip
          have e1 := BE.out.cell 1 (.int .u8 rep) rfl
          have e2 := BE.out.cell 2 (.int .u32 seq) rfl
          have hst := HST.out
          rw [offer_drop (by simpa using HKQ.out) HQ.out] at hst
          have HST := Lib.hid hst; clear hst
          generalize hdr : dropR ks rep seq = DR at HST HDR
          clear hdr
          go_wp2_with fail
          refine (HDR.out _ HBE.out).mono ?_
          cases DR with
          | ok l =>
            rintro e w4 ⟨v4, rfl, hv4, hb4⟩
            have H4 := Lib.hid hv4
            have HB4 := Lib.hid (HBW.out.trans ((HBE.out.trans (hb4.mono HBE.out.size)).mono HBW.out.size))
            obtain ⟨A4, c4', rfl, _⟩ := hv4
            clear hb4
            go_wp2_with fail
            go_roundw
            case rel => exact ⟨k + 1, l, _, rfl, by go_num, by omega, H4.out, Lib.hid HST.out, HB4.out⟩
            case measure => simp [intOf]; omega
          | error cc =>
            rintro e w4 ⟨rfl, hb4⟩
            have HB4 := Lib.hid (HB.out.trans ((HBW.out.trans ((HBE.out.trans (hb4.mono HBE.out.size)).mono HBW.out.size)).mono HB.out.size))
            clear hb4
            go_wp2_with fail
            go_ret2
            have := HST.out
            subst this
            exact ⟨rfl, HB4.out⟩
      · skip
        have HKQ := Lib.hid hkq
        go_wp2_with fail
        go_roundw
        case rel =>
          refine ⟨k + 1, ks, _, rfl, by go_num, by omega, (HS.out.below (al1 _ _)).more (al1 _ _).size, Lib.hid ?_, HBW.out.trans ((al1 _ _).mono HBW.out.size)⟩
          have := HST.out
          rw [offer_skip (by simpa using fun h => absurd h (by simpa using HKQ.out))] at this
          exact this
        case measure => simp [intOf]; omega
    · have hkk : r.held.length ≤ k := by omega
      have hof := hoff.out
      rw [List.drop_eq_nil_of_le hkk] at hof
      have HS := Lib.hid hs
      have HB2 := Lib.hid (HB.out.trans (hb.mono HB.out.size))
      have HOF := Lib.hid hof
      obtain ⟨As, cs, rfl, _⟩ := hs
      clear hb hof hoff
      go_wp2_with fail
      go_ret2
      have hof := HOF.out
      unfold offerR at hof
      subst hof
      exact ⟨_, rfl, HS.out, HB2.out⟩
end Go.Proofs.Ytfjaeohfigcciab

