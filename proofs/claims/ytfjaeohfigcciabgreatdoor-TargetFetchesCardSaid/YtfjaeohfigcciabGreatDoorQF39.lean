/- Texts in one: TC10, IFind. -/
import Derived.Test.YtfjaeohfigcciabGreatDoorQF33
import Derived.Test.YtfjaeohfigcciabGreatDoorQF37
import Derived.Test.YtfjaeohfigcciabGreatDoorQF38
import Derived.Test.YtfjaeohfigcciabGreatDoorQF19
set_option linter.unusedVariables false
set_option linter.unusedSimpArgs false
set_option linter.unusedSectionVars false
set_option linter.unnecessarySimpa false
namespace Go.Proofs.YtfjaeohfigcciabGreatDoor
open Go.RowKit

def accOf (r : Rp) (res : Except Int Rp) : Acc :=
  match res with
  | .error c => if c = 10 then ⟨offP r, zeroN, false, 10⟩ else noAcc c
  | .ok x => if x.ses.on = true then ⟨x, pullP x, true, 0⟩ else ⟨x, zeroN, false, 0⟩
theorem union_not10 {k l : List Rn} {c : Int} (h : unionR k l = .error c) : 0 < c ∧ c ≠ 10 := by
  unfold unionR at h
  split at h
  · unfold lim at h
    split at h
    · cases h
    · injection h with h; omega
  · injection h with h; omega
theorem takes_not10 {f : Int} : ∀ (l : List En) (k : List Rn) (h : List En) (c : Int), takesR f l k h = .error c → 0 < c ∧ c ≠ 10
  | [], k, h, c, he => by simp [takesR] at he
  | e :: l, k, h, c, he => by
    simp only [takesR] at he
    split at he
    · exact takes_not10 l _ _ c he
    · cases ha : addR k e.rep e.seq with
      | error d => rw [ha] at he; injection he with he; rw [← he]; exact union_not10 ha
      | ok k2 => rw [ha] at he; exact takes_not10 l _ _ c he
theorem behind_pos {r : Rp} {n : Nt} {c : Int} (h : behindR r n = .error c) : 0 < c := by
  unfold behindR at h
  cases hq : refuseA r n with
  | some d =>
    rw [hq] at h
    injection h with h
    have := (accept_some hq).2
    omega
  | none =>
    rw [hq] at h
    simp only at h
    unfold bTake at h
    cases ht : takesR r.flt n.ents r.know r.held with
    | error d => rw [ht] at h; injection h with h; rw [← h]; exact (takes_not10 _ _ _ _ ht).1
    | ok y =>
      rw [ht] at h
      simp only at h
      unfold bEnd at h
      split at h
      · cases hu : unionR (afterP r n y.1 y.2).know (afterP r n y.1 y.2).ses.offer with
        | error d => rw [hu] at h; injection h with h; rw [← h]; exact (union_not10 hu).1
        | ok k => rw [hu] at h; cases h
      · cases h
theorem accept_is (r : Rp) (n : Nt) : acceptR r n = accOf r (behindR r n) := by
  unfold behindR
  cases hq : refuseA r n with
  | some c =>
    rw [(accept_some hq).1]
    rfl
  | none =>
    rw [accept_none hq]
    have hon := (wait_on (refuse_goes hq).wait).1
    unfold takeP bTake
    simp only
    cases ht : takesR r.flt n.ents r.know r.held with
    | error c =>
      simp only [accOf]
      rw [if_neg (takes_not10 _ _ _ _ ht).2]
    | ok y =>
      simp only
      unfold endR bEnd
      split
      · cases hu : unionR (afterP r n y.1 y.2).know (afterP r n y.1 y.2).ses.offer with
        | error c =>
          simp only [accOf]
          rw [if_neg (union_not10 hu).2]
        | ok k => rfl
      · simp only [accOf]
        rw [if_pos (by show r.ses.on = true; exact hon)]

theorem zero_av (P : Nat → Prop) : NtAv P (.agg #[.int .i64 0, .int .u8 0, .int .u8 0, .int .u32 0, .int .u8 0, .int .u8 0, .slice none 0 0, .int .u32 0, .slice none 0 0, .int .u8 0, .bool false, .slice none 0 0]) zeroN := ⟨.slice none 0 0, .slice none 0 0, .slice none 0 0, rfl, fun h => absurd rfl h, fun h => absurd rfl h, fun h => absurd rfl h⟩
theorem zerop_av (P : Nat → Prop) : RpAv P (.agg #[.int .u8 0, .int .u8 0, .int .u32 0, .int .u32 0, .slice none 0 0, .slice none 0 0, .bool false, .int .u32 0, .int .u8 0, .int .u8 0, .int .u32 0, .slice none 0 0, .int .u32 0]) zeroP := ⟨.slice none 0 0, .slice none 0 0, .slice none 0 0, rfl, fun h => absurd rfl h, fun h => absurd rfl h, fun h => absurd rfl h⟩
theorem takes_kl {f : Int} : ∀ (l : List En) (k : List Rn) (h : List En) (k' : List Rn) (h' : List En), takesR f l k h = .ok (k', h') → k.length ≤ 1000 → k'.length ≤ 1000
  | [], k, h, k', h', he, hk => by
    simp only [takesR, Except.ok.injEq, Prod.mk.injEq] at he
    rw [← he.1]; exact hk
  | e :: l, k, h, k', h', he, hk => by
    simp only [takesR] at he
    split at he
    · exact takes_kl l _ _ _ _ he hk
    · cases ha : addR k e.rep e.seq with
      | error c => rw [ha] at he; cases he
      | ok k2 => rw [ha] at he; exact takes_kl l _ _ _ _ he (Nat.le_trans ((right_iff _).1 (add_right ha)).1 (by decide))
theorem behind_klen {r : Rp} {n : Nt} {x : Rp} (h : behindR r n = .ok x) (h1 : r.know.length ≤ 1000) : x.know.length ≤ 10000 := by
  unfold behindR at h
  cases hq : refuseA r n with
  | some d => rw [hq] at h; cases h
  | none =>
    rw [hq] at h
    simp only at h
    unfold bTake at h
    cases ht : takesR r.flt n.ents r.know r.held with
    | error d => rw [ht] at h; cases h
    | ok y =>
      rw [ht] at h
      simp only at h
      have hk := takes_kl _ _ _ _ _ (show takesR r.flt n.ents r.know r.held = .ok (y.1, y.2) from ht) h1
      unfold bEnd at h
      split at h
      · cases hu : unionR (afterP r n y.1 y.2).know (afterP r n y.1 y.2).ses.offer with
        | error d => rw [hu] at h; cases h
        | ok k =>
          rw [hu] at h
          injection h with h
          rw [← h]
          have := ((right_iff _).1 (union_told hu).2.2.1).1
          show k.length ≤ 10000
          omega
      · injection h with h
        rw [← h]
        show y.1.length ≤ 10000
        omega
theorem results_four {P : Program} {fn : Func} {p1 p2 q q2 : Tmp} {ty1 ty2 : TypeId} (h : fn.results = #[.cell p1 ty1, .cell p2 ty2, .tmp q, .tmp q2]) (tmps : Array Value) (w : World) (g1 g2 : Nat) (t1 t2 : TypeId) (c1 c2 : Array Value) (d1 d2 : TypeDesc)
    (hp1 : tmps.getD p1 undef = .pointer (some ⟨g1, 0, none⟩)) (hp2 : tmps.getD p2 undef = .pointer (some ⟨g2, 0, none⟩)) (hg1 : w.heap[g1]? = some (.cells c1 t1 (0, 0))) (hg2 : w.heap[g2]? = some (.cells c2 t2 (0, 0)))
    (hu1 : P.underlying ty1 = some d1) (hu2 : P.underlying ty2 = some d2) (hd1 : (match d1 with | .struct _ | .array _ _ => true | _ => false) = true) (hd2 : (match d2 with | .struct _ | .array _ _ => true | _ => false) = true)
    (hi1 : (P.info? ty1).map (·.size) = some c1.size) (hi2 : (P.info? ty2).map (·.size) = some c2.size) :
    (results fn tmps).run P w = .ok (.tuple #[.agg c1, .agg c2, tmps.getD q undef, tmps.getD q2 undef]) w := by
  have hp1' : tmps[p1]?.getD undef = .pointer (some ⟨g1, 0, none⟩) := by simpa using hp1
  have hp2' : tmps[p2]?.getD undef = .pointer (some ⟨g2, 0, none⟩) := by simpa using hp2
  simp [results, h, hp1', hp2', asAddr, run_loadVar_row w g1 t1 ty1 c1 (0, 0) d1 hg1 hu1 hd1 hi1, run_loadVar_row w g2 t2 ty2 c2 (0, 0) d2 hg2 hu2 hd2 hi2]

set_option maxHeartbeats 8000000 in
set_option maxRecDepth 100000 in
theorem tAcceptC_any (r : Rp) (n : Nt) (lr ln : Ls) (W : World) (g g1 : Nat) (hbr : Blk W g (repR r lr) 28) (hbn : Blk W g1 (noteR n ln) 30) (hv : RpV W W.heap.size (.agg (repR r lr)) r) (hu : NtV W W.heap.size (.agg (noteR n ln)) n)
    (h1 : r.know.length ≤ 1000) (h2 : r.held.length ≤ 1000) (h3 : r.ses.offer.length ≤ 1000) (g2 : n.ents.length ≤ 1000) (g3 : n.offer.length ≤ 1000) :
    Calls Tryz.prog 31 #[.pointer (some ⟨g, 0, none⟩), .pointer (some ⟨g1, 0, none⟩)] W (RepSure W (behindR r n)) := by
  have hb0 := al1 W (.cells #[.int .u8 0, .int .u8 0, .int .u32 0, .int .u32 0, .slice none 0 0, .slice none 0 0, .bool false, .int .u32 0, .int .u8 0, .int .u8 0, .int .u32 0, .slice none 0 0, .int .u32 0] 28)
  have HC := Lib.hid (tbehind_any r n lr ln (W.alloc (.cells #[.int .u8 0, .int .u8 0, .int .u32 0, .int .u32 0, .slice none 0 0, .slice none 0 0, .bool false, .int .u32 0, .int .u8 0, .int .u8 0, .int .u32 0, .slice none 0 0, .int .u32 0] 28)) (hv.later hb0) (hu.later hb0) h1 h2 h3 g2 g3)
  generalize behindR r n = res at HC ⊢
  have BO := Lib.hid (Blk.new W #[.int .u8 0, .int .u8 0, .int .u32 0, .int .u32 0, .slice none 0 0, .slice none 0 0, .bool false, .int .u32 0, .int .u8 0, .int .u8 0, .int .u32 0, .slice none 0 0, .int .u32 0] 28)
  have BR := Lib.hid (hbr.keep hb0)
  have BN := Lib.hid (hbn.keep hb0)
  have hi := rep_row_size r lr
  have hj : (Tryz.prog.info? 30).map (·.size) = some (noteR n ln).size := note_size1
  have hl : W.heap.size < (W.alloc (.cells #[.int .u8 0, .int .u8 0, .int .u32 0, .int .u32 0, .slice none 0 0, .slice none 0 0, .bool false, .int .u32 0, .int .u8 0, .int .u8 0, .int .u32 0, .slice none 0 0, .int .u32 0] 28)).heap.size := by simp
  clear hbr hbn hv hu h1 h2 h3 g2 g3
  generalize repR r lr = cs at HC BR hi ⊢
  generalize noteR n ln = cn at HC BN hj ⊢
  go_enter Tryz.func31, Tryz.ntmps31
  go_upto_region 1 with fail
  have HB := Lib.hid hb0; clear hb0
  generalize W.alloc (.cells #[.int .u8 0, .int .u8 0, .int .u32 0, .int .u32 0, .slice none 0 0, .slice none 0 0, .bool false, .int .u32 0, .int .u8 0, .int .u8 0, .int .u32 0, .slice none 0 0, .int .u32 0] 28) = W0 at HC BO BR BN HB hl ⊢
  go_wp2_with (first
    | (refine wpList_load_row rfl _ _ rfl g rfl 28 cs (0, 0) _ BR.out.at_ Tryz.underlying28 rfl hi ?_)
    | (refine wpList_load_row rfl _ _ rfl g1 rfl 30 cn (0, 0) _ BN.out.at_ Tryz.underlying30 rfl hj ?_))
  refine (HC.out).mono ?_
  cases res with
  | error c =>
    rintro e w1 ⟨rfl, hb⟩
    exact ⟨rfl, rfl, HB.out.trans (hb.mono HB.out.size)⟩
  | ok x =>
    rintro e w1 ⟨v, rfl, hv, hav, hb⟩
    obtain ⟨c2, rfl, hs, h1⟩ := hv.row
    have hi2 : (Tryz.prog.info? 28).map (·.size) = some c2.size := by rw [hs]; exact rep_size1
    have BO := Lib.hid (BO.out.keep hb)
    have HV := Lib.hid (hv.rowOff (g := W.heap.size) (hav.mono fun k hk => by omega) c2)
    have HA := Lib.hid (hav.mono fun k (hk : W0.heap.size ≤ k) => (by omega : W.heap.size ≤ k))
    have HB := Lib.hid (HB.out.trans (hb.mono HB.out.size)); clear hb hv hav
    have hz : (w1.setRow W.heap.size c2).heap.size = w1.heap.size := by simp [World.setRow]
    rw [← hz] at HV
    clear hz
    go_wp2_with (refine wpList_store_row rfl _ _ _ rfl W.heap.size c2 rfl rfl 28 _ BO.out.at_ hi2 (by rw [hs]; rfl) h1 ?_)
    refine bodyPost_ret (v := .agg c2) (results_cell_row Tryz.results31 _ _ (W.heap.size) 28 c2 (0, 0) _ rfl (BO.out.row c2).at_ Tryz.underlying28 rfl hi2) rfl ?_
    exact ⟨_, rfl, HV.out, HA.out, below_setRow1 (B := W.heap.size) (r := W.heap.size) HB.out (Nat.le_refl _) _⟩

set_option maxHeartbeats 16000000 in
set_option maxRecDepth 100000 in
theorem tAccept_said : AcceptSaid 9 := by
  intro v u r n w hg hv hu hs hp
  have hm : Tryz.prog.follows .mixedOrders = true := by kernel_rfl
  have HM := Lib.hid hm; clear hm
  have h1 : r.know.length ≤ 1000 := Nat.le_trans hs.1 (by decide)
  have h2 : r.held.length ≤ 1000 := Nat.le_trans hs.2.1 (by decide)
  have h3 : r.ses.offer.length ≤ 1000 := Nat.le_trans hs.2.2 (by decide)
  have g2 : n.ents.length ≤ 1000 := Nat.le_trans hp.2.1 (by decide)
  have g3 : n.offer.length ≤ 1000 := Nat.le_trans hp.2.2 (by decide)
  have hmf : ∀ (fn : Fn) (first cap : Array Value) (w : World), (Instr.makeFunc fn first cap).run Tryz.prog w = .ok (.func fn first cap) w := fun _ _ _ _ => rfl
  obtain ⟨lr, rfl⟩ := hv.rows
  obtain ⟨ln, rfl⟩ := hu.rows
  have eg : ∀ args w, (callFunc 31 args).run Tryz.prog w = .ok (.enter 31 args) w := enters_of Tryz.func31 (by kernel_rfl) rfl
  have HB := Lib.hid (al4 w (.cells (repR r lr) 28) (.cells (noteR n ln) 30) (.cells #[.int .u8 0, .int .u8 0, .int .u32 0, .int .u32 0, .slice none 0 0, .slice none 0 0, .bool false, .int .u32 0, .int .u8 0, .int .u8 0, .int .u32 0, .slice none 0 0, .int .u32 0] 28) (.cells #[.int .i64 0, .int .u8 0, .int .u8 0, .int .u32 0, .int .u8 0, .int .u8 0, .slice none 0 0, .int .u32 0, .slice none 0 0, .int .u8 0, .bool false, .slice none 0 0] 30))
  have B4 := blk_four w (repR r lr) 28 (noteR n ln) 30 #[.int .u8 0, .int .u8 0, .int .u32 0, .int .u32 0, .slice none 0 0, .slice none 0 0, .bool false, .int .u32 0, .int .u8 0, .int .u8 0, .int .u32 0, .slice none 0 0, .int .u32 0] 28 #[.int .i64 0, .int .u8 0, .int .u8 0, .int .u32 0, .int .u8 0, .int .u8 0, .slice none 0 0, .int .u32 0, .slice none 0 0, .int .u8 0, .bool false, .slice none 0 0] 30
  have BR := Lib.hid B4.1
  have BO := Lib.hid B4.2.2.1
  have BZ := Lib.hid B4.2.2.2
  have HC := Lib.hid (tcaughtP_any 31 #[.pointer (some ⟨w.heap.size, 0, none⟩), .pointer (some ⟨w.heap.size + 1, 0, none⟩)] eg ((((w.alloc (.cells (repR r lr) 28)).alloc (.cells (noteR n ln) 30)).alloc (.cells #[.int .u8 0, .int .u8 0, .int .u32 0, .int .u32 0, .slice none 0 0, .slice none 0 0, .bool false, .int .u32 0, .int .u8 0, .int .u8 0, .int .u32 0, .slice none 0 0, .int .u32 0] 28)).alloc (.cells #[.int .i64 0, .int .u8 0, .int .u8 0, .int .u32 0, .int .u8 0, .int .u8 0, .slice none 0 0, .int .u32 0, .slice none 0 0, .int .u8 0, .bool false, .slice none 0 0] 30)) (behindR r n)
    (fun W hb hz => tAcceptC_any r n lr ln W w.heap.size (w.heap.size + 1) (B4.1.keep hb) (B4.2.1.keep hb) ((hv.later HB.out).later hb) ((hu.later HB.out).later hb) h1 h2 h3 g2 g3))
  have HG := Lib.hid hg
  have HV := Lib.hid hv
  have HL := Lib.hid (show r.know.length ≤ 10000 ∧ r.held.length ≤ 10000 ∧ r.ses.offer.length ≤ 10000 by omega)
  have HPOS := Lib.hid (fun c (h : behindR r n = .error c) => behind_pos h)
  have HKX := Lib.hid (fun x (h : behindR r n = .ok x) => behind_klen h h1)
  rw [accept_is]
  generalize behindR r n = D at HC HPOS HKX ⊢
  have HIS := Lib.hid (fun a w => is_code a 10 w)
  have HIN := Lib.hid (fun w => is_nil (.int .i64 10) w)
  have hi := rep_row_size r lr
  clear eg hv hu hs hp h1 h2 h3 g2 g3 hg B4
  generalize hcs : repR r lr = cs at HC HB BR BO BZ hi HV ⊢
  have HCS := Lib.hid hcs; clear hcs
  generalize noteR n ln = cn at HC HB BR BO BZ ⊢
  go_enter Tryz.func9, Tryz.ntmps9
  go_wp2_with fail
  have hsz : ((((w.alloc (.cells cs 28)).alloc (.cells cn 30)).alloc (.cells #[.int .u8 0, .int .u8 0, .int .u32 0, .int .u32 0, .slice none 0 0, .slice none 0 0, .bool false, .int .u32 0, .int .u8 0, .int .u8 0, .int .u32 0, .slice none 0 0, .int .u32 0] 28)).alloc (.cells #[.int .i64 0, .int .u8 0, .int .u8 0, .int .u32 0, .int .u8 0, .int .u8 0, .slice none 0 0, .int .u32 0, .slice none 0 0, .int .u8 0, .bool false, .slice none 0 0] 30)).heap.size = w.heap.size + 1 + 1 + 1 + 1 := by simp
  generalize (((w.alloc (.cells cs 28)).alloc (.cells cn 30)).alloc (.cells #[.int .u8 0, .int .u8 0, .int .u32 0, .int .u32 0, .slice none 0 0, .slice none 0 0, .bool false, .int .u32 0, .int .u8 0, .int .u8 0, .int .u32 0, .slice none 0 0, .int .u32 0] 28)).alloc (.cells #[.int .i64 0, .int .u8 0, .int .u8 0, .int .u32 0, .int .u8 0, .int .u8 0, .slice none 0 0, .int .u32 0, .slice none 0 0, .int .u8 0, .bool false, .slice none 0 0] 30) = W0 at HC HB BR BO BZ hsz ⊢
  refine (HC.out).mono ?_
  cases D with
  | error c =>
    rintro e w1 ⟨rfl, hb⟩
    have BR := Lib.hid (BR.out.keep hb)
    have BO := Lib.hid (BO.out.keep hb)
    have BZ := Lib.hid (BZ.out.keep hb)
    have HB := Lib.hid (HB.out.trans (hb.mono HB.out.size)); clear hb
    have HCP := Lib.hid (HPOS.out c rfl)
    go_wp2_with (first
      | (refine wpList_store_row rfl _ _ _ rfl (w.heap.size + 1 + 1) #[.int .u8 0, .int .u8 0, .int .u32 0, .int .u32 0, .slice none 0 0, .slice none 0 0, .bool false, .int .u32 0, .int .u8 0, .int .u8 0, .int .u32 0, .slice none 0 0, .int .u32 0] rfl rfl 28 #[.int .u8 0, .int .u8 0, .int .u32 0, .int .u32 0, .slice none 0 0, .slice none 0 0, .bool false, .int .u32 0, .int .u8 0, .int .u8 0, .int .u32 0, .slice none 0 0, .int .u32 0] BO.out.at_ rep_size1 rfl (by simp [Value.oneCell']) ?_; rw [setRow_id BO.out.at_]))
    refine (HIS.out c w1).mono ?_
    rintro e w2 ⟨rfl, hw⟩
    rw [hw]
    clear hw
    by_cases hc : c = 10
    · subst hc
      have hbt : ((10 : Int) == 10) = true := rfl
      rw [hbt]
      go_wp2_with (refine wpList_load_row rfl _ _ rfl w.heap.size rfl 28 cs (0, 0) _ BR.out.at_ Tryz.underlying28 rfl hi ?_)
      have hbz1 := BZ.out.lt
      refine (tcloned_any _ r w1 (HV.out.later HB.out) HL.out.1 HL.out.2.1 HL.out.2.2).mono ?_
      rintro e w3 ⟨v3, rfl, hv3, ha3, hb⟩
      have h0 := hb.size
      have BO := Lib.hid (BO.out.keep hb)
      have BZ := Lib.hid (BZ.out.keep hb)
      have HB := Lib.hid (HB.out.trans (hb.mono HB.out.size)); clear hb
      have hbz := BZ.out.lt
      have ha3 := ha3.mono fun k (hk : w1.heap.size ≤ k) => (by omega : w.heap.size + 1 + 1 + 1 < k)
      go_wp2_with fail
      refine (tidle_any _ v3 r w3 hv3 ha3).mono ?_
      rintro e w4 ⟨v4, rfl, hv4, ha4, hb⟩
      obtain ⟨c4, rfl, hs4, h4⟩ := hv4.row
      have hi4 : (Tryz.prog.info? 28).map (·.size) = some c4.size := by rw [hs4]; exact rep_size1
      have BO := Lib.hid (BO.out.keep hb)
      have BZ := Lib.hid ((BZ.out.keep hb).other (k := w.heap.size + 1 + 1) (by omega) c4)
      have HV4 := Lib.hid (hv4.rowOff (g := w.heap.size + 1 + 1) (ha4.mono fun k hk => by omega) c4)
      have HB := Lib.hid (below_setRow1 (B := w.heap.size) (r := w.heap.size + 1 + 1) (HB.out.trans (hb.mono HB.out.size)) (by omega) c4); clear hb
      have hz : (w4.setRow (w.heap.size + 1 + 1) c4).heap.size = w4.heap.size := by simp [World.setRow]
      rw [← hz] at HV4
      clear hz hv4
      go_wp2_with (first
        | (refine wpList_store_row rfl _ _ _ rfl (w.heap.size + 1 + 1) c4 rfl rfl 28 #[.int .u8 0, .int .u8 0, .int .u32 0, .int .u32 0, .slice none 0 0, .slice none 0 0, .bool false, .int .u32 0, .int .u8 0, .int .u8 0, .int .u32 0, .slice none 0 0, .int .u32 0] BO.out.at_ hi4 (by rw [hs4]; rfl) h4 ?_)
        | (refine wpList_store_row rfl _ _ _ rfl (w.heap.size + 1 + 1 + 1) #[.int .i64 0, .int .u8 0, .int .u8 0, .int .u32 0, .int .u8 0, .int .u8 0, .slice none 0 0, .int .u32 0, .slice none 0 0, .int .u8 0, .bool false, .slice none 0 0] rfl rfl 30 #[.int .i64 0, .int .u8 0, .int .u8 0, .int .u32 0, .int .u8 0, .int .u8 0, .slice none 0 0, .int .u32 0, .slice none 0 0, .int .u8 0, .bool false, .slice none 0 0] BZ.out.at_ note_size1 rfl (by simp [Value.oneCell']) ?_; rw [setRow_id BZ.out.at_]))
      refine bodyPost_ret (v := .tuple #[.agg c4, .agg #[.int .i64 0, .int .u8 0, .int .u8 0, .int .u32 0, .int .u8 0, .int .u8 0, .slice none 0 0, .int .u32 0, .slice none 0 0, .int .u8 0, .bool false, .slice none 0 0], .bool false, .iface 74 (.int .i64 10)]) (results_four Tryz.results9 _ _ (w.heap.size + 1 + 1) (w.heap.size + 1 + 1 + 1) 28 30 c4 #[.int .i64 0, .int .u8 0, .int .u8 0, .int .u32 0, .int .u8 0, .int .u8 0, .slice none 0 0, .int .u32 0, .slice none 0 0, .int .u8 0, .bool false, .slice none 0 0] _ _ rfl rfl (BO.out.row c4).at_ BZ.out.at_ Tryz.underlying28 Tryz.underlying30 rfl rfl hi4 note_size1) rfl ?_
      exact ⟨_, _, _, rfl, HV4.out, zero_v _ _, err_is (by decide) (HG.out.later HB.out), HB.out, fun P _ _ => ⟨ha4.mono fun k hk => .inr (by omega), zero_av _⟩⟩
    · have hbt : (c == 10) = false := by simpa using hc
      rw [hbt]
      go_wp2_with (first
        | (refine wpList_store_row rfl _ _ _ rfl (w.heap.size + 1 + 1) #[.int .u8 0, .int .u8 0, .int .u32 0, .int .u32 0, .slice none 0 0, .slice none 0 0, .bool false, .int .u32 0, .int .u8 0, .int .u8 0, .int .u32 0, .slice none 0 0, .int .u32 0] rfl rfl 28 #[.int .u8 0, .int .u8 0, .int .u32 0, .int .u32 0, .slice none 0 0, .slice none 0 0, .bool false, .int .u32 0, .int .u8 0, .int .u8 0, .int .u32 0, .slice none 0 0, .int .u32 0] BO.out.at_ rep_size1 rfl (by simp [Value.oneCell']) ?_; rw [setRow_id BO.out.at_])
        | (refine wpList_store_row rfl _ _ _ rfl (w.heap.size + 1 + 1 + 1) #[.int .i64 0, .int .u8 0, .int .u8 0, .int .u32 0, .int .u8 0, .int .u8 0, .slice none 0 0, .int .u32 0, .slice none 0 0, .int .u8 0, .bool false, .slice none 0 0] rfl rfl 30 #[.int .i64 0, .int .u8 0, .int .u8 0, .int .u32 0, .int .u8 0, .int .u8 0, .slice none 0 0, .int .u32 0, .slice none 0 0, .int .u8 0, .bool false, .slice none 0 0] BZ.out.at_ note_size1 rfl (by simp [Value.oneCell']) ?_; rw [setRow_id BZ.out.at_]))
      refine bodyPost_ret (v := .tuple #[.agg #[.int .u8 0, .int .u8 0, .int .u32 0, .int .u32 0, .slice none 0 0, .slice none 0 0, .bool false, .int .u32 0, .int .u8 0, .int .u8 0, .int .u32 0, .slice none 0 0, .int .u32 0], .agg #[.int .i64 0, .int .u8 0, .int .u8 0, .int .u32 0, .int .u8 0, .int .u8 0, .slice none 0 0, .int .u32 0, .slice none 0 0, .int .u8 0, .bool false, .slice none 0 0], .bool false, .iface 74 (.int .i64 c)]) (results_four Tryz.results9 _ _ (w.heap.size + 1 + 1) (w.heap.size + 1 + 1 + 1) 28 30 #[.int .u8 0, .int .u8 0, .int .u32 0, .int .u32 0, .slice none 0 0, .slice none 0 0, .bool false, .int .u32 0, .int .u8 0, .int .u8 0, .int .u32 0, .slice none 0 0, .int .u32 0] #[.int .i64 0, .int .u8 0, .int .u8 0, .int .u32 0, .int .u8 0, .int .u8 0, .slice none 0 0, .int .u32 0, .slice none 0 0, .int .u8 0, .bool false, .slice none 0 0] _ _ rfl rfl BO.out.at_ BZ.out.at_ Tryz.underlying28 Tryz.underlying30 rfl rfl rep_size1 note_size1) rfl ?_
      have hacc : accOf r (.error c) = noAcc c := by unfold accOf; simp only; rw [if_neg hc]
      rw [hacc]
      exact ⟨_, _, _, rfl, zeroP_v _ _, zero_v _ _, err_is HCP.out (HG.out.later HB.out), HB.out, fun P _ _ => ⟨zerop_av _, zero_av _⟩⟩
  | ok x =>
    rintro e w1 ⟨v, rfl, hv, hav, hb⟩
    obtain ⟨lx, rfl⟩ := hv.rows
    have hix := rep_row_size x lx
    have hox := rep_row_one x lx
    have hsx : (repR x lx).size = 13 := rfl
    have BO := Lib.hid (BO.out.keep hb)
    have BZ := Lib.hid ((BZ.out.keep hb).other (k := w.heap.size + 1 + 1) (by omega) (repR x lx))
    have HAX := Lib.hid (hav.mono fun k (hk : W0.heap.size ≤ k) => (by omega : w.heap.size + 1 + 1 + 1 < k))
    have HVX := Lib.hid (hv.rowOff (g := w.heap.size + 1 + 1) (HAX.out.mono fun k hk => by omega) (repR x lx))
    have HB := Lib.hid (below_setRow1 (B := w.heap.size) (r := w.heap.size + 1 + 1) (HB.out.trans (hb.mono HB.out.size)) (by omega) (repR x lx)); clear hb hav
    have hz : (w1.setRow (w.heap.size + 1 + 1) (repR x lx)).heap.size = w1.heap.size := by simp [World.setRow]
    rw [← hz] at HVX
    clear hz hv
    have X6 := Lib.hid (show (repR x lx)[6]? = some (.bool x.ses.on) from rfl)
    have HKX := Lib.hid (HKX.out x rfl)
    go_upto_region 2 with (refine wpList_store_row rfl _ _ _ rfl (w.heap.size + 1 + 1) (repR x lx) rfl rfl 28 #[.int .u8 0, .int .u8 0, .int .u32 0, .int .u32 0, .slice none 0 0, .slice none 0 0, .bool false, .int .u32 0, .int .u8 0, .int .u8 0, .int .u32 0, .slice none 0 0, .int .u32 0] BO.out.at_ hix rfl hox ?_)
    have BO := Lib.hid (BO.out.row (repR x lx))
    generalize repR x lx = cx at BO BZ HAX HVX HB hix hox hsx X6 ⊢
    generalize w1.setRow (w.heap.size + 1 + 1) cx = w2 at BO BZ HVX HB ⊢
    go_wp2_with fail
    refine (HIN.out w2).mono ?_
    rintro e w3 ⟨rfl, hw⟩
    rw [hw]
    clear hw
    have x6 := BO.out.cell 6 _ X6.out
    obtain ⟨q, hq⟩ : ∃ q, x.ses.on = q := ⟨_, rfl⟩
    have HQ := Lib.hid hq
    rw [hq] at x6
    clear hq
    cases q
    · go_wp2_with (first
        | (refine wpList_load_row rfl _ _ rfl (w.heap.size + 1 + 1) rfl 28 cx (0, 0) _ BO.out.at_ Tryz.underlying28 rfl hix ?_)
        | (refine wpList_store_row rfl _ _ _ rfl (w.heap.size + 1 + 1) cx rfl rfl 28 cx BO.out.at_ hix rfl hox ?_; rw [setRow_id BO.out.at_])
        | (refine wpList_store_row rfl _ _ _ rfl (w.heap.size + 1 + 1 + 1) #[.int .i64 0, .int .u8 0, .int .u8 0, .int .u32 0, .int .u8 0, .int .u8 0, .slice none 0 0, .int .u32 0, .slice none 0 0, .int .u8 0, .bool false, .slice none 0 0] rfl rfl 30 #[.int .i64 0, .int .u8 0, .int .u8 0, .int .u32 0, .int .u8 0, .int .u8 0, .slice none 0 0, .int .u32 0, .slice none 0 0, .int .u8 0, .bool false, .slice none 0 0] BZ.out.at_ note_size1 rfl (by simp [Value.oneCell']) ?_; rw [setRow_id BZ.out.at_]))
      refine bodyPost_ret (v := .tuple #[.agg cx, .agg #[.int .i64 0, .int .u8 0, .int .u8 0, .int .u32 0, .int .u8 0, .int .u8 0, .slice none 0 0, .int .u32 0, .slice none 0 0, .int .u8 0, .bool false, .slice none 0 0], .bool false, .nilIface]) (results_four Tryz.results9 _ _ (w.heap.size + 1 + 1) (w.heap.size + 1 + 1 + 1) 28 30 cx #[.int .i64 0, .int .u8 0, .int .u8 0, .int .u32 0, .int .u8 0, .int .u8 0, .slice none 0 0, .int .u32 0, .slice none 0 0, .int .u8 0, .bool false, .slice none 0 0] _ _ rfl rfl BO.out.at_ BZ.out.at_ Tryz.underlying28 Tryz.underlying30 rfl rfl hix note_size1) rfl ?_
      have hacc : accOf r (.ok x) = ⟨x, zeroN, false, 0⟩ := by unfold accOf; simp only; rw [if_neg (by rw [HQ.out]; simp)]
      rw [hacc]
      exact ⟨_, _, _, rfl, HVX.out, zero_v _ _, err_none _, HB.out, fun P _ _ => ⟨HAX.out.mono fun k hk => .inr (by omega), zero_av _⟩⟩
    · have hacc : accOf r (.ok x) = ⟨x, pullP x, true, 0⟩ := by unfold accOf; simp only; rw [if_pos HQ.out]
      have HACC := Lib.hid hacc
      clear hacc
      go_wp2_with fail
      refine wp_region_C (fun w' => Blk w' (w.heap.size + 1 + 1) cx 28) HM.out ?_
      have hbd := (Below.refl w2.heap.size w2).drew
      have HC := Lib.hid (BO.out.keep hbd)
      have BZ := Lib.hid (BZ.out.keep hbd)
      have HVX := Lib.hid (HVX.out.later hbd)
      have HB := Lib.hid (HB.out.trans (hbd.mono HB.out.size))
      clear hbd BO x6
      generalize w2.drew = w4 at HC BZ HVX HB ⊢
      refine anyC_take (i := 0) (v := .agg cx) rfl (by kernel_rfl) (by kernel_rfl) (by kernel_rfl) (fun _ _ _ h => h) HC.out (reads_row rfl _ _ rfl (w.heap.size + 1 + 1) rfl 28 cx _ (fun w' hw => hw.at_) Tryz.underlying28 rfl hix) ?_
      refine anyC_take (i := 1) (v := .agg cx) rfl (by kernel_rfl) (by kernel_rfl) (by kernel_rfl) (fun _ _ _ h => h) HC.out (reads_row rfl _ _ rfl (w.heap.size + 1 + 1) rfl 28 cx _ (fun w' hw => hw.at_) Tryz.underlying28 rfl hix) ?_
      refine anyC_one (i := 2) (by decide +kernel) rfl rfl fun K hK => ?_
      go_simp
      refine (tpullOf_any _ x w4 HVX.out HKX.out).mono ?_
      rintro e w5 ⟨v5, rfl, hv5, ha5, hb⟩
      obtain ⟨c5, rfl, hs5, h5⟩ := hv5.row
      have hi5 : (Tryz.prog.info? 30).map (·.size) = some c5.size := by rw [hs5]; exact note_size1
      have hbz := BZ.out.lt
      have HC := Lib.hid (HC.out.keep hb)
      have BZ := Lib.hid (BZ.out.keep hb)
      have HVX := Lib.hid (HVX.out.later hb)
      have HB := Lib.hid (HB.out.trans (hb.mono HB.out.size)); clear hb
      have HA5 := Lib.hid (ha5.mono fun k (hk : w4.heap.size ≤ k) => (by omega : w.heap.size + 1 + 1 + 1 < k))
      refine hK _ _ HC.out ?_
      clear hK
      refine anyC_one (i := 3) (by decide +kernel) rfl rfl fun K hK => ?_
      refine wp_store_row _ _ _ rfl (w.heap.size + 1 + 1) cx rfl rfl 28 cx HC.out.at_ hix rfl hox ?_
      rw [setRow_id HC.out.at_]
      refine hK _ _ HC.out ?_
      clear hK
      refine anyC_one (i := 4) (by decide +kernel) rfl rfl fun K hK => ?_
      refine wp_store_row _ _ _ rfl (w.heap.size + 1 + 1 + 1) c5 rfl rfl 30 #[.int .i64 0, .int .u8 0, .int .u8 0, .int .u32 0, .int .u8 0, .int .u8 0, .slice none 0 0, .int .u32 0, .slice none 0 0, .int .u8 0, .bool false, .slice none 0 0] BZ.out.at_ hi5 (by rw [hs5]; rfl) h5 ?_
      have BZ := Lib.hid (BZ.out.row c5)
      have HC := Lib.hid (HC.out.other (k := w.heap.size + 1 + 1 + 1) (by omega) c5)
      have HVX := Lib.hid (HVX.out.rowOff (g := w.heap.size + 1 + 1 + 1) (HAX.out.mono fun k hk => by omega) c5)
      have HV5 := Lib.hid (hv5.rowOff (g := w.heap.size + 1 + 1 + 1) (HA5.out.mono fun k hk => by omega) c5)
      have HB := Lib.hid (below_setRow1 (B := w.heap.size) (r := w.heap.size + 1 + 1 + 1) HB.out (by omega) c5)
      have hz : (w5.setRow (w.heap.size + 1 + 1 + 1) c5).heap.size = w5.heap.size := by simp [World.setRow]
      rw [← hz] at HVX HV5
      clear hz hv5 ha5
      refine hK _ _ HC.out ?_
      clear hK
      generalize w5.setRow (w.heap.size + 1 + 1 + 1) c5 = w6 at HC BZ HVX HV5 HB ⊢
      refine anyC_one (i := 5) (by decide +kernel) rfl rfl fun K hK => ?_
      go_simp
      refine hK _ _ HC.out ?_
      clear hK
      refine anyC_one (i := 6) (by decide +kernel) rfl rfl fun K hK => ?_
      go_simp
      refine hK _ _ HC.out (anyC_done (by decide +kernel) ?_)
      clear hK
      go_wp2_with fail
      refine bodyPost_ret (v := .tuple #[.agg cx, .agg c5, .bool true, .nilIface]) (results_four Tryz.results9 _ _ (w.heap.size + 1 + 1) (w.heap.size + 1 + 1 + 1) 28 30 cx c5 _ _ rfl rfl HC.out.at_ BZ.out.at_ Tryz.underlying28 Tryz.underlying30 rfl rfl hix hi5) rfl ?_
      rw [HACC.out]
      exact ⟨_, _, _, rfl, HVX.out, HV5.out, err_none _, HB.out, fun P _ _ => ⟨HAX.out.mono fun k hk => .inr (by omega), HA5.out.mono fun k hk => .inr (by omega)⟩⟩
end Go.Proofs.YtfjaeohfigcciabGreatDoor

namespace Go.Proofs.YtfjaeohfigcciabGreatDoor
open Go.RowKit

def findE : List En → Int → En × Bool
  | [], _ => (⟨0, 0, 0, 0, 0, 0, 0⟩, false)
  | x :: r, id => if x.id = id then (x, true) else findE r id

theorem findE_at (id : Int) (x : En) (hx : x.id = id) : ∀ (zs : List En) (k : Nat), zs[k]? = some x → (∀ j, j < k → zs[j]!.id ≠ id) → findE zs id = (x, true)
  | [], k, h, _ => by simp at h
  | y :: r, 0, h, _ => by
    simp at h
    subst h
    simp [findE, hx]
  | y :: r, k + 1, h, hn => by
    have h0 : y.id ≠ id := by simpa using hn 0 (by omega)
    rw [findE, if_neg h0]
    exact findE_at id x hx r k (by simpa using h) (fun j hj => by simpa using hn (j + 1) (by omega))
theorem findE_none (id : Int) : ∀ (zs : List En), (∀ j, j < zs.length → zs[j]!.id ≠ id) → findE zs id = (⟨0, 0, 0, 0, 0, 0, 0⟩, false)
  | [], _ => rfl
  | y :: r, hn => by
    have h0 : y.id ≠ id := by simpa using hn 0 (by simp)
    rw [findE, if_neg h0]
    exact findE_none id r (fun j hj => by simpa using hn (j + 1) (by simpa using hj))

theorem putEn_at {w : World} {g : Nat} {z : En} (h : EnAt w g 0 z) (x : En) : EnAt (putEn w g 0 x) g 0 x := by
  show EnAt (w.setCells g 0 x.enc) g 0 x
  intro i u hu
  have hi : i < x.enc.length := (List.getElem?_eq_some_iff.1 hu).1
  rw [World.cell?_setCells_in g x.enc 0 w (fun j hj => by rw [h j _ (List.getElem?_eq_getElem (by rw [enc_length] at hj ⊢; exact hj))]; rfl) i hi, ← List.getElem?_eq_getElem hi]
  exact hu
theorem putEn_size (w : World) (g o : Nat) (x : En) : (putEn w g o x).heap.size = w.heap.size := by simp [putEn, World.setCell]
theorem putEn_below {B : Nat} {a w : World} (h : Below B a w) {g : Nat} (hg : B ≤ g) (o : Nat) (x : En) : Below B a (putEn w g o x) :=
  ((((((h.setCell (p := ⟨g, _, none⟩) hg _).setCell (p := ⟨g, _, none⟩) hg _).setCell (p := ⟨g, _, none⟩) hg _).setCell (p := ⟨g, _, none⟩) hg _).setCell (p := ⟨g, _, none⟩) hg _).setCell (p := ⟨g, _, none⟩) hg _).setCell (p := ⟨g, _, none⟩) hg _

theorem iFind_ret (W : World) (x : En) (t : Bool) (b : Nat) (a : Act) (post : Ending → World → Prop) (hp : a.tmps[4]?.getD undef = .pointer (some ⟨b, 0, none⟩)) (h5 : a.tmps[5]?.getD undef = .bool t) (hd : a.defers = []) (h : EnAt W b 0 x) (hpost : post (.returned (.tuple #[x.agg, .bool t])) W) :
    bodyPost Tryz.prog Tryz.f65 post Exit.ret a W := by
  obtain ⟨c0, c1, c2, c3, c4, c5, c6⟩ := h.all0
  exact bodyPost_ret (v := .tuple #[x.agg, .bool t]) (by simp [results, Tryz.results65, go_sem, En.agg, hp, h5, c0, c1, c2, c3, c4, c5, c6]) hd hpost

set_option maxHeartbeats 2000000 in
theorem iFind_any (w : World) (v : Value) (zs : List En) (id : Int) (h : ESl w w.heap.size v zs) (hl : zs.length ≤ 9223372036854775807) :
    Calls Tryz.prog 65 #[v, .int .u8 id] w fun e w' => e = .returned (.tuple #[(findE zs id).1.agg, .bool (findE zs id).2]) ∧ Below w.heap.size w w' := by
  obtain ⟨A, c, rfl, _, hok, hA⟩ := h
  have HA := Lib.hid hA; clear hA
  clear hok
  obtain ⟨F, hF⟩ : ∃ F, findE zs id = F := ⟨_, rfl⟩
  rw [hF]
  have HF := Lib.hid hF; clear hF
  have HZ := Lib.hid (new_entry w ⟨0, 0, 0, 0, 0, 0, 0⟩ 62)
  have HZB := Lib.hid (al1 w (.cells #[.int .u8 0, .int .u8 0, .int .u32 0, .int .u32 0, .int .i64 0, .int .u8 0, .int .u32 0] 62))
  have HZF : Hid (∀ j, (w.alloc (.cells #[.int .u8 0, .int .u8 0, .int .u32 0, .int .u32 0, .int .i64 0, .int .u8 0, .int .u32 0] 62)).frozen? ⟨w.heap.size, j, none⟩ = false) := Lib.hid (fun j => frozen_of_row _ _ j _ _ (heap_alloc_new w _))
  have hwz : w.heap.size < (w.alloc (.cells #[.int .u8 0, .int .u8 0, .int .u32 0, .int .u32 0, .int .i64 0, .int .u8 0, .int .u32 0] 62)).heap.size := by simp
  go_enter Tryz.func65, Tryz.ntmps65
  go_wp2_with fail
  generalize w.alloc (.cells #[.int .u8 0, .int .u8 0, .int .u32 0, .int .u32 0, .int .i64 0, .int .u8 0, .int .u32 0] 62) = wz at HZ HZB HZF hwz ⊢
  go_loopw [10] (fun i wr => ∃ k : Nat, i = .int .i64 k ∧ k ≤ zs.length ∧ Hid (∀ j, j < k → zs[j]!.id ≠ id) ∧ Below wz.heap.size wz wr) (fun i _ => zs.length - (intOf i).toNat)
  case atStart => exact ⟨0, rfl, by omega, Lib.hid (fun j hj => absurd hj (by omega)), Below.refl _ _⟩
  case round =>
    obtain ⟨k, rfl, hk, HO, hb⟩ := hrel
    have hz := hb.size
    have HBB := Lib.hid hb
    have HZ1 := Lib.hid (HZ.out.keep hb hwz)
    have HZF1 := Lib.hid (fun j => (hb.frozen (p := ⟨w.heap.size, j, none⟩) hwz).trans (HZF.out j))
    obtain ⟨z0, z1, z2, z3, z4, z5, z6⟩ := HZ1.out.all0
    have hf := HZF1.out
    have hlt2 : w.heap.size < wr.heap.size := by omega
    have hne : w.heap.size ≠ wr.heap.size := by omega
    have hne' : wr.heap.size ≠ w.heap.size := by omega
    by_cases hlt : k < zs.length
    · obtain ⟨b, off, rfl, hbw, hc⟩ := HA.out (by intro h; simp [h] at hlt)
      have hxk : zs[k]? = some zs[k] := List.getElem?_eq_getElem hlt
      generalize zs[k] = x at hxk
      have HB := Lib.hid (egetBang_of hxk)
      obtain ⟨c0, c1, c2, c3, c4, c5, c6⟩ := (((hc k x hxk).keep HZB.out hbw).keep hb (by omega)).all
      have HX := Lib.hid hxk; clear hxk hc hb
      by_cases hid : x.id = id
      · have hid' : (x.id == id) = true := by simp [hid]
        have HID := Lib.hid hid; clear hid
        have key := (putEn_at HZ1.out x).keep ((Below.refl _ _).alloc (Nat.le_refl _) (.cells #[.int .u8 x.id, .int .u8 x.rep, .int .u32 x.seq, .int .u32 x.stamp, .int .i64 x.kind, .int .u8 x.cls, .int .u32 x.val] 62)) (by rw [putEn_size]; exact hlt2)
        have keyB := (putEn_below (HZB.out.trans (HBB.out.mono (by omega))) (Nat.le_refl w.heap.size) 0 x).alloc (by rw [putEn_size]; omega) (.cells #[.int .u8 x.id, .int .u8 x.rep, .int .u32 x.seq, .int .u32 x.stamp, .int .i64 x.kind, .int .u8 x.cls, .int .u32 x.val] 62)
        have KEY := Lib.hid key; clear key
        have KEYB := Lib.hid keyB; clear keyB
        go_wp2
        have key := KEY.out
        have keyB := KEYB.out
        have hFF : F = (x, true) := by rw [← HF.out]; exact findE_at id x HID.out zs k HX.out HO.out
        refine iFind_ret _ x true w.heap.size _ _ rfl rfl rfl (key : EnAt _ _ 0 x) ⟨by rw [hFF], ?_⟩
        exact keyB
      · have hid' : (x.id == id) = false := by simp [hid]
        have HID := Lib.hid hid; clear hid
        clear hf z0 z1 z2 z3 z4 z5 z6
        go_wp2
        go_roundw
        case rel =>
          refine ⟨k + 1, by go_num, by omega, Lib.hid (fun j hj => ?_), HBB.out.alloc hz _⟩
          rcases Nat.lt_or_ge j k with h | h
          · exact HO.out j h
          · obtain rfl : j = k := by omega
            rw [HB.out]; exact HID.out
        case measure => simp [intOf]; omega
    · clear hb
      go_wp2
      have hFF : F = (⟨0, 0, 0, 0, 0, 0, 0⟩, false) := by rw [← HF.out]; exact findE_none id zs (fun j hj => HO.out j (by omega))
      refine iFind_ret _ ⟨0, 0, 0, 0, 0, 0, 0⟩ false w.heap.size _ _ rfl rfl rfl (putEn_at HZ1.out ⟨0, 0, 0, 0, 0, 0, 0⟩) ⟨by rw [hFF], ?_⟩
      exact putEn_below (HZB.out.trans (HBB.out.mono (by omega))) (Nat.le_refl w.heap.size) 0 ⟨0, 0, 0, 0, 0, 0, 0⟩
theorem rFind_ret (W : World) (x : En) (t : Bool) (b : Nat) (a : Act) (post : Ending → World → Prop) (hp : a.tmps[4]?.getD undef = .pointer (some ⟨b, 0, none⟩)) (h5 : a.tmps[5]?.getD undef = .bool t) (hd : a.defers = []) (h : EnAt W b 0 x) (hpost : post (.returned (.tuple #[x.agg, .bool t])) W) :
    bodyPost Tryz.prog Tryz.f27 post Exit.ret a W := by
  obtain ⟨c0, c1, c2, c3, c4, c5, c6⟩ := h.all0
  exact bodyPost_ret (v := .tuple #[x.agg, .bool t]) (by simp [results, Tryz.results27, go_sem, En.agg, hp, h5, c0, c1, c2, c3, c4, c5, c6]) hd hpost

set_option maxHeartbeats 2000000 in
theorem rFind_any (w : World) (v : Value) (zs : List En) (id : Int) (h : ESl w w.heap.size v zs) (hl : zs.length ≤ 9223372036854775807) :
    Calls Tryz.prog 27 #[v, .int .u8 id] w fun e w' => e = .returned (.tuple #[(findE zs id).1.agg, .bool (findE zs id).2]) ∧ Below w.heap.size w w' := by
  obtain ⟨A, c, rfl, _, hok, hA⟩ := h
  have HA := Lib.hid hA; clear hA
  clear hok
  obtain ⟨F, hF⟩ : ∃ F, findE zs id = F := ⟨_, rfl⟩
  rw [hF]
  have HF := Lib.hid hF; clear hF
  have HZ := Lib.hid (new_entry w ⟨0, 0, 0, 0, 0, 0, 0⟩ 62)
  have HZB := Lib.hid (al1 w (.cells #[.int .u8 0, .int .u8 0, .int .u32 0, .int .u32 0, .int .i64 0, .int .u8 0, .int .u32 0] 62))
  have HZF : Hid (∀ j, (w.alloc (.cells #[.int .u8 0, .int .u8 0, .int .u32 0, .int .u32 0, .int .i64 0, .int .u8 0, .int .u32 0] 62)).frozen? ⟨w.heap.size, j, none⟩ = false) := Lib.hid (fun j => frozen_of_row _ _ j _ _ (heap_alloc_new w _))
  have hwz : w.heap.size < (w.alloc (.cells #[.int .u8 0, .int .u8 0, .int .u32 0, .int .u32 0, .int .i64 0, .int .u8 0, .int .u32 0] 62)).heap.size := by simp
  go_enter Tryz.func27, Tryz.ntmps27
  go_wp2_with fail
  generalize w.alloc (.cells #[.int .u8 0, .int .u8 0, .int .u32 0, .int .u32 0, .int .i64 0, .int .u8 0, .int .u32 0] 62) = wz at HZ HZB HZF hwz ⊢
  go_loopw [6] (fun i wr => ∃ k : Nat, i = .int .i64 k ∧ k ≤ zs.length ∧ Hid (∀ j, j < k → zs[j]!.id ≠ id) ∧ Below wz.heap.size wz wr) (fun i _ => zs.length - (intOf i).toNat)
  case atStart => exact ⟨0, rfl, by omega, Lib.hid (fun j hj => absurd hj (by omega)), Below.refl _ _⟩
  case round =>
    obtain ⟨k, rfl, hk, HO, hb⟩ := hrel
    have hz := hb.size
    have HBB := Lib.hid hb
    have HZ1 := Lib.hid (HZ.out.keep hb hwz)
    have HZF1 := Lib.hid (fun j => (hb.frozen (p := ⟨w.heap.size, j, none⟩) hwz).trans (HZF.out j))
    obtain ⟨z0, z1, z2, z3, z4, z5, z6⟩ := HZ1.out.all0
    have hf := HZF1.out
    have hlt2 : w.heap.size < wr.heap.size := by omega
    have hne : w.heap.size ≠ wr.heap.size := by omega
    have hne' : wr.heap.size ≠ w.heap.size := by omega
    by_cases hlt : k < zs.length
    · obtain ⟨b, off, rfl, hbw, hc⟩ := HA.out (by intro h; simp [h] at hlt)
      have hxk : zs[k]? = some zs[k] := List.getElem?_eq_getElem hlt
      generalize zs[k] = x at hxk
      have HB := Lib.hid (egetBang_of hxk)
      obtain ⟨c0, c1, c2, c3, c4, c5, c6⟩ := (((hc k x hxk).keep HZB.out hbw).keep hb (by omega)).all
      have HX := Lib.hid hxk; clear hxk hc hb
      by_cases hid : x.id = id
      · have hid' : (x.id == id) = true := by simp [hid]
        have HID := Lib.hid hid; clear hid
        have key := putEn_at HZ1.out x
        have keyB := putEn_below (HZB.out.trans (HBB.out.mono (by omega))) (Nat.le_refl w.heap.size) 0 x
        have KEY := Lib.hid key; clear key
        have KEYB := Lib.hid keyB; clear keyB
        go_wp2
        have key := KEY.out
        have keyB := KEYB.out
        have hFF : F = (x, true) := by rw [← HF.out]; exact findE_at id x HID.out zs k HX.out HO.out
        refine rFind_ret _ x true w.heap.size _ _ rfl rfl rfl (key : EnAt _ _ 0 x) ⟨by rw [hFF], ?_⟩
        exact keyB
      · have hid' : (x.id == id) = false := by simp [hid]
        have HID := Lib.hid hid; clear hid
        clear hf z0 z1 z2 z3 z4 z5 z6
        go_wp2
        go_roundw
        case rel =>
          refine ⟨k + 1, by go_num, by omega, Lib.hid (fun j hj => ?_), HBB.out⟩
          rcases Nat.lt_or_ge j k with h | h
          · exact HO.out j h
          · obtain rfl : j = k := by omega
            rw [HB.out]; exact HID.out
        case measure => simp [intOf]; omega
    · clear hb
      go_wp2
      have hFF : F = (⟨0, 0, 0, 0, 0, 0, 0⟩, false) := by rw [← HF.out]; exact findE_none id zs (fun j hj => HO.out j (by omega))
      refine rFind_ret _ ⟨0, 0, 0, 0, 0, 0, 0⟩ false w.heap.size _ _ rfl rfl rfl (putEn_at HZ1.out ⟨0, 0, 0, 0, 0, 0, 0⟩) ⟨by rw [hFF], ?_⟩
      exact putEn_below (HZB.out.trans (HBB.out.mono (by omega))) (Nat.le_refl w.heap.size) 0 ⟨0, 0, 0, 0, 0, 0, 0⟩
end Go.Proofs.YtfjaeohfigcciabGreatDoor

