/- For every input the law TargetFetches returns true, and each argument reads behind the call as it read before. Conditions: the variable errorType of package errors holds what the program's text lays in it, which the card ties to that text; no other. -/
import Derived.ProofKit
import Derived.ChangeSame
import Derived.ChangeVars
import Derived.JoinedOf
import Derived.RowKit
import Derived.RowKitTokens
import Derived.LaidLaws
import Derived.LaidHandle
import Derived.Stop.Joined
import Derived.Test.YtfjaeohfigcciabGreatDoorTie
import Derived.Test.YtfjaeohfigcciabGreatDoorCards
import Derived.SevenTiedAt
import Derived.OpenShut
import Derived.ShutString
import Derived.ChangeOld
import Derived.Below
import Derived.Deep.Slices
import Derived.Deep.Fields
import Derived.Lib.EndianBits
import Derived.Test.YtfjaeohfigcciabGreatDoorQF49
import Derived.Test.YtfjaeohfigcciabGreatDoorQF50
import Derived.Test.YtfjaeohfigcciabGreatDoorQF36
import Derived.Test.YtfjaeohfigcciabGreatDoorQF40
import Derived.Test.YtfjaeohfigcciabGreatDoorQF46
import Derived.Test.YtfjaeohfigcciabGreatDoorQF08
set_option linter.unusedVariables false
set_option linter.unusedSimpArgs false
set_option linter.unusedSectionVars false
set_option linter.unnecessarySimpa false
namespace Go.Proofs.YtfjaeohfigcciabGreatDoor
open Go.RowKit

theorem sAnswer_any (v u : Value) (r : Rp) (p : Nt) (w : World) (hv : RpV w w.heap.size v r) (hu : NtV w w.heap.size u p) (h1 : r.know.length ≤ 1000) (h2 : r.held.length ≤ 1000) (h3 : r.ses.offer.length ≤ 1000) :
    Calls Tryz.prog 25 #[v, u] w (AnsFar w (answerR r p)) := by
  have hd := due_refuse r p
  cases hq : refuseR r p with
  | some c =>
    rw [hq] at hd
    have e : answerR r p = .error c := by unfold answerR; rw [hd]
    rw [e]
    exact sAnswer_refused v u r p w hv hu h1 h2 h3 c hq
  | none =>
    rw [hq] at hd
    by_cases hc : p.cur = 0
    · have e : answerR r p = match offerR p.flt r.held r.know with | .ok o => .ok (answerN r p (dueL r.held p.know p.cur) o) | .error c => .error c := by
        unfold answerR
        rw [hd]
        simp only
        rw [if_pos hc]
        rfl
      rw [e]
      exact sAnswer_first v u r p w hv hu h1 h2 h3 hq hc
    · have e : answerR r p = .ok (answerN r p (dueL r.held p.know p.cur) []) := by
        unfold answerR
        rw [hd]
        simp only
        rw [if_neg hc]
      rw [e]
      exact sAnswer_later v u r p w hv hu h1 h2 h3 hq hc
theorem due_said : DueSaid 24 := fun v u r p w hv hu hs _ => sDue_any v u r p w hv hu (Nat.le_trans hs.1 (by decide)) (Nat.le_trans hs.2.1 (by decide)) (Nat.le_trans hs.2.2 (by decide))

end Go.Proofs.YtfjaeohfigcciabGreatDoor

namespace Go.Proofs.YtfjaeohfigcciabGreatDoor
open Go.RowKit

theorem drop_pos {k : List Rn} {p n c : Int} (h : dropR k p n = .error c) : 0 < c := by
  unfold dropR at h
  split at h
  · unfold lim at h
    split at h
    · cases h
    · injection h with h; omega
  · injection h with h; omega
theorem offer_pos {f : Int} : ∀ (es : List En) (k : List Rn) (c : Int), offerR f es k = .error c → 0 < c
  | [], k, c, h => by unfold offerR at h; cases h
  | e :: es, k, c, h => by
    unfold offerR at h
    split at h
    · cases hd : dropR k e.rep e.seq with
      | ok k' => rw [hd] at h; exact offer_pos es k' c h
      | error d => rw [hd] at h; injection h with h; rw [← h]; exact drop_pos hd
    · exact offer_pos es k c h
theorem answer_pos {r : Rp} {p : Nt} {c : Int} (h : answerR r p = .error c) : 0 < c := by
  unfold answerR at h
  rw [due_refuse] at h
  cases hq : refuseR r p with
  | some d =>
    rw [hq] at h
    injection h with h
    unfold refuseR at hq
    split at hq
    · injection hq with hq; omega
    · split at hq
      · injection hq with hq; omega
      · split at hq
        · injection hq with hq; omega
        · cases hq
  | none =>
    rw [hq] at h
    simp only at h
    split at h
    · cases ho : offerR p.flt r.held r.know with
      | ok o => rw [ho] at h; cases h
      | error d => rw [ho] at h; injection h with h; rw [← h]; exact offer_pos _ _ _ ho
    · cases h
theorem answer_is : AnswerIs 25 := by
  intro v u r p w hg hv hu hs hp
  refine (sAnswer_any v u r p w hv hu (Nat.le_trans hs.1 (by decide)) (Nat.le_trans hs.2.1 (by decide)) (Nat.le_trans hs.2.2 (by decide))).mono fun e w' hx => ?_
  cases hA : answerR r p with
  | ok n =>
    rw [hA] at hx
    obtain ⟨v1, he, hn, hb, hav⟩ := hx
    exact ⟨v1, he, hn, hb, fun P _ _ => hav.mono (fun k hk => .inr hk)⟩
  | error c =>
    rw [hA] at hx
    obtain ⟨he, hb⟩ := hx
    exact ⟨_, _, he, err_is (answer_pos hA) (hg.later hb), hb⟩
end Go.Proofs.YtfjaeohfigcciabGreatDoor

namespace Go.Proofs.YtfjaeohfigcciabGreatDoor
open Go.ChangeShapes Go.WideShapes Go.RowKit

theorem own : ownKnob Tryz.prog.godebug = none := by kernel_rfl
theorem laidOut : laidOutB Tryz.prog = true := by kernel_rfl
theorem dl_et : Tryz.prog.globalNamed "errors.errorType" = some 0 := by kernel_rfl
theorem dl_rt : (Tryz.prog.cutTypes.find? (·.1 == "internal/reflectlite.rtype")).map (·.2) = some 140 := by kernel_rfl
theorem dl_oneRow : ((List.range 234).filter fun t => Tryz.prog.rowNamed t [101, 114, 114, 111, 114]) = [35] := by kernel_rfl
theorem dl_size : Tryz.prog.types.size = 234 := by kernel_rfl

theorem err_of_laid {W : World} (h : laidMetH Tryz.prog [("errors.errorType", Rows.laid_errors_errorType)] W) : ErrVar W := by
  have h' : laidMet Tryz.prog [] W ∧ handlesMet Tryz.prog [("errors.errorType", Rows.laid_errors_errorType)] W := h
  obtain ⟨name, u, ty, e1, e2, e3, e4, e5⟩ := h'.2 _ (List.mem_singleton.2 rfl)
  have en : name = [101, 114, 114, 111, 114] := (Option.some.inj e1).symm
  subst en
  obtain rfl := Option.some.inj (dl_rt.symm.trans e2)
  have hm : ty ∈ (List.range 234).filter fun t => Tryz.prog.rowNamed t [101, 114, 114, 111, 114] := List.mem_filter.2 ⟨List.mem_range.2 (by rw [← dl_size]; exact e3), e4⟩
  rw [dl_oneRow] at hm
  obtain rfl := List.mem_singleton.1 hm
  have hh : typeHandle Tryz.prog 35 = .pointer (some ⟨1, 35, none⟩) := by kernel_rfl
  rw [hh] at e5
  show W.cell? ⟨0, 0, none⟩ = _
  simpa using World.var?_cell dl_et e5 0

/-- a world with that variable's cell laid -/
def layErr (w0 : World) : World :=
  { w0 with heap := w0.heap.modify 0 fun
      | .cells _ t frozen => .cells #[.iface 140 (.agg #[.pointer (some ⟨1, 35, none⟩)])] t frozen
      | o => o }
theorem layErr_met (os : Os) (args : Array Value) : laidMetH Tryz.prog [("errors.errorType", Rows.laid_errors_errorType)] ((layErr (World.holding Tryz.prog os ⟨#[], #[], []⟩)).forCall (fun _ _ => 0) ⟨#[], args, []⟩).memory :=
  laidMetH_of_parts (laidMet_nil _ _) (by kernel_rfl)
end Go.Proofs.YtfjaeohfigcciabGreatDoor

namespace Go.Proofs.YtfjaeohfigcciabGreatDoor
open Go.ChangeShapes Go.WideShapes Go.ChangeAt Go.RowKit

set_option maxRecDepth 100000 in
theorem targetFetches_lifted (os : Os) (started : os.Started) (H : Type) (enc : TypeId × Value → H) :
    ReturnsInHanded {} Tryz.checked os 5 .any (fun w args => (Rows.targetFetchesSpec.pre enc Tryz.prog Tryz.f5 [] false w args ∧ laidMetH Tryz.prog [("errors.errorType", Rows.laid_errors_errorType)] w) ∧ sizedMet enc Tryz.prog Tryz.f5 (OpenSpec.ofChange Rows.targetFetchesSpec) false w args)
      (Rows.targetFetchesSpec.post enc Tryz.prog Tryz.f5 false true false false) := by
  refine returnsInHanded_of_change_and (C := Tryz.checked) (X := fun w _ => laidMetH Tryz.prog [("errors.errorType", Rows.laid_errors_errorType)] w) (fun _ _ _ hh h => h.of_heap hh) own started (by kernel_rfl) Tryz.func5
    (ChangeSpec.witness_at (enc := enc) (C := Tryz.checked) (os := os) (X := fun w _ => laidMetH Tryz.prog [("errors.errorType", Rows.laid_errors_errorType)] w) false (layErr (World.holding Tryz.prog os ⟨#[], #[], []⟩)) #[repZero, repZero] 8 rfl (by kernel_rfl) (by kernel_rfl) (by kernel_rfl) (by kernel_rfl) (by kernel_rfl) (layErr_met os _)) ?_
  intro W base args ds gs before hval0 hW _ _ hL _
  have hval : ∀ (j : Nat) t v, Tryz.f5.params[j]? = some t → args[j]? = some v → Value.okWide Tryz.prog W .any base t v := hval0
  have hW' := hW
  obtain ⟨p, q, hA0, hV, rfl, hfz, hnd⟩ := hW
  have hA : DataW.TrodAll enc Tryz.prog W 0 (fun _ => true) true Tryz.f5.params.toList args.toList ds p := hA0
  rw [Tryz.params5] at hA hval
  obtain ⟨v0, vs0, d0, ds0, p0, q0, hargs, rfl, rfl, h0, r0⟩ := trodAll_cons hA
  obtain ⟨v1, vs1, d1, ds1, p1, q1, rfl, rfl, rfl, h1, r1⟩ := trodAll_cons r0
  obtain ⟨rfl, rfl, rfl⟩ := trodAll_nil r1
  obtain rfl : args = #[v0, v1] := by cases args; simp_all
  obtain ⟨rfl, rfl⟩ := trodVars_none hV
  have k0 := h0
  have lt0 : ∀ x ∈ p0, x.block < W.heap.size := by obtain ⟨m, hm⟩ := k0; exact DataW.trod_lt m _ _ _ hm
  have k1 := h1
  have lt1 : ∀ x ∈ p1, x.block < W.heap.size := by obtain ⟨m, hm⟩ := k1; exact DataW.trod_lt m _ _ _ hm
  obtain ⟨y0, sy0, la0, lb0, lc0⟩ := open_rep (hval 0 28 v0 rfl rfl) h0
  obtain ⟨y1, sy1, la1, lb1, lc1⟩ := open_rep (hval 1 28 v1 rfl rfl) h1
  have hg := err_of_laid hL
  clear hA0 hval0
  refine (tfetches_any _ _ y0 y1 W sy0 sy1 hg tawake_said tBegin_said due_said answer_is tAccept_said).mono fun e W' ⟨he, bel⟩ => ?_
  subst he
  exact ⟨_, rfl, _, _, _, [], _, [], hW', trodAll_mk1 (shut_bool Tryz.underlying4 _), (trodAll_cons_mk (Below.trod laidOut (by kernel_rfl) (of_decide_eq_true (by kernel_rfl)) k0 bel lt0) (trodAll_cons_mk (Below.trod laidOut (by kernel_rfl) (of_decide_eq_true (by kernel_rfl)) k1 bel lt1) trodAll_mk0)), rfl, bel.frame _, fun h => by cases h⟩

theorem targetFetches_row : Rows.TargetFetchesSaid :=
  OpenClaim.holds_of_wide 5 Tryz.f5 rfl rfl rfl rfl rfl rfl rfl ⟨rfl, rfl, rfl, rfl, rfl⟩ rfl rfl rfl rfl rfl (by kernel_rfl) Tryz.func5 (by kernel_rfl)
    (of_decide_eq_true (by kernel_rfl)) (by unfold Func.isWrapper; first | (rw [if_pos (by decide +kernel)]; kernel_rfl) | (rw [if_neg (by decide +kernel)]; exact ⟨rfl, rfl⟩))
    (fun os started H enc _ => targetFetches_lifted os started H enc)

theorem targetFetches_holds : Rows.TargetFetchesCardSaid :=
  Claim7.holds_tied_plain_at .later [] [.handle] true Rows.targetFetchesCard.stood.harness true
    targetFetches_row (fun _ h => by cases h) (by kernel_rfl) (fun _ h => by cases h) targetFetches_row_tie rfl ⟨rfl, rfl⟩ (by kernel_rfl) rfl
    (fun f fn hf hfn => by
      obtain rfl : f = 5 := Option.some.inj ((show Tryz.prog.funcNamed Rows.targetFetchesRow.func = some 5 by kernel_rfl).symm.trans hf) |>.symm
      obtain rfl : fn = Tryz.f5 := (Option.some.inj (Tryz.func5.symm.trans hfn)).symm
      exact ⟨by kernel_rfl, fun j t ht => by
        rw [Tryz.params5] at ht
        have hm : t ∈ #[28, 28] := Array.mem_of_getElem? ht
        have h3 : t = 28 := by
          simp at hm
          omega
        rcases h3 with rfl
        · exact (show Tryz.prog.wantsStandIn 28 = false by kernel_rfl)
        ⟩)
    (by kernel_rfl)

end Go.Proofs.YtfjaeohfigcciabGreatDoor

