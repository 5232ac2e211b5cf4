/- For every input the law TargetAccepts returns true, and each argument reads behind the call as it read before. Conditions: the variable errorType of package errors holds what the program's text lays in it, which the card ties to that text; no other. -/
import Derived.ProofKit
import Derived.ChangeSame
import Derived.ChangeVars
import Derived.JoinedOf
import Derived.RowKit
import Derived.RowKitTokens
import Derived.LaidLaws
import Derived.LaidHandle
import Derived.Stop.Joined
import Derived.Test.YtfjaeohfigcciabGreatDoorTie
import Derived.Test.YtfjaeohfigcciabGreatDoorCards
import Derived.SevenTiedAt
import Derived.OpenShut
import Derived.ShutString
import Derived.ChangeOld
import Derived.Below
import Derived.Deep.Slices
import Derived.Deep.Fields
import Derived.Lib.EndianBits
import Derived.Test.YtfjaeohfigcciabGreatDoorQA48
import Derived.Test.YtfjaeohfigcciabGreatDoorQA49
import Derived.Test.YtfjaeohfigcciabGreatDoorQA38
import Derived.Test.YtfjaeohfigcciabGreatDoorQA39
import Derived.Test.YtfjaeohfigcciabGreatDoorQA40
import Derived.Test.YtfjaeohfigcciabGreatDoorQA37
import Derived.Test.YtfjaeohfigcciabGreatDoorQA29
import Derived.Test.YtfjaeohfigcciabGreatDoorQA33
import Derived.Test.YtfjaeohfigcciabGreatDoorQA06
set_option linter.all false
namespace Go.Proofs.YtfjaeohfigcciabGreatDoor
open Go.RowKit

theorem q7Accept_any (v v2 : Value) (r : Rp) (n : Nt) (w : World) (hv : RpV w w.heap.size v r) (hv2 : NtV w w.heap.size v2 n) (h1 : r.know.length ≤ 1000) (h2 : r.held.length ≤ 1000) (h3 : r.ses.offer.length ≤ 1000) (g1 : n.know.length ≤ 1000) (g2 : n.ents.length ≤ 1000) (g3 : n.offer.length ≤ 1000) :
    Calls Tryz.prog 10 #[v,v2] w (AccPost w (acceptR r n)) := by
  unfold acceptR
  by_cases hr : rpB r = false
  · rw [if_pos hr]
    exact q7Accept_no1 v v2 r n w hv hv2 h1 h2 h3 g1 g2 g3 hr
  rw [if_neg hr]
  have hr : rpB r = true := by simpa using hr
  by_cases hn : noteB n = false
  · rw [if_pos hn]
    exact q7Accept_no2 v v2 r n w hv hv2 h1 h2 h3 g1 g2 g3 hr hn
  rw [if_neg hn]
  have hn : noteB n = true := by simpa using hn
  by_cases hw : waitB r n = false
  · rw [if_pos hw]
    exact q7Accept_no3 v v2 r n w hv hv2 h1 h2 h3 g1 g2 g3 hr hn hw
  rw [if_neg hw]
  have hw : waitB r n = true := by simpa using hw
  by_cases hcl : clashB r n = true
  · rw [if_pos hcl]
    by_cases hc : n.ents.any (aheadE r) = true
    · exact q7Accept_ahead v v2 r n w hv hv2 h1 h2 h3 g1 g2 g3 hr hn hw hc
    have hc : n.ents.any (aheadE r) = false := by simpa using hc
    by_cases ht : (List.range n.ents.length).any (twiceAt r.held n.ents) = true
    · exact q7Accept_twice v v2 r n w hv hv2 h1 h2 h3 g1 g2 g3 hr hn hw h2 hc ht
    have ht : (List.range n.ents.length).any (twiceAt r.held n.ents) = false := Bool.eq_false_iff.2 ht
    have hp : topB r.rep r.seq n.offer = false := by
      cases hp : topB r.rep r.seq n.offer with
      | false => rfl
      | true => rw [clash_parts.2 ⟨hc,ht,hp⟩] at hcl; cases hcl
    exact q7Accept_offer v v2 r n w hv hv2 h1 h2 h3 g1 g2 g3 hr hn hw h2 g3 hc ht hp
  have hcl : clashB r n = false := Bool.eq_false_iff.2 hcl
  rw [if_neg (by rw [hcl]; decide)]
  obtain ⟨hc,ht,hp⟩ := clash_parts.1 hcl
  by_cases hend : 0 < n.cur ∧ n.epoch ≠ r.ses.epoch
  · rw [if_pos hend]
    exact q7Accept_ended v v2 r n w hv hv2 h1 h2 h3 g1 g2 g3 hr hn hw h2 g3 hc ht hp hend.1 (by simpa using hend.2)
  rw [if_neg hend]
  refine q7Accept_takes v v2 r n w hv hv2 h1 h2 h3 g1 g2 g3 hr hn hw h2 g3 hc ht hp ?_
  have h0 : 0 ≤ n.cur := hv2.nok_.2.2.2.2.1.1
  by_cases hz : n.cur = 0
  · exact .inl hz
  · refine .inr ⟨by omega,?_⟩
    rw [bne_eq_false_iff_eq]
    by_cases he : n.epoch = r.ses.epoch
    · exact he
    · exact absurd ⟨by omega,he⟩ hend
end Go.Proofs.YtfjaeohfigcciabGreatDoor

namespace Go.Proofs.YtfjaeohfigcciabGreatDoor
open Go.RowKit

theorem ref_accept_said : RefAcceptSaid 10 := fun v u r b w hv hu hs hp =>
  q7Accept_any v u r b w hv hu (Nat.le_trans hs.1 (by decide)) (Nat.le_trans hs.2.1 (by decide)) (Nat.le_trans hs.2.2 (by decide)) (Nat.le_trans hp.1 (by decide)) (Nat.le_trans hp.2.1 (by decide)) (Nat.le_trans hp.2.2 (by decide))
end Go.Proofs.YtfjaeohfigcciabGreatDoor

namespace Go.Proofs.YtfjaeohfigcciabGreatDoor
open Go.ChangeShapes Go.WideShapes Go.RowKit

theorem own : ownKnob Tryz.prog.godebug = none := by kernel_rfl
theorem laidOut : laidOutB Tryz.prog = true := by kernel_rfl
theorem dl_et : Tryz.prog.globalNamed "errors.errorType" = some 0 := by kernel_rfl
theorem dl_rt : (Tryz.prog.cutTypes.find? (·.1 == "internal/reflectlite.rtype")).map (·.2) = some 140 := by kernel_rfl
theorem dl_oneRow : ((List.range 234).filter fun t => Tryz.prog.rowNamed t [101,114,114,111,114]) = [35] := by kernel_rfl
theorem dl_size : Tryz.prog.types.size = 234 := by kernel_rfl

theorem err_of_laid {W : World} (h : laidMetH Tryz.prog [("errors.errorType",Rows.laid_errors_errorType)] W) : ErrVar W := by
  have h' : laidMet Tryz.prog [] W ∧ handlesMet Tryz.prog [("errors.errorType",Rows.laid_errors_errorType)] W := h
  obtain ⟨name,u,ty,e1,e2,e3,e4,e5⟩ := h'.2 _ (List.mem_singleton.2 rfl)
  have en : name = [101,114,114,111,114] := (Option.some.inj e1).symm
  subst en
  obtain rfl := Option.some.inj (dl_rt.symm.trans e2)
  have hm : ty ∈ (List.range 234).filter fun t => Tryz.prog.rowNamed t [101,114,114,111,114] := List.mem_filter.2 ⟨List.mem_range.2 (by rw [← dl_size]; exact e3),e4⟩
  rw [dl_oneRow] at hm
  obtain rfl := List.mem_singleton.1 hm
  have hh : typeHandle Tryz.prog 35 = .pointer (some ⟨1,35,none⟩) := by kernel_rfl
  rw [hh] at e5
  show W.cell? ⟨0,0,none⟩ = _
  simpa using World.var?_cell dl_et e5 0

def layErr (w0 : World) : World :=
  { w0 with heap := w0.heap.modify 0 fun
      | .cells _ t frozen => .cells #[.iface 140 (.agg #[.pointer (some ⟨1,35,none⟩)])] t frozen
      | o => o }
theorem layErr_met (os : Os) (args : Array Value) : laidMetH Tryz.prog [("errors.errorType",Rows.laid_errors_errorType)] ((layErr (World.holding Tryz.prog os ⟨#[],#[],[]⟩)).forCall (fun _ _ => 0) ⟨#[],args,[]⟩).memory :=
  laidMetH_of_parts (laidMet_nil _ _) (by kernel_rfl)
end Go.Proofs.YtfjaeohfigcciabGreatDoor

namespace Go.Proofs.YtfjaeohfigcciabGreatDoor
open Go.ChangeShapes Go.WideShapes Go.ChangeAt Go.RowKit

set_option maxRecDepth 100000 in
theorem targetAccepts_lifted (os : Os) (started : os.Started) (H : Type) (enc : TypeId × Value → H) :
    ReturnsInHanded {} Tryz.checked os 3 .any (fun w args => (Rows.targetAcceptsSpec.pre enc Tryz.prog Tryz.f3 [] false w args ∧ laidMetH Tryz.prog [("errors.errorType",Rows.laid_errors_errorType)] w) ∧ sizedMet enc Tryz.prog Tryz.f3 (OpenSpec.ofChange Rows.targetAcceptsSpec) false w args)
      (Rows.targetAcceptsSpec.post enc Tryz.prog Tryz.f3 false true false false) := by
  refine returnsInHanded_of_change_and (C := Tryz.checked) (X := fun w _ => laidMetH Tryz.prog [("errors.errorType",Rows.laid_errors_errorType)] w) (fun _ _ _ hh h => h.of_heap hh) own started (by kernel_rfl) Tryz.func3
    (ChangeSpec.witness_at (enc := enc) (C := Tryz.checked) (os := os) (X := fun w _ => laidMetH Tryz.prog [("errors.errorType",Rows.laid_errors_errorType)] w) false (layErr (World.holding Tryz.prog os ⟨#[],#[],[]⟩)) #[repZero,noteZero] 8 rfl (by kernel_rfl) (by kernel_rfl) (by kernel_rfl) (by kernel_rfl) (by kernel_rfl) (layErr_met os _)) ?_
  intro W base args ds gs before hval0 hW _ _ hL _
  have hval : ∀ (j : Nat) t v,Tryz.f3.params[j]? = some t → args[j]? = some v → Value.okWide Tryz.prog W .any base t v := hval0
  have hW' := hW
  obtain ⟨p,q,hA0,hV,rfl,hfz,hnd⟩ := hW
  have hA : DataW.TrodAll enc Tryz.prog W 0 (fun _ => true) true Tryz.f3.params.toList args.toList ds p := hA0
  rw [Tryz.params3] at hA hval
  obtain ⟨v0,vs0,d0,ds0,p0,q0,hargs,rfl,rfl,h0,r0⟩ := trodAll_cons hA
  obtain ⟨v1,vs1,d1,ds1,p1,q1,rfl,rfl,rfl,h1,r1⟩ := trodAll_cons r0
  obtain ⟨rfl,rfl,rfl⟩ := trodAll_nil r1
  obtain rfl : args = #[v0,v1] := by cases args; simp_all
  obtain ⟨rfl,rfl⟩ := trodVars_none hV
  have k0 := h0
  have lt0 : ∀ x ∈ p0,x.block < W.heap.size := by obtain ⟨m,hm⟩ := k0; exact DataW.trod_lt m _ _ _ hm
  have k1 := h1
  have lt1 : ∀ x ∈ p1,x.block < W.heap.size := by obtain ⟨m,hm⟩ := k1; exact DataW.trod_lt m _ _ _ hm
  obtain ⟨y0,sy0,la0,lb0,lc0⟩ := open_rep (hval 0 28 v0 rfl rfl) h0
  obtain ⟨y1,sy1,la1,lb1,lc1⟩ := open_note (hval 1 30 v1 rfl rfl) h1
  have hg := err_of_laid hL
  clear hA0 hval0
  refine (taccepts_any _ _ y0 y1 W sy0 sy1 hg tawake_said tAccept_said ref_accept_said).mono fun e W' ⟨he,bel⟩ => ?_
  subst he
  exact ⟨_,rfl,_,_,_,[],_,[],hW',trodAll_mk1 (shut_bool Tryz.underlying4 _),(trodAll_cons_mk (Below.trod laidOut (by kernel_rfl) (of_decide_eq_true (by kernel_rfl)) k0 bel lt0) (trodAll_cons_mk (Below.trod laidOut (by kernel_rfl) (of_decide_eq_true (by kernel_rfl)) k1 bel lt1) trodAll_mk0)),rfl,bel.frame _,fun h => by cases h⟩

theorem targetAccepts_row : Rows.TargetAcceptsSaid :=
  OpenClaim.holds_of_wide 3 Tryz.f3 rfl rfl rfl rfl rfl rfl rfl ⟨rfl,rfl,rfl,rfl,rfl⟩ rfl rfl rfl rfl rfl (by kernel_rfl) Tryz.func3 (by kernel_rfl)
    (of_decide_eq_true (by kernel_rfl)) (by unfold Func.isWrapper; first | (rw [if_pos (by decide +kernel)]; kernel_rfl) | (rw [if_neg (by decide +kernel)]; exact ⟨rfl,rfl⟩))
    (fun os started H enc _ => targetAccepts_lifted os started H enc)

theorem targetAccepts_holds : Rows.TargetAcceptsCardSaid :=
  Claim7.holds_tied_plain_at .later [] [.handle] true Rows.targetAcceptsCard.stood.harness true
    targetAccepts_row (fun _ h => by cases h) (by kernel_rfl) (fun _ h => by cases h) targetAccepts_row_tie rfl ⟨rfl,rfl⟩ (by kernel_rfl) rfl
    (fun f fn hf hfn => by
      obtain rfl : f = 3 := Option.some.inj ((show Tryz.prog.funcNamed Rows.targetAcceptsRow.func = some 3 by kernel_rfl).symm.trans hf) |>.symm
      obtain rfl : fn = Tryz.f3 := (Option.some.inj (Tryz.func3.symm.trans hfn)).symm
      exact ⟨by kernel_rfl,fun j t ht => by
        rw [Tryz.params3] at ht
        have hm : t ∈ #[28,30] := Array.mem_of_getElem? ht
        have h3 : t = 30 ∨ t = 28 := by
          first
            | (simp at hm; rcases hm with hm | hm; exact Or.inl hm; exact Or.inr hm)
            | (simp at hm; rcases hm with hm | hm; exact Or.inr hm; exact Or.inl hm)
            | (rcases j with _ | j; exact Or.inr (Option.some.inj ht).symm; rcases j with _ | j; exact Or.inl (Option.some.inj ht).symm; simp at ht)
            | (simp at hm; omega)
        rcases h3 with rfl | rfl
        · exact (show Tryz.prog.wantsStandIn 30 = false by kernel_rfl)
        · exact (show Tryz.prog.wantsStandIn 28 = false by kernel_rfl)
        ⟩)
    (by kernel_rfl)

end Go.Proofs.YtfjaeohfigcciabGreatDoor

