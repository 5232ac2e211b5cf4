/- For every input the law TargetBegins returns true, and each argument reads behind the call as it read before. Conditions: the variable errorType of package errors holds what the program's text lays in it, which the card ties to that text; no other. -/
import Derived.ProofKit
import Derived.OpenShut
import Derived.ChangeOld
import Derived.Deep.Slices
import Derived.Deep.Fields
import Derived.Lib.EndianBits
import Derived.ChangeSame
import Derived.ChangeVars
import Derived.JoinedOf
import Derived.RowKit
import Derived.RowKitTokens
import Derived.LaidLaws
import Derived.LaidHandle
import Derived.Stop.Joined
import Derived.Test.YtfjaeohfigcciabGreatDoorTie
import Derived.Test.YtfjaeohfigcciabGreatDoorCards
import Derived.SevenTiedAt
import Derived.ShutString
import Derived.Below
import Derived.Test.YtfjaeohfigcciabGreatDoorQB43
import Derived.Test.YtfjaeohfigcciabGreatDoorQB44
import Derived.Test.YtfjaeohfigcciabGreatDoorQB45
import Derived.Test.YtfjaeohfigcciabGreatDoorQB46
import Derived.Test.YtfjaeohfigcciabGreatDoorQB09
import Derived.Test.YtfjaeohfigcciabGreatDoorQB35
import Derived.Test.YtfjaeohfigcciabGreatDoorQB40
set_option linter.unusedVariables false
set_option linter.unusedSimpArgs false
set_option linter.unusedSectionVars false
set_option linter.unnecessarySimpa false
namespace Go.Proofs.YtfjaeohfigcciabGreatDoor
open Go.RowKit

set_option maxHeartbeats 4000000 in
set_option maxRecDepth 100000 in
theorem tbegins_long (v : Value) (r : Rp) (src : Int) (w : World) (hv : RpV w w.heap.size v r) (hg : ErrVar w) (hsrc : 0 ≤ src ∧ src ≤ 255) (haw : AwakeSaidE 6) (hbe : BeginSaid 14) (hag : AgainSaid 18) (hqu : QuitSaid 19) (hri : RightSaid 17) (hs : ¬ (r.know.length ≤ 300 ∧ r.held.length ≤ 300 ∧ r.ses.offer.length ≤ 300)) :
    Calls Tryz.prog 4 #[v, .int .u8 src] w fun e w' => e = .returned (.bool true) ∧ Below w.heap.size w w' := by
  have AW := Lib.hid (fun w1 (hb : Below w.heap.size w w1) => haw w1 (hg.later hb))
  have s1 := fun w1 (hb : Below w.heap.size w w1) => q5Short_any v r w1 (hv.later hb)
  rw [decide_eq_false hs] at s1
  have S1 := Lib.hid s1
  clear s1 hs haw hbe hag hqu hri hg
  obtain ⟨vk, vh, vo, rfl, hk, hh, ho, hok⟩ := hv
  obtain ⟨Ak, ck, rfl, _⟩ := hk
  obtain ⟨Ah, ch, rfl, _⟩ := hh
  obtain ⟨Ao, co, rfl, _⟩ := ho
  clear hok
  unfold Rp.cells at S1 ⊢
  go_enter Tryz.func4, Tryz.ntmps4
  go_wp2_with fail
  have HB := Lib.hid (al1 w (.cells #[.int .u8 r.rep, .int .u8 r.flt, .int .u32 r.epoch, .int .u32 r.seq, .slice Ak r.know.length ck, .slice Ah r.held.length ch, .bool r.ses.on, .int .u32 r.ses.num, .int .u8 r.ses.src, .int .u8 r.ses.cur, .int .u32 r.ses.epoch, .slice Ao r.ses.offer.length co, .int .u32 r.ses.last] 28))
  have BR := Lib.hid (Blk.new w #[.int .u8 r.rep, .int .u8 r.flt, .int .u32 r.epoch, .int .u32 r.seq, .slice Ak r.know.length ck, .slice Ah r.held.length ch, .bool r.ses.on, .int .u32 r.ses.num, .int .u8 r.ses.src, .int .u8 r.ses.cur, .int .u32 r.ses.epoch, .slice Ao r.ses.offer.length co, .int .u32 r.ses.last] 28)
  generalize w.alloc (.cells #[.int .u8 r.rep, .int .u8 r.flt, .int .u32 r.epoch, .int .u32 r.seq, .slice Ak r.know.length ck, .slice Ah r.held.length ch, .bool r.ses.on, .int .u32 r.ses.num, .int .u8 r.ses.src, .int .u8 r.ses.cur, .int .u32 r.ses.epoch, .slice Ao r.ses.offer.length co, .int .u32 r.ses.last] 28) = wz at HB BR ⊢
  refine (AW.out wz HB.out).mono ?_
  rintro e w1 ⟨rfl, hb⟩
  have BR := Lib.hid (BR.out.keep hb)
  have HB := Lib.hid (HB.out.trans (hb.mono HB.out.size)); clear hb
  have c0 := BR.out.cell 0 (.int .u8 r.rep) rfl
  have c1 := BR.out.cell 1 (.int .u8 r.flt) rfl
  have c2 := BR.out.cell 2 (.int .u32 r.epoch) rfl
  have c3 := BR.out.cell 3 (.int .u32 r.seq) rfl
  have c4 := BR.out.cell 4 (.slice Ak r.know.length ck) rfl
  have c5 := BR.out.cell 5 (.slice Ah r.held.length ch) rfl
  have c6 := BR.out.cell 6 (.bool r.ses.on) rfl
  have c7 := BR.out.cell 7 (.int .u32 r.ses.num) rfl
  have c8 := BR.out.cell 8 (.int .u8 r.ses.src) rfl
  have c9 := BR.out.cell 9 (.int .u8 r.ses.cur) rfl
  have c10 := BR.out.cell 10 (.int .u32 r.ses.epoch) rfl
  have c11 := BR.out.cell 11 (.slice Ao r.ses.offer.length co) rfl
  have c12 := BR.out.cell 12 (.int .u32 r.ses.last) rfl
  go_wp2_with fail
  refine (S1.out w1 HB.out).mono ?_
  rintro e w2 ⟨rfl, hb⟩
  have HB := Lib.hid (HB.out.trans (hb.mono HB.out.size)); clear hb
  go_wp2_with fail
  go_ret
  exact ⟨rfl, HB.out⟩
theorem tbegins_any (v : Value) (r : Rp) (src : Int) (w : World) (hv : RpV w w.heap.size v r) (hg : ErrVar w) (hsrc : 0 ≤ src ∧ src ≤ 255) (haw : AwakeSaidE 6) (hbe : BeginSaid 14) (hag : AgainSaid 18) (hqu : QuitSaid 19) (hri : RightSaid 17) :
    Calls Tryz.prog 4 #[v, .int .u8 src] w fun e w' => e = .returned (.bool true) ∧ Below w.heap.size w w' := by
  by_cases hs : shortR r
  · by_cases hc : (beginR r src).2.2 = 0
    · by_cases hon : onR r = 0
      · exact tbegins_a v r src w hv hg hsrc haw hbe hag hqu hri hs hc hon
      · exact tbegins_b v r src w hv hg hsrc haw hbe hag hqu hri hs hc hon
    · by_cases hon : onR r = 0
      · exact tbegins_c v r src w hv hg hsrc haw hbe hag hqu hri hs hc hon
      · exact tbegins_d v r src w hv hg hsrc haw hbe hag hqu hri hs hc hon
  · exact tbegins_long v r src w hv hg hsrc haw hbe hag hqu hri hs
end Go.Proofs.YtfjaeohfigcciabGreatDoor

namespace Go.Proofs.YtfjaeohfigcciabGreatDoor
open Go.ChangeShapes Go.WideShapes Go.RowKit Go.Deep

theorem byte_bounds {n : Int} (h : (Lit.int .u8 n).wf = true) : 0 ≤ n ∧ n ≤ 255 := by
  have h1 : IntKind.u8.min = 0 := rfl
  have h2 : IntKind.u8.max = 255 := rfl
  simp [Lit.wf, h1, h2] at h
  omega
end Go.Proofs.YtfjaeohfigcciabGreatDoor

namespace Go.Proofs.YtfjaeohfigcciabGreatDoor
open Go.ChangeShapes Go.WideShapes Go.RowKit

theorem own : ownKnob Tryz.prog.godebug = none := by kernel_rfl
theorem laidOut : laidOutB Tryz.prog = true := by kernel_rfl
theorem dl_et : Tryz.prog.globalNamed "errors.errorType" = some 0 := by kernel_rfl
theorem dl_rt : (Tryz.prog.cutTypes.find? (·.1 == "internal/reflectlite.rtype")).map (·.2) = some 140 := by kernel_rfl
theorem dl_oneRow : ((List.range 234).filter fun t => Tryz.prog.rowNamed t [101, 114, 114, 111, 114]) = [35] := by kernel_rfl
theorem dl_size : Tryz.prog.types.size = 234 := by kernel_rfl

theorem err_of_laid {W : World} (h : laidMetH Tryz.prog [("errors.errorType", Rows.laid_errors_errorType)] W) : ErrVar W := by
  have h' : laidMet Tryz.prog [] W ∧ handlesMet Tryz.prog [("errors.errorType", Rows.laid_errors_errorType)] W := h
  obtain ⟨name, u, ty, e1, e2, e3, e4, e5⟩ := h'.2 _ (List.mem_singleton.2 rfl)
  have en : name = [101, 114, 114, 111, 114] := (Option.some.inj e1).symm
  subst en
  obtain rfl := Option.some.inj (dl_rt.symm.trans e2)
  have hm : ty ∈ (List.range 234).filter fun t => Tryz.prog.rowNamed t [101, 114, 114, 111, 114] := List.mem_filter.2 ⟨List.mem_range.2 (by rw [← dl_size]; exact e3), e4⟩
  rw [dl_oneRow] at hm
  obtain rfl := List.mem_singleton.1 hm
  have hh : typeHandle Tryz.prog 35 = .pointer (some ⟨1, 35, none⟩) := by kernel_rfl
  rw [hh] at e5
  show W.cell? ⟨0, 0, none⟩ = _
  simpa using World.var?_cell dl_et e5 0

/-- a world with that variable's cell laid -/
def layErr (w0 : World) : World :=
  { w0 with heap := w0.heap.modify 0 fun
      | .cells _ t frozen => .cells #[.iface 140 (.agg #[.pointer (some ⟨1, 35, none⟩)])] t frozen
      | o => o }
theorem layErr_met (os : Os) (args : Array Value) : laidMetH Tryz.prog [("errors.errorType", Rows.laid_errors_errorType)] ((layErr (World.holding Tryz.prog os ⟨#[], #[], []⟩)).forCall (fun _ _ => 0) ⟨#[], args, []⟩).memory :=
  laidMetH_of_parts (laidMet_nil _ _) (by kernel_rfl)
end Go.Proofs.YtfjaeohfigcciabGreatDoor

namespace Go.Proofs.YtfjaeohfigcciabGreatDoor
open Go.ChangeShapes Go.WideShapes Go.ChangeAt Go.RowKit

set_option maxRecDepth 100000 in
theorem targetBegins_lifted (os : Os) (started : os.Started) (H : Type) (enc : TypeId × Value → H) :
    ReturnsInHanded {} Tryz.checked os 4 .any (fun w args => (Rows.targetBeginsSpec.pre enc Tryz.prog Tryz.f4 [] false w args ∧ laidMetH Tryz.prog [("errors.errorType", Rows.laid_errors_errorType)] w) ∧ sizedMet enc Tryz.prog Tryz.f4 (OpenSpec.ofChange Rows.targetBeginsSpec) false w args)
      (Rows.targetBeginsSpec.post enc Tryz.prog Tryz.f4 false true false false) := by
  refine returnsInHanded_of_change_and (C := Tryz.checked) (X := fun w _ => laidMetH Tryz.prog [("errors.errorType", Rows.laid_errors_errorType)] w) (fun _ _ _ hh h => h.of_heap hh) own started (by kernel_rfl) Tryz.func4
    (ChangeSpec.witness_at (enc := enc) (C := Tryz.checked) (os := os) (X := fun w _ => laidMetH Tryz.prog [("errors.errorType", Rows.laid_errors_errorType)] w) false (layErr (World.holding Tryz.prog os ⟨#[], #[], []⟩)) #[repZero, .int .u8 0] 8 rfl (by kernel_rfl) (by kernel_rfl) (by kernel_rfl) (by kernel_rfl) (by kernel_rfl) (layErr_met os _)) ?_
  intro W base args ds gs before hval0 hW _ _ hL _
  have hval : ∀ (j : Nat) t v, Tryz.f4.params[j]? = some t → args[j]? = some v → Value.okWide Tryz.prog W .any base t v := hval0
  have hW' := hW
  obtain ⟨p, q, hA0, hV, rfl, hfz, hnd⟩ := hW
  have hA : DataW.TrodAll enc Tryz.prog W 0 (fun _ => true) true Tryz.f4.params.toList args.toList ds p := hA0
  rw [Tryz.params4] at hA hval
  obtain ⟨v0, vs0, d0, ds0, p0, q0, hargs, rfl, rfl, h0, r0⟩ := trodAll_cons hA
  obtain ⟨v1, vs1, d1, ds1, p1, q1, rfl, rfl, rfl, h1, r1⟩ := trodAll_cons r0
  obtain ⟨rfl, rfl, rfl⟩ := trodAll_nil r1
  obtain rfl : args = #[v0, v1] := by cases args; simp_all
  obtain ⟨rfl, rfl⟩ := trodVars_none hV
  have k0 := h0
  have lt0 : ∀ x ∈ p0, x.block < W.heap.size := by obtain ⟨m, hm⟩ := k0; exact DataW.trod_lt m _ _ _ hm
  have k1 := h1
  have lt1 : ∀ x ∈ p1, x.block < W.heap.size := by obtain ⟨m, hm⟩ := k1; exact DataW.trod_lt m _ _ _ hm
  obtain ⟨y0, sy0, la0, lb0, lc0⟩ := open_rep (hval 0 28 v0 rfl rfl) h0
  obtain ⟨x1, rfl, _, _, f1⟩ := open_int Tryz.underlying5 (hval 1 5 v1 rfl rfl) h1
  have w1 := byte_bounds f1
  have hg := err_of_laid hL
  clear hA0 hval0
  refine (tbegins_any _ y0 x1 W sy0 hg w1 tawake_said tBegin_said tAgain_said tQuit_said tRight_said).mono fun e W' ⟨he, bel⟩ => ?_
  subst he
  exact ⟨_, rfl, _, _, _, [], _, [], hW', trodAll_mk1 (shut_bool Tryz.underlying4 _), (trodAll_cons_mk (Below.trod laidOut (by kernel_rfl) (of_decide_eq_true (by kernel_rfl)) k0 bel lt0) (trodAll_cons_mk (Below.trod laidOut (by kernel_rfl) (of_decide_eq_true (by kernel_rfl)) k1 bel lt1) trodAll_mk0)), rfl, bel.frame _, fun h => by cases h⟩

theorem targetBegins_row : Rows.TargetBeginsSaid :=
  OpenClaim.holds_of_wide 4 Tryz.f4 rfl rfl rfl rfl rfl rfl rfl ⟨rfl, rfl, rfl, rfl, rfl⟩ rfl rfl rfl rfl rfl (by kernel_rfl) Tryz.func4 (by kernel_rfl)
    (of_decide_eq_true (by kernel_rfl)) (by unfold Func.isWrapper; first | (rw [if_pos (by decide +kernel)]; kernel_rfl) | (rw [if_neg (by decide +kernel)]; exact ⟨rfl, rfl⟩))
    (fun os started H enc _ => targetBegins_lifted os started H enc)

theorem targetBegins_holds : Rows.TargetBeginsCardSaid :=
  Claim7.holds_tied_plain_at .later [] [.handle] true Rows.targetBeginsCard.stood.harness true
    targetBegins_row (fun _ h => by cases h) (by kernel_rfl) (fun _ h => by cases h) targetBegins_row_tie rfl ⟨rfl, rfl⟩ (by kernel_rfl) rfl
    (fun f fn hf hfn => by
      obtain rfl : f = 4 := Option.some.inj ((show Tryz.prog.funcNamed Rows.targetBeginsRow.func = some 4 by kernel_rfl).symm.trans hf) |>.symm
      obtain rfl : fn = Tryz.f4 := (Option.some.inj (Tryz.func4.symm.trans hfn)).symm
      exact ⟨by kernel_rfl, fun j t ht => by
        rw [Tryz.params4] at ht
        have hm : t ∈ #[28, 5] := Array.mem_of_getElem? ht
        have h3 : t = 28 ∨ t = 5 := by
          first
            | (simp at hm; rcases hm with hm | hm; exact Or.inl hm; exact Or.inr hm)
            | (simp at hm; rcases hm with hm | hm; exact Or.inr hm; exact Or.inl hm)
            | (rcases j with _ | j; exact Or.inl (Option.some.inj ht).symm; rcases j with _ | j; exact Or.inr (Option.some.inj ht).symm; simp at ht)
            | (simp at hm; omega)
        rcases h3 with rfl | rfl
        · exact (show Tryz.prog.wantsStandIn 28 = false by kernel_rfl)
        · exact (show Tryz.prog.wantsStandIn 5 = false by kernel_rfl)
        ⟩)
    (by kernel_rfl)

end Go.Proofs.YtfjaeohfigcciabGreatDoor

