/-
  NARROWER THAN 'FOR EVERY INPUT', by the rows' own cells (each row's printed sentence says how): KnowTells: laid · KnowUnites: laid · KnowLaws: laid · ItemTakes: laid.
  DERIVED. THE GIVEN ROWS OF THIS SEAT. 4 by the template 'for every input the law returns true; each argument reads behind the call as it read before'; 0 by the template 'total and deterministic' (their statements: YtfjaeohfigcciaaDoorTotals.lean).
  GIVEN WITH THE SEED: the statements are not yours to turn. If you find one false, say at which input.
  Laid BY PROGRAM, IN A SANDBOX (cutbox-rows.mjs): the forced cells as the released guide's own fill.sh prints them over the translation f5e5f3455ef5dde4… (all of the seat's roots in one cut). By AI agents, Wed Nov 11 2026. No macro, syntax, notation, axiom, sorry.
-/
import Derived.Test.YtfjaeohfigcciaaDoorChecked
import GoSem.Claim
import GoSem.ClaimJoined
import GoSem.ClaimMapViews
import Derived.JoinedTies
import Derived.KernelRfl
namespace Go.Proofs.YtfjaeohfigcciaaDoor
/- THE CELL 'sum', in the pinned program and in every row, IS THE sha256 OF THE DUMP (.gsa) THAT YtfjaeohfigcciaaDoorProg.lean LOADS. Nothing in Lean hashes anything: it is a label: what it is worth is what the hold of that sum in a sandbox is worth. -/
noncomputable def Tryd.pinned : Pinned := { name := "ytfjaeohfigcciaadoor", sum := "f5e5f3455ef5dde420dce35ca56ebcfb0cc9853f1766481da6c56e27aca614ed", checked := Tryd.checked }
namespace Rows
def none {H : Type} : Left H := { results := [], args := [] }

/- WHAT THE LISTED PACKAGE-LEVEL VARIABLES READ AS WHEN THE CALL BEGINS. Each datum BY PROGRAM (the guide's laid-datum.mjs) off the statement by which the dump's own 'gosem.cut.vars' lays the variable. In a bare row this is a premise. The card (YtfjaeohfigcciaaDoorCards.lean) ties it to the program's text. -/
def laid_errors_errorType {H : Type} : DataW H := .iface "internal/reflectlite.rtype" (.agg [.ptr (.lit (.string [101, 114, 114, 111, 114]))])

/-- 'tidingslaw01.KnowTells': WHATEVER THE INPUT: true; the input reads as it did. -/
def knowTellsSpec : ChangeSpec := { name := "knowTells", fn := fun _ => fun
  | [d1, d2, d3] => { results := [.lit (.bool true)], args := [d1, d2, d3] }
  | _ => none }
def knowTellsRow : OpenClaim := { program := "ytfjaeohfigcciaadoor", sum := "f5e5f3455ef5dde420dce35ca56ebcfb0cc9853f1766481da6c56e27aca614ed", func := "tidings/tidingslaw01.KnowTells", spec := "knowTells", inPlace := ["internal/reflectlite.ValueOf", "(internal/reflectlite.Value).Type", "(internal/reflectlite.Value).IsNil", "internal/reflectlite.TypeOf", "(internal/reflectlite.Value).Elem", "(internal/reflectlite.Value).Set"], unfollowed := true, recurses := true, named := ["errors.errorType"], apart := false, laid := [("errors.errorType", laid_errors_errorType)] }
def KnowTellsSaid : Prop := knowTellsRow.holds Tryd.pinned (OpenSpec.ofChange knowTellsSpec)

/-- ITS FALSE NEIGHBOUR: 'it returns false'. Refute it at one input. -/
def knowTellsWrong : ChangeSpec := { name := "knowTells", fn := fun _ => fun
  | [d1, d2, d3] => { results := [.lit (.bool false)], args := [d1, d2, d3] }
  | _ => none }
def KnowTellsWrongFalsely : Prop := knowTellsRow.holds Tryd.pinned (OpenSpec.ofChange knowTellsWrong)

/-- 'tidingslaw01.KnowUnites': WHATEVER THE INPUT: true; the input reads as it did. -/
def knowUnitesSpec : ChangeSpec := { name := "knowUnites", fn := fun _ => fun
  | [d1, d2] => { results := [.lit (.bool true)], args := [d1, d2] }
  | _ => none }
def knowUnitesRow : OpenClaim := { program := "ytfjaeohfigcciaadoor", sum := "f5e5f3455ef5dde420dce35ca56ebcfb0cc9853f1766481da6c56e27aca614ed", func := "tidings/tidingslaw01.KnowUnites", spec := "knowUnites", inPlace := ["internal/reflectlite.ValueOf", "(internal/reflectlite.Value).Type", "(internal/reflectlite.Value).IsNil", "internal/reflectlite.TypeOf", "(internal/reflectlite.Value).Elem", "(internal/reflectlite.Value).Set"], unfollowed := true, recurses := true, named := ["errors.errorType"], apart := false, laid := [("errors.errorType", laid_errors_errorType)] }
def KnowUnitesSaid : Prop := knowUnitesRow.holds Tryd.pinned (OpenSpec.ofChange knowUnitesSpec)

/-- ITS FALSE NEIGHBOUR: 'it returns false'. Refute it at one input. -/
def knowUnitesWrong : ChangeSpec := { name := "knowUnites", fn := fun _ => fun
  | [d1, d2] => { results := [.lit (.bool false)], args := [d1, d2] }
  | _ => none }
def KnowUnitesWrongFalsely : Prop := knowUnitesRow.holds Tryd.pinned (OpenSpec.ofChange knowUnitesWrong)

/-- 'tidingslaw01.KnowLaws': WHATEVER THE INPUT: true; the input reads as it did. -/
def knowLawsSpec : ChangeSpec := { name := "knowLaws", fn := fun _ => fun
  | [d1, d2, d3, d4, d5] => { results := [.lit (.bool true)], args := [d1, d2, d3, d4, d5] }
  | _ => none }
def knowLawsRow : OpenClaim := { program := "ytfjaeohfigcciaadoor", sum := "f5e5f3455ef5dde420dce35ca56ebcfb0cc9853f1766481da6c56e27aca614ed", func := "tidings/tidingslaw01.KnowLaws", spec := "knowLaws", inPlace := ["internal/reflectlite.ValueOf", "(internal/reflectlite.Value).Type", "(internal/reflectlite.Value).IsNil", "internal/reflectlite.TypeOf", "(internal/reflectlite.Value).Elem", "(internal/reflectlite.Value).Set"], unfollowed := true, recurses := true, named := ["errors.errorType"], apart := false, laid := [("errors.errorType", laid_errors_errorType)] }
def KnowLawsSaid : Prop := knowLawsRow.holds Tryd.pinned (OpenSpec.ofChange knowLawsSpec)

/-- ITS FALSE NEIGHBOUR: 'it returns false'. Refute it at one input. -/
def knowLawsWrong : ChangeSpec := { name := "knowLaws", fn := fun _ => fun
  | [d1, d2, d3, d4, d5] => { results := [.lit (.bool false)], args := [d1, d2, d3, d4, d5] }
  | _ => none }
def KnowLawsWrongFalsely : Prop := knowLawsRow.holds Tryd.pinned (OpenSpec.ofChange knowLawsWrong)

/-- 'tidingslaw02.ItemTakes': WHATEVER THE INPUT: true; the input reads as it did. -/
def itemTakesSpec : ChangeSpec := { name := "itemTakes", fn := fun _ => fun
  | [d1, d2] => { results := [.lit (.bool true)], args := [d1, d2] }
  | _ => none }
def itemTakesRow : OpenClaim := { program := "ytfjaeohfigcciaadoor", sum := "f5e5f3455ef5dde420dce35ca56ebcfb0cc9853f1766481da6c56e27aca614ed", func := "tidings/tidingslaw02.ItemTakes", spec := "itemTakes", inPlace := ["slices.overlaps[tidings/api.Entry]", "internal/reflectlite.ValueOf", "(internal/reflectlite.Value).Type", "(internal/reflectlite.Value).IsNil", "internal/reflectlite.TypeOf", "(internal/reflectlite.Value).Elem", "(internal/reflectlite.Value).Set"], unfollowed := true, recurses := true, named := ["errors.errorType"], apart := false, laid := [("errors.errorType", laid_errors_errorType)] }
def ItemTakesSaid : Prop := itemTakesRow.holds Tryd.pinned (OpenSpec.ofChange itemTakesSpec)

/-- ITS FALSE NEIGHBOUR: 'it returns false'. Refute it at one input. -/
def itemTakesWrong : ChangeSpec := { name := "itemTakes", fn := fun _ => fun
  | [d1, d2] => { results := [.lit (.bool false)], args := [d1, d2] }
  | _ => none }
def ItemTakesWrongFalsely : Prop := itemTakesRow.holds Tryd.pinned (OpenSpec.ofChange itemTakesWrong)

/- THE SECOND FORM. 'bulk': how many values and letters a reading holds, each counted each time it is reached (what is shared counts as often as it is met; a slice's spare places count too). A statement '..UptoSaid' is the law's where the arguments, and the package variables that the reading takes, are together of bulk at most 1048576: NARROWER than '..Said'. Prove '..Said' where nothing that the law and all that it calls make is longer than what came in: it says more and counts as full. Else prove '..UptoSaid'. A law counts once. -/
mutual
def uptoBulk {H : Type} : DataW H → Nat
  | .lit (.string bytes) => bytes.length + 1
  | .lit _ => 1
  | .nil => 1
  | .ptr d => uptoBulk d + 1
  | .slice elems spare => uptoBulkAll elems + uptoBulkAll spare + 1
  | .agg parts => uptoBulkAll parts + 1
  | .iface _ d => uptoBulk d + 1
  | .map entries => uptoBulkEntries entries + 1
  | .held _ => 1
def uptoBulkAll {H : Type} : List (DataW H) → Nat
  | [] => 0
  | d :: r => uptoBulk d + uptoBulkAll r
def uptoBulkEntries {H : Type} : List (Lit × DataW H) → Nat
  | [] => 0
  | x :: r => uptoBulkEntry x + uptoBulkEntries r
def uptoBulkEntry {H : Type} : Lit × DataW H → Nat
  | (.string bytes, d) => bytes.length + uptoBulk d + 1
  | (_, d) => uptoBulk d + 1
 end
def uptoSmall : (H : Type) → List (DataW H) → Bool := fun _ ds => decide (uptoBulkAll ds ≤ 1048576)
def OpenSpec.upto (s : _root_.Go.ChangeSpec) : _root_.Go.OpenSpec := { _root_.Go.OpenSpec.ofChange s with cond := some uptoSmall }

/-- 'tidingslaw01.KnowTells', WHERE WHAT IT READS IS OF BULK AT MOST 1048576: true; the input reads as it did. -/
def knowTellsUptoRow : OpenClaim := { program := "ytfjaeohfigcciaadoor", sum := "f5e5f3455ef5dde420dce35ca56ebcfb0cc9853f1766481da6c56e27aca614ed", func := "tidings/tidingslaw01.KnowTells", spec := "knowTells", inPlace := ["internal/reflectlite.ValueOf", "(internal/reflectlite.Value).Type", "(internal/reflectlite.Value).IsNil", "internal/reflectlite.TypeOf", "(internal/reflectlite.Value).Elem", "(internal/reflectlite.Value).Set"], unfollowed := true, recurses := true, named := ["errors.errorType"], apart := false, laid := [("errors.errorType", laid_errors_errorType)], narrowed := true }
def KnowTellsUptoSaid : Prop := knowTellsUptoRow.holds Tryd.pinned (OpenSpec.upto knowTellsSpec)

/-- 'tidingslaw01.KnowUnites', WHERE WHAT IT READS IS OF BULK AT MOST 1048576: true; the input reads as it did. -/
def knowUnitesUptoRow : OpenClaim := { program := "ytfjaeohfigcciaadoor", sum := "f5e5f3455ef5dde420dce35ca56ebcfb0cc9853f1766481da6c56e27aca614ed", func := "tidings/tidingslaw01.KnowUnites", spec := "knowUnites", inPlace := ["internal/reflectlite.ValueOf", "(internal/reflectlite.Value).Type", "(internal/reflectlite.Value).IsNil", "internal/reflectlite.TypeOf", "(internal/reflectlite.Value).Elem", "(internal/reflectlite.Value).Set"], unfollowed := true, recurses := true, named := ["errors.errorType"], apart := false, laid := [("errors.errorType", laid_errors_errorType)], narrowed := true }
def KnowUnitesUptoSaid : Prop := knowUnitesUptoRow.holds Tryd.pinned (OpenSpec.upto knowUnitesSpec)

/-- 'tidingslaw01.KnowLaws', WHERE WHAT IT READS IS OF BULK AT MOST 1048576: true; the input reads as it did. -/
def knowLawsUptoRow : OpenClaim := { program := "ytfjaeohfigcciaadoor", sum := "f5e5f3455ef5dde420dce35ca56ebcfb0cc9853f1766481da6c56e27aca614ed", func := "tidings/tidingslaw01.KnowLaws", spec := "knowLaws", inPlace := ["internal/reflectlite.ValueOf", "(internal/reflectlite.Value).Type", "(internal/reflectlite.Value).IsNil", "internal/reflectlite.TypeOf", "(internal/reflectlite.Value).Elem", "(internal/reflectlite.Value).Set"], unfollowed := true, recurses := true, named := ["errors.errorType"], apart := false, laid := [("errors.errorType", laid_errors_errorType)], narrowed := true }
def KnowLawsUptoSaid : Prop := knowLawsUptoRow.holds Tryd.pinned (OpenSpec.upto knowLawsSpec)

/-- 'tidingslaw02.ItemTakes', WHERE WHAT IT READS IS OF BULK AT MOST 1048576: true; the input reads as it did. -/
def itemTakesUptoRow : OpenClaim := { program := "ytfjaeohfigcciaadoor", sum := "f5e5f3455ef5dde420dce35ca56ebcfb0cc9853f1766481da6c56e27aca614ed", func := "tidings/tidingslaw02.ItemTakes", spec := "itemTakes", inPlace := ["slices.overlaps[tidings/api.Entry]", "internal/reflectlite.ValueOf", "(internal/reflectlite.Value).Type", "(internal/reflectlite.Value).IsNil", "internal/reflectlite.TypeOf", "(internal/reflectlite.Value).Elem", "(internal/reflectlite.Value).Set"], unfollowed := true, recurses := true, named := ["errors.errorType"], apart := false, laid := [("errors.errorType", laid_errors_errorType)], narrowed := true }
def ItemTakesUptoSaid : Prop := itemTakesUptoRow.holds Tryd.pinned (OpenSpec.upto itemTakesSpec)

end Rows
end Go.Proofs.YtfjaeohfigcciaaDoor
