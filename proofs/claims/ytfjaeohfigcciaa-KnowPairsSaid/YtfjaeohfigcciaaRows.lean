/-
  No cell of these rows narrows 'for every input' (looked for: loops, veiled, ifaces, maps, wideKeys, modest, calm, conditions, laid).
  DERIVED. THE GIVEN ROWS OF THIS SEAT. 4 by the template 'for every input the law returns true; each argument reads behind the call as it read before'; 0 by the template 'total and deterministic' (their statements: YtfjaeohfigcciaaTotals.lean).
  GIVEN WITH THE SEED: the statements are not yours to turn. If you find one false, say at which input.
  Laid BY PROGRAM, IN A SANDBOX (cutbox-rows.mjs): the forced cells as the released guide's own fill.sh prints them over the translation e65e67c08234c878… (all of the seat's roots in one cut). By AI agents, Wed Nov 11 2026. No macro, syntax, notation, axiom, sorry.
-/
import Derived.Test.YtfjaeohfigcciaaChecked
import GoSem.Claim
import GoSem.ClaimJoined
import GoSem.ClaimMapViews
import Derived.JoinedTies
import Derived.KernelRfl
namespace Go.Proofs.Ytfjaeohfigcciaa
/- THE CELL 'sum', in the pinned program and in every row, IS THE sha256 OF THE DUMP (.gsa) THAT YtfjaeohfigcciaaProg.lean LOADS. Nothing in Lean hashes anything: it is a label: what it is worth is what the hold of that sum in a sandbox is worth. -/
noncomputable def Try.pinned : Pinned := { name := "ytfjaeohfigcciaa", sum := "e65e67c08234c87861b0959c8a0825285cb7d1699cabfb775eee7aa2113d932f", checked := Try.checked }
namespace Rows
def none {H : Type} : Left H := { results := [], args := [] }

/-- 'tidingslaw01.KnowPairs': WHATEVER THE INPUT: true; the input reads as it did. -/
def knowPairsSpec : ChangeSpec := { name := "knowPairs", fn := fun _ => fun
  | [d1, d2, d3, d4, d5, d6] => { results := [.lit (.bool true)], args := [d1, d2, d3, d4, d5, d6] }
  | _ => none }
def knowPairsRow : OpenClaim := { program := "ytfjaeohfigcciaa", sum := "e65e67c08234c87861b0959c8a0825285cb7d1699cabfb775eee7aa2113d932f", func := "tidings/tidingslaw01.KnowPairs", spec := "knowPairs", unfollowed := true, recurses := true, apart := false }
def KnowPairsSaid : Prop := knowPairsRow.holds Try.pinned (OpenSpec.ofChange knowPairsSpec)

/-- ITS FALSE NEIGHBOUR: 'it returns false'. Refute it at one input. -/
def knowPairsWrong : ChangeSpec := { name := "knowPairs", fn := fun _ => fun
  | [d1, d2, d3, d4, d5, d6] => { results := [.lit (.bool false)], args := [d1, d2, d3, d4, d5, d6] }
  | _ => none }
def KnowPairsWrongFalsely : Prop := knowPairsRow.holds Try.pinned (OpenSpec.ofChange knowPairsWrong)

/-- 'tidingslaw02.ItemTells': WHATEVER THE INPUT: true; the input reads as it did. -/
def itemTellsSpec : ChangeSpec := { name := "itemTells", fn := fun _ => fun
  | [d1, d2, d3, d4] => { results := [.lit (.bool true)], args := [d1, d2, d3, d4] }
  | _ => none }
def itemTellsRow : OpenClaim := { program := "ytfjaeohfigcciaa", sum := "e65e67c08234c87861b0959c8a0825285cb7d1699cabfb775eee7aa2113d932f", func := "tidings/tidingslaw02.ItemTells", spec := "itemTells", inPlace := ["slices.overlaps[tidings/api.Entry]"], unfollowed := true, recurses := true, apart := false }
def ItemTellsSaid : Prop := itemTellsRow.holds Try.pinned (OpenSpec.ofChange itemTellsSpec)

/-- ITS FALSE NEIGHBOUR: 'it returns false'. Refute it at one input. -/
def itemTellsWrong : ChangeSpec := { name := "itemTells", fn := fun _ => fun
  | [d1, d2, d3, d4] => { results := [.lit (.bool false)], args := [d1, d2, d3, d4] }
  | _ => none }
def ItemTellsWrongFalsely : Prop := itemTellsRow.holds Try.pinned (OpenSpec.ofChange itemTellsWrong)

/-- 'tidingslaw02.ItemAny': WHATEVER THE INPUT: true; the input reads as it did. -/
def itemAnySpec : ChangeSpec := { name := "itemAny", fn := fun _ => fun
  | [d1, d2, d3, d4, d5] => { results := [.lit (.bool true)], args := [d1, d2, d3, d4, d5] }
  | _ => none }
def itemAnyRow : OpenClaim := { program := "ytfjaeohfigcciaa", sum := "e65e67c08234c87861b0959c8a0825285cb7d1699cabfb775eee7aa2113d932f", func := "tidings/tidingslaw02.ItemAny", spec := "itemAny", inPlace := ["slices.overlaps[tidings/api.Entry]"], unfollowed := true, recurses := true, apart := false }
def ItemAnySaid : Prop := itemAnyRow.holds Try.pinned (OpenSpec.ofChange itemAnySpec)

/-- ITS FALSE NEIGHBOUR: 'it returns false'. Refute it at one input. -/
def itemAnyWrong : ChangeSpec := { name := "itemAny", fn := fun _ => fun
  | [d1, d2, d3, d4, d5] => { results := [.lit (.bool false)], args := [d1, d2, d3, d4, d5] }
  | _ => none }
def ItemAnyWrongFalsely : Prop := itemAnyRow.holds Try.pinned (OpenSpec.ofChange itemAnyWrong)

/-- 'tidingslaw02.ItemOrder': WHATEVER THE INPUT: true; the input reads as it did. -/
def itemOrderSpec : ChangeSpec := { name := "itemOrder", fn := fun _ => fun
  | [d1, d2, d3] => { results := [.lit (.bool true)], args := [d1, d2, d3] }
  | _ => none }
def itemOrderRow : OpenClaim := { program := "ytfjaeohfigcciaa", sum := "e65e67c08234c87861b0959c8a0825285cb7d1699cabfb775eee7aa2113d932f", func := "tidings/tidingslaw02.ItemOrder", spec := "itemOrder", inPlace := ["slices.overlaps[tidings/api.Entry]"], unfollowed := true, recurses := true, apart := false }
def ItemOrderSaid : Prop := itemOrderRow.holds Try.pinned (OpenSpec.ofChange itemOrderSpec)

/-- ITS FALSE NEIGHBOUR: 'it returns false'. Refute it at one input. -/
def itemOrderWrong : ChangeSpec := { name := "itemOrder", fn := fun _ => fun
  | [d1, d2, d3] => { results := [.lit (.bool false)], args := [d1, d2, d3] }
  | _ => none }
def ItemOrderWrongFalsely : Prop := itemOrderRow.holds Try.pinned (OpenSpec.ofChange itemOrderWrong)

/- THE SECOND FORM. 'bulk': how many values and letters a reading holds, each counted each time it is reached (what is shared counts as often as it is met; a slice's spare places count too). A statement '..UptoSaid' is the law's where the arguments, and the package variables that the reading takes, are together of bulk at most 1048576: NARROWER than '..Said'. Prove '..Said' where nothing that the law and all that it calls make is longer than what came in: it says more and counts as full. Else prove '..UptoSaid'. A law counts once. -/
mutual
def uptoBulk {H : Type} : DataW H → Nat
  | .lit (.string bytes) => bytes.length + 1
  | .lit _ => 1
  | .nil => 1
  | .ptr d => uptoBulk d + 1
  | .slice elems spare => uptoBulkAll elems + uptoBulkAll spare + 1
  | .agg parts => uptoBulkAll parts + 1
  | .iface _ d => uptoBulk d + 1
  | .map entries => uptoBulkEntries entries + 1
  | .held _ => 1
def uptoBulkAll {H : Type} : List (DataW H) → Nat
  | [] => 0
  | d :: r => uptoBulk d + uptoBulkAll r
def uptoBulkEntries {H : Type} : List (Lit × DataW H) → Nat
  | [] => 0
  | x :: r => uptoBulkEntry x + uptoBulkEntries r
def uptoBulkEntry {H : Type} : Lit × DataW H → Nat
  | (.string bytes, d) => bytes.length + uptoBulk d + 1
  | (_, d) => uptoBulk d + 1
 end
def uptoSmall : (H : Type) → List (DataW H) → Bool := fun _ ds => decide (uptoBulkAll ds ≤ 1048576)
def OpenSpec.upto (s : _root_.Go.ChangeSpec) : _root_.Go.OpenSpec := { _root_.Go.OpenSpec.ofChange s with cond := some uptoSmall }

/-- 'tidingslaw01.KnowPairs', WHERE WHAT IT READS IS OF BULK AT MOST 1048576: true; the input reads as it did. -/
def knowPairsUptoRow : OpenClaim := { program := "ytfjaeohfigcciaa", sum := "e65e67c08234c87861b0959c8a0825285cb7d1699cabfb775eee7aa2113d932f", func := "tidings/tidingslaw01.KnowPairs", spec := "knowPairs", unfollowed := true, recurses := true, apart := false, narrowed := true }
def KnowPairsUptoSaid : Prop := knowPairsUptoRow.holds Try.pinned (OpenSpec.upto knowPairsSpec)

/-- 'tidingslaw02.ItemTells', WHERE WHAT IT READS IS OF BULK AT MOST 1048576: true; the input reads as it did. -/
def itemTellsUptoRow : OpenClaim := { program := "ytfjaeohfigcciaa", sum := "e65e67c08234c87861b0959c8a0825285cb7d1699cabfb775eee7aa2113d932f", func := "tidings/tidingslaw02.ItemTells", spec := "itemTells", inPlace := ["slices.overlaps[tidings/api.Entry]"], unfollowed := true, recurses := true, apart := false, narrowed := true }
def ItemTellsUptoSaid : Prop := itemTellsUptoRow.holds Try.pinned (OpenSpec.upto itemTellsSpec)

/-- 'tidingslaw02.ItemAny', WHERE WHAT IT READS IS OF BULK AT MOST 1048576: true; the input reads as it did. -/
def itemAnyUptoRow : OpenClaim := { program := "ytfjaeohfigcciaa", sum := "e65e67c08234c87861b0959c8a0825285cb7d1699cabfb775eee7aa2113d932f", func := "tidings/tidingslaw02.ItemAny", spec := "itemAny", inPlace := ["slices.overlaps[tidings/api.Entry]"], unfollowed := true, recurses := true, apart := false, narrowed := true }
def ItemAnyUptoSaid : Prop := itemAnyUptoRow.holds Try.pinned (OpenSpec.upto itemAnySpec)

/-- 'tidingslaw02.ItemOrder', WHERE WHAT IT READS IS OF BULK AT MOST 1048576: true; the input reads as it did. -/
def itemOrderUptoRow : OpenClaim := { program := "ytfjaeohfigcciaa", sum := "e65e67c08234c87861b0959c8a0825285cb7d1699cabfb775eee7aa2113d932f", func := "tidings/tidingslaw02.ItemOrder", spec := "itemOrder", inPlace := ["slices.overlaps[tidings/api.Entry]"], unfollowed := true, recurses := true, apart := false, narrowed := true }
def ItemOrderUptoSaid : Prop := itemOrderUptoRow.holds Try.pinned (OpenSpec.upto itemOrderSpec)

end Rows
end Go.Proofs.Ytfjaeohfigcciaa
