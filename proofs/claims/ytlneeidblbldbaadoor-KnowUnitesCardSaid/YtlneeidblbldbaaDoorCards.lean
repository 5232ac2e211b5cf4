/-
  DERIVED. GIVEN WITH THE SEED: THE CARDS: each row of YtlneeidblbldbaaDoorRows.lean that lists a variable, with what it lists TIED to the program's text (the seventh form; the later family's looks); each row that meets fmt, with fmt's text TOLD by the authors' own Lean function (tested against real Go, not proved from fmt's source: count such statements apart). THE CARD IS WHAT COUNTS. Prove the row's statement (the work); the ties are given (YtlneeidblbldbaaDoorTie.lean); close each card by the builder's one call (the guide's Derived/Test/ToyasCard.lean, 'card_holds'). Laid BY PROGRAM, IN A SANDBOX (cutbox-door.mjs). By AI agents, Wed Nov 11 2026. No macro, syntax, notation, axiom, sorry.
-/
import Derived.Test.YtlneeidblbldbaaDoorRows
import GoSem.ClaimSeven
namespace Go.Proofs.YtlneeidblbldbaaDoor
namespace Rows

/-- THE TIED CARD OF 'tidingslaw01.KnowTells'. -/
def knowTellsCard : Claim7 := { stood := { row := knowTellsRow, standIns := [], harness := (true, "6430b5dc0264ee4eda54fe6a001d21363fa64c2032e4eada842a4597a790a5f6"), looks := true }, kinds := [], alts := [], laidByText := true, laidKinds := [.handle], laidTests := true, laidLooks := .later }
def KnowTellsCardSaid : Prop := Claim7.holds Tryd.pinned (.plain (OpenSpec.ofChange knowTellsSpec)) knowTellsCard

/-- THE TIED CARD OF 'tidingslaw01.KnowUnites'. -/
def knowUnitesCard : Claim7 := { stood := { row := knowUnitesRow, standIns := [], harness := (true, "6430b5dc0264ee4eda54fe6a001d21363fa64c2032e4eada842a4597a790a5f6"), looks := true }, kinds := [], alts := [], laidByText := true, laidKinds := [.handle], laidTests := true, laidLooks := .later }
def KnowUnitesCardSaid : Prop := Claim7.holds Tryd.pinned (.plain (OpenSpec.ofChange knowUnitesSpec)) knowUnitesCard

/-- THE TIED CARD OF 'tidingslaw01.KnowLaws'. -/
def knowLawsCard : Claim7 := { stood := { row := knowLawsRow, standIns := [], harness := (true, "6430b5dc0264ee4eda54fe6a001d21363fa64c2032e4eada842a4597a790a5f6"), looks := true }, kinds := [], alts := [], laidByText := true, laidKinds := [.handle], laidTests := true, laidLooks := .later }
def KnowLawsCardSaid : Prop := Claim7.holds Tryd.pinned (.plain (OpenSpec.ofChange knowLawsSpec)) knowLawsCard

/-- THE SECOND FORM's CARD OF 'tidingslaw01.KnowTells'. -/
def knowTellsUptoCard : Claim7 := { stood := { row := knowTellsUptoRow, standIns := [], harness := (true, "6430b5dc0264ee4eda54fe6a001d21363fa64c2032e4eada842a4597a790a5f6"), looks := true }, kinds := [], alts := [], laidByText := true, laidKinds := [.handle], laidTests := true, laidLooks := .later }
def KnowTellsUptoCardSaid : Prop := Claim7.holds Tryd.pinned (.plain (OpenSpec.upto knowTellsSpec)) knowTellsUptoCard

/-- THE SECOND FORM's CARD OF 'tidingslaw01.KnowUnites'. -/
def knowUnitesUptoCard : Claim7 := { stood := { row := knowUnitesUptoRow, standIns := [], harness := (true, "6430b5dc0264ee4eda54fe6a001d21363fa64c2032e4eada842a4597a790a5f6"), looks := true }, kinds := [], alts := [], laidByText := true, laidKinds := [.handle], laidTests := true, laidLooks := .later }
def KnowUnitesUptoCardSaid : Prop := Claim7.holds Tryd.pinned (.plain (OpenSpec.upto knowUnitesSpec)) knowUnitesUptoCard

/-- THE SECOND FORM's CARD OF 'tidingslaw01.KnowLaws'. -/
def knowLawsUptoCard : Claim7 := { stood := { row := knowLawsUptoRow, standIns := [], harness := (true, "6430b5dc0264ee4eda54fe6a001d21363fa64c2032e4eada842a4597a790a5f6"), looks := true }, kinds := [], alts := [], laidByText := true, laidKinds := [.handle], laidTests := true, laidLooks := .later }
def KnowLawsUptoCardSaid : Prop := Claim7.holds Tryd.pinned (.plain (OpenSpec.upto knowLawsSpec)) knowLawsUptoCard
end Rows
end Go.Proofs.YtlneeidblbldbaaDoor
