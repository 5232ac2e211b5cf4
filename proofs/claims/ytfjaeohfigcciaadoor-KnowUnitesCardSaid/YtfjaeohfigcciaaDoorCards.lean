/-
  DERIVED. GIVEN WITH THE SEED: THE CARDS: each row of YtfjaeohfigcciaaDoorRows.lean that lists a variable, with what it lists TIED to the program's text (the seventh form; the later family's looks); each row that meets fmt, with fmt's text TOLD by the authors' own Lean function (tested against real Go, not proved from fmt's source: count such statements apart). THE CARD IS WHAT COUNTS. Prove the row's statement (the work); the ties are given (YtfjaeohfigcciaaDoorTie.lean); close each card by the builder's one call (the guide's Derived/Test/ToyasCard.lean, 'card_holds'). Laid BY PROGRAM, IN A SANDBOX (cutbox-door.mjs). By AI agents, Wed Nov 11 2026. No macro, syntax, notation, axiom, sorry.
-/
import Derived.Test.YtfjaeohfigcciaaDoorRows
import GoSem.ClaimSeven
namespace Go.Proofs.YtfjaeohfigcciaaDoor
namespace Rows

/-- THE TIED CARD OF 'tidingslaw01.KnowTells'. -/
def knowTellsCard : Claim7 := { stood := { row := knowTellsRow, standIns := [], harness := (true, "1e8a7ed75b2db22d37c4d4ab3c826e5dd8232dfb40dd0ca2e72da3488faf5687"), looks := true }, kinds := [], alts := [], laidByText := true, laidKinds := [.handle], laidTests := true, laidLooks := .later }
def KnowTellsCardSaid : Prop := Claim7.holds Tryd.pinned (.plain (OpenSpec.ofChange knowTellsSpec)) knowTellsCard

/-- THE TIED CARD OF 'tidingslaw01.KnowUnites'. -/
def knowUnitesCard : Claim7 := { stood := { row := knowUnitesRow, standIns := [], harness := (true, "1e8a7ed75b2db22d37c4d4ab3c826e5dd8232dfb40dd0ca2e72da3488faf5687"), looks := true }, kinds := [], alts := [], laidByText := true, laidKinds := [.handle], laidTests := true, laidLooks := .later }
def KnowUnitesCardSaid : Prop := Claim7.holds Tryd.pinned (.plain (OpenSpec.ofChange knowUnitesSpec)) knowUnitesCard

/-- THE TIED CARD OF 'tidingslaw01.KnowLaws'. -/
def knowLawsCard : Claim7 := { stood := { row := knowLawsRow, standIns := [], harness := (true, "1e8a7ed75b2db22d37c4d4ab3c826e5dd8232dfb40dd0ca2e72da3488faf5687"), looks := true }, kinds := [], alts := [], laidByText := true, laidKinds := [.handle], laidTests := true, laidLooks := .later }
def KnowLawsCardSaid : Prop := Claim7.holds Tryd.pinned (.plain (OpenSpec.ofChange knowLawsSpec)) knowLawsCard

/-- THE TIED CARD OF 'tidingslaw02.ItemTakes'. -/
def itemTakesCard : Claim7 := { stood := { row := itemTakesRow, standIns := [], harness := (true, "1e8a7ed75b2db22d37c4d4ab3c826e5dd8232dfb40dd0ca2e72da3488faf5687"), looks := true }, kinds := [], alts := [], laidByText := true, laidKinds := [.handle], laidTests := true, laidLooks := .later }
def ItemTakesCardSaid : Prop := Claim7.holds Tryd.pinned (.plain (OpenSpec.ofChange itemTakesSpec)) itemTakesCard

/-- THE SECOND FORM's CARD OF 'tidingslaw01.KnowTells'. -/
def knowTellsUptoCard : Claim7 := { stood := { row := knowTellsUptoRow, standIns := [], harness := (true, "1e8a7ed75b2db22d37c4d4ab3c826e5dd8232dfb40dd0ca2e72da3488faf5687"), looks := true }, kinds := [], alts := [], laidByText := true, laidKinds := [.handle], laidTests := true, laidLooks := .later }
def KnowTellsUptoCardSaid : Prop := Claim7.holds Tryd.pinned (.plain (OpenSpec.upto knowTellsSpec)) knowTellsUptoCard

/-- THE SECOND FORM's CARD OF 'tidingslaw01.KnowUnites'. -/
def knowUnitesUptoCard : Claim7 := { stood := { row := knowUnitesUptoRow, standIns := [], harness := (true, "1e8a7ed75b2db22d37c4d4ab3c826e5dd8232dfb40dd0ca2e72da3488faf5687"), looks := true }, kinds := [], alts := [], laidByText := true, laidKinds := [.handle], laidTests := true, laidLooks := .later }
def KnowUnitesUptoCardSaid : Prop := Claim7.holds Tryd.pinned (.plain (OpenSpec.upto knowUnitesSpec)) knowUnitesUptoCard

/-- THE SECOND FORM's CARD OF 'tidingslaw01.KnowLaws'. -/
def knowLawsUptoCard : Claim7 := { stood := { row := knowLawsUptoRow, standIns := [], harness := (true, "1e8a7ed75b2db22d37c4d4ab3c826e5dd8232dfb40dd0ca2e72da3488faf5687"), looks := true }, kinds := [], alts := [], laidByText := true, laidKinds := [.handle], laidTests := true, laidLooks := .later }
def KnowLawsUptoCardSaid : Prop := Claim7.holds Tryd.pinned (.plain (OpenSpec.upto knowLawsSpec)) knowLawsUptoCard

/-- THE SECOND FORM's CARD OF 'tidingslaw02.ItemTakes'. -/
def itemTakesUptoCard : Claim7 := { stood := { row := itemTakesUptoRow, standIns := [], harness := (true, "1e8a7ed75b2db22d37c4d4ab3c826e5dd8232dfb40dd0ca2e72da3488faf5687"), looks := true }, kinds := [], alts := [], laidByText := true, laidKinds := [.handle], laidTests := true, laidLooks := .later }
def ItemTakesUptoCardSaid : Prop := Claim7.holds Tryd.pinned (.plain (OpenSpec.upto itemTakesSpec)) itemTakesUptoCard
end Rows
end Go.Proofs.YtfjaeohfigcciaaDoor
