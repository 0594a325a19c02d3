/-
  DERIVED. GIVEN WITH THE SEED: THE CARDS: each row of YtcdoidnfdkodoaaGreatDoorRows.lean that lists a variable, with what it lists TIED to the program's text (the seventh form; the later family's looks); each row that meets fmt, with fmt's text TOLD by the authors' own Lean function (tested against real Go, not proved from fmt's source: count such statements apart). THE CARD IS WHAT COUNTS. Prove the row's statement (the work); the ties are given (YtcdoidnfdkodoaaGreatDoorTie.lean); close each card by the builder's one call (the guide's Derived/Test/ToyasCard.lean, 'card_holds'). Laid BY PROGRAM, IN A SANDBOX (cutbox-door.mjs). By AI agents, Wed Nov 11 2026. No macro, syntax, notation, axiom, sorry.
-/
import Derived.Test.YtcdoidnfdkodoaaGreatDoorRows
import GoSem.ClaimSeven
namespace Go.Proofs.YtcdoidnfdkodoaaGreatDoor
namespace Rows

/-- THE TIED CARD OF 'ferrymanlaw13.StepDoes'. -/
def stepDoesCard : Claim7 := { stood := { row := stepDoesRow, standIns := [], harness := (true, "ecffb84934021cf8d71d6551029df9a15fb8cbcfedda4d760e434cedeef936e2"), looks := true }, kinds := [], alts := [], laidByText := true, laidKinds := [.data, .data, .data, .data, .data, .data], laidTests := true, laidLooks := .later }
def StepDoesCardSaid : Prop := Claim7.holds Tryz.pinned (.plain (OpenSpec.ofChange stepDoesSpec)) stepDoesCard

/-- THE TIED CARD OF 'ferrymanlaw13.StepTells'. -/
def stepTellsCard : Claim7 := { stood := { row := stepTellsRow, standIns := [], harness := (true, "ecffb84934021cf8d71d6551029df9a15fb8cbcfedda4d760e434cedeef936e2"), looks := true }, kinds := [], alts := [], laidByText := true, laidKinds := [.data, .data, .data, .data, .data, .data], laidTests := true, laidLooks := .later }
def StepTellsCardSaid : Prop := Claim7.holds Tryz.pinned (.plain (OpenSpec.ofChange stepTellsSpec)) stepTellsCard

/-- THE TIED CARD OF 'ferrymanlaw13.StepFaults'. -/
def stepFaultsCard : Claim7 := { stood := { row := stepFaultsRow, standIns := [], harness := (true, "ecffb84934021cf8d71d6551029df9a15fb8cbcfedda4d760e434cedeef936e2"), looks := true }, kinds := [], alts := [], laidByText := true, laidKinds := [.data, .data, .data, .data, .data, .data], laidTests := true, laidLooks := .later }
def StepFaultsCardSaid : Prop := Claim7.holds Tryz.pinned (.plain (OpenSpec.ofChange stepFaultsSpec)) stepFaultsCard

/-- THE TIED CARD OF 'ferrymanlaw13.StepStack'. -/
def stepStackCard : Claim7 := { stood := { row := stepStackRow, standIns := [], harness := (true, "ecffb84934021cf8d71d6551029df9a15fb8cbcfedda4d760e434cedeef936e2"), looks := true }, kinds := [], alts := [], laidByText := true, laidKinds := [.data, .data, .data, .data, .data, .data], laidTests := true, laidLooks := .later }
def StepStackCardSaid : Prop := Claim7.holds Tryz.pinned (.plain (OpenSpec.ofChange stepStackSpec)) stepStackCard

/-- THE TIED CARD OF 'ferrymanlaw13.StepRows'. -/
def stepRowsCard : Claim7 := { stood := { row := stepRowsRow, standIns := [], harness := (true, "ecffb84934021cf8d71d6551029df9a15fb8cbcfedda4d760e434cedeef936e2"), looks := true }, kinds := [], alts := [], laidByText := true, laidKinds := [.data, .data, .data, .data, .data, .data], laidTests := true, laidLooks := .later }
def StepRowsCardSaid : Prop := Claim7.holds Tryz.pinned (.plain (OpenSpec.ofChange stepRowsSpec)) stepRowsCard

/-- THE TIED CARD OF 'ferrymanlaw13.StepNumbers'. -/
def stepNumbersCard : Claim7 := { stood := { row := stepNumbersRow, standIns := [], harness := (true, "ecffb84934021cf8d71d6551029df9a15fb8cbcfedda4d760e434cedeef936e2"), looks := true }, kinds := [], alts := [], laidByText := true, laidKinds := [.data, .data, .data, .data, .data, .data], laidTests := true, laidLooks := .later }
def StepNumbersCardSaid : Prop := Claim7.holds Tryz.pinned (.plain (OpenSpec.ofChange stepNumbersSpec)) stepNumbersCard

/-- THE TIED CARD OF 'ferrymanlaw13.StepLens'. -/
def stepLensCard : Claim7 := { stood := { row := stepLensRow, standIns := [], harness := (true, "ecffb84934021cf8d71d6551029df9a15fb8cbcfedda4d760e434cedeef936e2"), looks := true }, kinds := [], alts := [], laidByText := true, laidKinds := [.data, .data, .data, .data, .data, .data], laidTests := true, laidLooks := .later }
def StepLensCardSaid : Prop := Claim7.holds Tryz.pinned (.plain (OpenSpec.ofChange stepLensSpec)) stepLensCard

/-- THE TIED CARD OF 'ferrymanlaw13.StepMoves'. -/
def stepMovesCard : Claim7 := { stood := { row := stepMovesRow, standIns := [], harness := (true, "ecffb84934021cf8d71d6551029df9a15fb8cbcfedda4d760e434cedeef936e2"), looks := true }, kinds := [], alts := [], laidByText := true, laidKinds := [.data, .data, .data, .data, .data, .data], laidTests := true, laidLooks := .later }
def StepMovesCardSaid : Prop := Claim7.holds Tryz.pinned (.plain (OpenSpec.ofChange stepMovesSpec)) stepMovesCard

/-- THE TIED CARD OF 'ferrymanlaw13.StepConds'. -/
def stepCondsCard : Claim7 := { stood := { row := stepCondsRow, standIns := [], harness := (true, "ecffb84934021cf8d71d6551029df9a15fb8cbcfedda4d760e434cedeef936e2"), looks := true }, kinds := [], alts := [], laidByText := true, laidKinds := [.data, .data, .data, .data, .data, .data], laidTests := true, laidLooks := .later }
def StepCondsCardSaid : Prop := Claim7.holds Tryz.pinned (.plain (OpenSpec.ofChange stepCondsSpec)) stepCondsCard

/-- THE TIED CARD OF 'ferrymanlaw13.StepWide'. -/
def stepWideCard : Claim7 := { stood := { row := stepWideRow, standIns := [], harness := (true, "ecffb84934021cf8d71d6551029df9a15fb8cbcfedda4d760e434cedeef936e2"), looks := true }, kinds := [], alts := [], laidByText := true, laidKinds := [.data, .data, .data, .data, .data, .data], laidTests := true, laidLooks := .later }
def StepWideCardSaid : Prop := Claim7.holds Tryz.pinned (.plain (OpenSpec.ofChange stepWideSpec)) stepWideCard

/-- THE TIED CARD OF 'ferrymanlaw13.StepBoth'. -/
def stepBothCard : Claim7 := { stood := { row := stepBothRow, standIns := [], harness := (true, "ecffb84934021cf8d71d6551029df9a15fb8cbcfedda4d760e434cedeef936e2"), looks := true }, kinds := [], alts := [], laidByText := true, laidKinds := [.data, .data, .data, .data, .data, .data], laidTests := true, laidLooks := .later }
def StepBothCardSaid : Prop := Claim7.holds Tryz.pinned (.plain (OpenSpec.ofChange stepBothSpec)) stepBothCard

/-- THE TIED CARD OF 'ferrymanlaw13.StepFetches'. -/
def stepFetchesCard : Claim7 := { stood := { row := stepFetchesRow, standIns := [], harness := (true, "ecffb84934021cf8d71d6551029df9a15fb8cbcfedda4d760e434cedeef936e2"), looks := true }, kinds := [], alts := [], laidByText := true, laidKinds := [.data, .data, .data, .data, .data, .data], laidTests := true, laidLooks := .later }
def StepFetchesCardSaid : Prop := Claim7.holds Tryz.pinned (.plain (OpenSpec.ofChange stepFetchesSpec)) stepFetchesCard

/-- THE SECOND FORM's CARD OF 'ferrymanlaw13.StepDoes'. -/
def stepDoesUptoCard : Claim7 := { stood := { row := stepDoesUptoRow, standIns := [], harness := (true, "ecffb84934021cf8d71d6551029df9a15fb8cbcfedda4d760e434cedeef936e2"), looks := true }, kinds := [], alts := [], laidByText := true, laidKinds := [.data, .data, .data, .data, .data, .data], laidTests := true, laidLooks := .later }
def StepDoesUptoCardSaid : Prop := Claim7.holds Tryz.pinned (.plain (OpenSpec.upto stepDoesSpec)) stepDoesUptoCard

/-- THE SECOND FORM's CARD OF 'ferrymanlaw13.StepTells'. -/
def stepTellsUptoCard : Claim7 := { stood := { row := stepTellsUptoRow, standIns := [], harness := (true, "ecffb84934021cf8d71d6551029df9a15fb8cbcfedda4d760e434cedeef936e2"), looks := true }, kinds := [], alts := [], laidByText := true, laidKinds := [.data, .data, .data, .data, .data, .data], laidTests := true, laidLooks := .later }
def StepTellsUptoCardSaid : Prop := Claim7.holds Tryz.pinned (.plain (OpenSpec.upto stepTellsSpec)) stepTellsUptoCard

/-- THE SECOND FORM's CARD OF 'ferrymanlaw13.StepFaults'. -/
def stepFaultsUptoCard : Claim7 := { stood := { row := stepFaultsUptoRow, standIns := [], harness := (true, "ecffb84934021cf8d71d6551029df9a15fb8cbcfedda4d760e434cedeef936e2"), looks := true }, kinds := [], alts := [], laidByText := true, laidKinds := [.data, .data, .data, .data, .data, .data], laidTests := true, laidLooks := .later }
def StepFaultsUptoCardSaid : Prop := Claim7.holds Tryz.pinned (.plain (OpenSpec.upto stepFaultsSpec)) stepFaultsUptoCard

/-- THE SECOND FORM's CARD OF 'ferrymanlaw13.StepStack'. -/
def stepStackUptoCard : Claim7 := { stood := { row := stepStackUptoRow, standIns := [], harness := (true, "ecffb84934021cf8d71d6551029df9a15fb8cbcfedda4d760e434cedeef936e2"), looks := true }, kinds := [], alts := [], laidByText := true, laidKinds := [.data, .data, .data, .data, .data, .data], laidTests := true, laidLooks := .later }
def StepStackUptoCardSaid : Prop := Claim7.holds Tryz.pinned (.plain (OpenSpec.upto stepStackSpec)) stepStackUptoCard

/-- THE SECOND FORM's CARD OF 'ferrymanlaw13.StepRows'. -/
def stepRowsUptoCard : Claim7 := { stood := { row := stepRowsUptoRow, standIns := [], harness := (true, "ecffb84934021cf8d71d6551029df9a15fb8cbcfedda4d760e434cedeef936e2"), looks := true }, kinds := [], alts := [], laidByText := true, laidKinds := [.data, .data, .data, .data, .data, .data], laidTests := true, laidLooks := .later }
def StepRowsUptoCardSaid : Prop := Claim7.holds Tryz.pinned (.plain (OpenSpec.upto stepRowsSpec)) stepRowsUptoCard

/-- THE SECOND FORM's CARD OF 'ferrymanlaw13.StepNumbers'. -/
def stepNumbersUptoCard : Claim7 := { stood := { row := stepNumbersUptoRow, standIns := [], harness := (true, "ecffb84934021cf8d71d6551029df9a15fb8cbcfedda4d760e434cedeef936e2"), looks := true }, kinds := [], alts := [], laidByText := true, laidKinds := [.data, .data, .data, .data, .data, .data], laidTests := true, laidLooks := .later }
def StepNumbersUptoCardSaid : Prop := Claim7.holds Tryz.pinned (.plain (OpenSpec.upto stepNumbersSpec)) stepNumbersUptoCard

/-- THE SECOND FORM's CARD OF 'ferrymanlaw13.StepLens'. -/
def stepLensUptoCard : Claim7 := { stood := { row := stepLensUptoRow, standIns := [], harness := (true, "ecffb84934021cf8d71d6551029df9a15fb8cbcfedda4d760e434cedeef936e2"), looks := true }, kinds := [], alts := [], laidByText := true, laidKinds := [.data, .data, .data, .data, .data, .data], laidTests := true, laidLooks := .later }
def StepLensUptoCardSaid : Prop := Claim7.holds Tryz.pinned (.plain (OpenSpec.upto stepLensSpec)) stepLensUptoCard

/-- THE SECOND FORM's CARD OF 'ferrymanlaw13.StepMoves'. -/
def stepMovesUptoCard : Claim7 := { stood := { row := stepMovesUptoRow, standIns := [], harness := (true, "ecffb84934021cf8d71d6551029df9a15fb8cbcfedda4d760e434cedeef936e2"), looks := true }, kinds := [], alts := [], laidByText := true, laidKinds := [.data, .data, .data, .data, .data, .data], laidTests := true, laidLooks := .later }
def StepMovesUptoCardSaid : Prop := Claim7.holds Tryz.pinned (.plain (OpenSpec.upto stepMovesSpec)) stepMovesUptoCard

/-- THE SECOND FORM's CARD OF 'ferrymanlaw13.StepConds'. -/
def stepCondsUptoCard : Claim7 := { stood := { row := stepCondsUptoRow, standIns := [], harness := (true, "ecffb84934021cf8d71d6551029df9a15fb8cbcfedda4d760e434cedeef936e2"), looks := true }, kinds := [], alts := [], laidByText := true, laidKinds := [.data, .data, .data, .data, .data, .data], laidTests := true, laidLooks := .later }
def StepCondsUptoCardSaid : Prop := Claim7.holds Tryz.pinned (.plain (OpenSpec.upto stepCondsSpec)) stepCondsUptoCard

/-- THE SECOND FORM's CARD OF 'ferrymanlaw13.StepWide'. -/
def stepWideUptoCard : Claim7 := { stood := { row := stepWideUptoRow, standIns := [], harness := (true, "ecffb84934021cf8d71d6551029df9a15fb8cbcfedda4d760e434cedeef936e2"), looks := true }, kinds := [], alts := [], laidByText := true, laidKinds := [.data, .data, .data, .data, .data, .data], laidTests := true, laidLooks := .later }
def StepWideUptoCardSaid : Prop := Claim7.holds Tryz.pinned (.plain (OpenSpec.upto stepWideSpec)) stepWideUptoCard

/-- THE SECOND FORM's CARD OF 'ferrymanlaw13.StepBoth'. -/
def stepBothUptoCard : Claim7 := { stood := { row := stepBothUptoRow, standIns := [], harness := (true, "ecffb84934021cf8d71d6551029df9a15fb8cbcfedda4d760e434cedeef936e2"), looks := true }, kinds := [], alts := [], laidByText := true, laidKinds := [.data, .data, .data, .data, .data, .data], laidTests := true, laidLooks := .later }
def StepBothUptoCardSaid : Prop := Claim7.holds Tryz.pinned (.plain (OpenSpec.upto stepBothSpec)) stepBothUptoCard

/-- THE SECOND FORM's CARD OF 'ferrymanlaw13.StepFetches'. -/
def stepFetchesUptoCard : Claim7 := { stood := { row := stepFetchesUptoRow, standIns := [], harness := (true, "ecffb84934021cf8d71d6551029df9a15fb8cbcfedda4d760e434cedeef936e2"), looks := true }, kinds := [], alts := [], laidByText := true, laidKinds := [.data, .data, .data, .data, .data, .data], laidTests := true, laidLooks := .later }
def StepFetchesUptoCardSaid : Prop := Claim7.holds Tryz.pinned (.plain (OpenSpec.upto stepFetchesSpec)) stepFetchesUptoCard
end Rows
end Go.Proofs.YtcdoidnfdkodoaaGreatDoor
