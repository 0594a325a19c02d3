/-
  DERIVED. GIVEN WITH THE SEED: THE CARDS: each row of YtgeeecoclhomiaaDoorRows.lean that lists a variable, with what it lists TIED to the program's text (the seventh form; the later family's looks); each row that meets fmt, with fmt's text TOLD by the authors' own Lean function (tested against real Go, not proved from fmt's source: count such statements apart). THE CARD IS WHAT COUNTS. Prove the row's statement (the work); the ties are given (YtgeeecoclhomiaaDoorTie.lean); close each card by the builder's one call (the guide's Derived/Test/ToyasCard.lean, 'card_holds'). Laid BY PROGRAM, IN A SANDBOX (cutbox-door.mjs). By AI agents, Wed Nov 11 2026. No macro, syntax, notation, axiom, sorry.
-/
import Derived.Test.YtgeeecoclhomiaaDoorRows
import GoSem.ClaimSeven
namespace Go.Proofs.YtgeeecoclhomiaaDoor
namespace Rows

/-- THE TIED CARD OF 'ferrymanlaw8.AluWide'. -/
def aluWideCard : Claim7 := { stood := { row := aluWideRow, standIns := [], harness := (true, "b015bdd230c59dd0651c77a78fd6afe25642db8a245a7bd66fe0bf5d626d2f48"), looks := false }, kinds := [], alts := [], laidByText := true, laidKinds := [.data, .data], laidTests := true, laidLooks := .later }
def AluWideCardSaid : Prop := Claim7.holds Tryd.pinned (.plain (OpenSpec.ofChange aluWideSpec)) aluWideCard

/-- THE TIED CARD OF 'ferrymanlaw8.AluCompares'. -/
def aluComparesCard : Claim7 := { stood := { row := aluComparesRow, standIns := [], harness := (true, "b015bdd230c59dd0651c77a78fd6afe25642db8a245a7bd66fe0bf5d626d2f48"), looks := false }, kinds := [], alts := [], laidByText := true, laidKinds := [.data, .data], laidTests := true, laidLooks := .later }
def AluComparesCardSaid : Prop := Claim7.holds Tryd.pinned (.plain (OpenSpec.ofChange aluComparesSpec)) aluComparesCard

/-- THE TIED CARD OF 'ferrymanlaw8.AluLong'. -/
def aluLongCard : Claim7 := { stood := { row := aluLongRow, standIns := [], harness := (true, "b015bdd230c59dd0651c77a78fd6afe25642db8a245a7bd66fe0bf5d626d2f48"), looks := false }, kinds := [], alts := [], laidByText := true, laidKinds := [.data, .data], laidTests := true, laidLooks := .later }
def AluLongCardSaid : Prop := Claim7.holds Tryd.pinned (.plain (OpenSpec.ofChange aluLongSpec)) aluLongCard

/-- THE TIED CARD OF 'ferrymanlaw8.AluTurns'. -/
def aluTurnsCard : Claim7 := { stood := { row := aluTurnsRow, standIns := [], harness := (true, "b015bdd230c59dd0651c77a78fd6afe25642db8a245a7bd66fe0bf5d626d2f48"), looks := false }, kinds := [], alts := [], laidByText := true, laidKinds := [.data, .data], laidTests := true, laidLooks := .later }
def AluTurnsCardSaid : Prop := Claim7.holds Tryd.pinned (.plain (OpenSpec.ofChange aluTurnsSpec)) aluTurnsCard

/-- THE TIED CARD OF 'ferrymanlaw8.AluDivides'. -/
def aluDividesCard : Claim7 := { stood := { row := aluDividesRow, standIns := [], harness := (true, "b015bdd230c59dd0651c77a78fd6afe25642db8a245a7bd66fe0bf5d626d2f48"), looks := false }, kinds := [], alts := [], laidByText := true, laidKinds := [.data, .data], laidTests := true, laidLooks := .later }
def AluDividesCardSaid : Prop := Claim7.holds Tryd.pinned (.plain (OpenSpec.ofChange aluDividesSpec)) aluDividesCard

/-- THE TIED CARD OF 'ferrymanlaw8.AluSilent'. -/
def aluSilentCard : Claim7 := { stood := { row := aluSilentRow, standIns := [], harness := (true, "b015bdd230c59dd0651c77a78fd6afe25642db8a245a7bd66fe0bf5d626d2f48"), looks := false }, kinds := [], alts := [], laidByText := true, laidKinds := [.data, .data], laidTests := true, laidLooks := .later }
def AluSilentCardSaid : Prop := Claim7.holds Tryd.pinned (.plain (OpenSpec.ofChange aluSilentSpec)) aluSilentCard

/-- THE TIED CARD OF 'ferrymanlaw8.AluSteps'. -/
def aluStepsCard : Claim7 := { stood := { row := aluStepsRow, standIns := [], harness := (true, "b015bdd230c59dd0651c77a78fd6afe25642db8a245a7bd66fe0bf5d626d2f48"), looks := false }, kinds := [], alts := [], laidByText := true, laidKinds := [.data, .data], laidTests := true, laidLooks := .later }
def AluStepsCardSaid : Prop := Claim7.holds Tryd.pinned (.plain (OpenSpec.ofChange aluStepsSpec)) aluStepsCard

/-- THE TIED CARD OF 'ferrymanlaw8.AluBits'. -/
def aluBitsCard : Claim7 := { stood := { row := aluBitsRow, standIns := [], harness := (true, "b015bdd230c59dd0651c77a78fd6afe25642db8a245a7bd66fe0bf5d626d2f48"), looks := false }, kinds := [], alts := [], laidByText := true, laidKinds := [.data, .data], laidTests := true, laidLooks := .later }
def AluBitsCardSaid : Prop := Claim7.holds Tryd.pinned (.plain (OpenSpec.ofChange aluBitsSpec)) aluBitsCard

/-- THE TIED CARD OF 'ferrymanlaw8.AluShifts'. -/
def aluShiftsCard : Claim7 := { stood := { row := aluShiftsRow, standIns := [], harness := (true, "b015bdd230c59dd0651c77a78fd6afe25642db8a245a7bd66fe0bf5d626d2f48"), looks := false }, kinds := [], alts := [], laidByText := true, laidKinds := [.data, .data], laidTests := true, laidLooks := .later }
def AluShiftsCardSaid : Prop := Claim7.holds Tryd.pinned (.plain (OpenSpec.ofChange aluShiftsSpec)) aluShiftsCard

/-- THE TIED CARD OF 'ferrymanlaw8.AluProducts'. -/
def aluProductsCard : Claim7 := { stood := { row := aluProductsRow, standIns := [], harness := (true, "b015bdd230c59dd0651c77a78fd6afe25642db8a245a7bd66fe0bf5d626d2f48"), looks := false }, kinds := [], alts := [], laidByText := true, laidKinds := [.data, .data], laidTests := true, laidLooks := .later }
def AluProductsCardSaid : Prop := Claim7.holds Tryd.pinned (.plain (OpenSpec.ofChange aluProductsSpec)) aluProductsCard

/-- THE SECOND FORM's CARD OF 'ferrymanlaw8.AluWide'. -/
def aluWideUptoCard : Claim7 := { stood := { row := aluWideUptoRow, standIns := [], harness := (true, "b015bdd230c59dd0651c77a78fd6afe25642db8a245a7bd66fe0bf5d626d2f48"), looks := false }, kinds := [], alts := [], laidByText := true, laidKinds := [.data, .data], laidTests := true, laidLooks := .later }
def AluWideUptoCardSaid : Prop := Claim7.holds Tryd.pinned (.plain (OpenSpec.upto aluWideSpec)) aluWideUptoCard

/-- THE SECOND FORM's CARD OF 'ferrymanlaw8.AluCompares'. -/
def aluComparesUptoCard : Claim7 := { stood := { row := aluComparesUptoRow, standIns := [], harness := (true, "b015bdd230c59dd0651c77a78fd6afe25642db8a245a7bd66fe0bf5d626d2f48"), looks := false }, kinds := [], alts := [], laidByText := true, laidKinds := [.data, .data], laidTests := true, laidLooks := .later }
def AluComparesUptoCardSaid : Prop := Claim7.holds Tryd.pinned (.plain (OpenSpec.upto aluComparesSpec)) aluComparesUptoCard

/-- THE SECOND FORM's CARD OF 'ferrymanlaw8.AluLong'. -/
def aluLongUptoCard : Claim7 := { stood := { row := aluLongUptoRow, standIns := [], harness := (true, "b015bdd230c59dd0651c77a78fd6afe25642db8a245a7bd66fe0bf5d626d2f48"), looks := false }, kinds := [], alts := [], laidByText := true, laidKinds := [.data, .data], laidTests := true, laidLooks := .later }
def AluLongUptoCardSaid : Prop := Claim7.holds Tryd.pinned (.plain (OpenSpec.upto aluLongSpec)) aluLongUptoCard

/-- THE SECOND FORM's CARD OF 'ferrymanlaw8.AluTurns'. -/
def aluTurnsUptoCard : Claim7 := { stood := { row := aluTurnsUptoRow, standIns := [], harness := (true, "b015bdd230c59dd0651c77a78fd6afe25642db8a245a7bd66fe0bf5d626d2f48"), looks := false }, kinds := [], alts := [], laidByText := true, laidKinds := [.data, .data], laidTests := true, laidLooks := .later }
def AluTurnsUptoCardSaid : Prop := Claim7.holds Tryd.pinned (.plain (OpenSpec.upto aluTurnsSpec)) aluTurnsUptoCard

/-- THE SECOND FORM's CARD OF 'ferrymanlaw8.AluDivides'. -/
def aluDividesUptoCard : Claim7 := { stood := { row := aluDividesUptoRow, standIns := [], harness := (true, "b015bdd230c59dd0651c77a78fd6afe25642db8a245a7bd66fe0bf5d626d2f48"), looks := false }, kinds := [], alts := [], laidByText := true, laidKinds := [.data, .data], laidTests := true, laidLooks := .later }
def AluDividesUptoCardSaid : Prop := Claim7.holds Tryd.pinned (.plain (OpenSpec.upto aluDividesSpec)) aluDividesUptoCard

/-- THE SECOND FORM's CARD OF 'ferrymanlaw8.AluSilent'. -/
def aluSilentUptoCard : Claim7 := { stood := { row := aluSilentUptoRow, standIns := [], harness := (true, "b015bdd230c59dd0651c77a78fd6afe25642db8a245a7bd66fe0bf5d626d2f48"), looks := false }, kinds := [], alts := [], laidByText := true, laidKinds := [.data, .data], laidTests := true, laidLooks := .later }
def AluSilentUptoCardSaid : Prop := Claim7.holds Tryd.pinned (.plain (OpenSpec.upto aluSilentSpec)) aluSilentUptoCard

/-- THE SECOND FORM's CARD OF 'ferrymanlaw8.AluSteps'. -/
def aluStepsUptoCard : Claim7 := { stood := { row := aluStepsUptoRow, standIns := [], harness := (true, "b015bdd230c59dd0651c77a78fd6afe25642db8a245a7bd66fe0bf5d626d2f48"), looks := false }, kinds := [], alts := [], laidByText := true, laidKinds := [.data, .data], laidTests := true, laidLooks := .later }
def AluStepsUptoCardSaid : Prop := Claim7.holds Tryd.pinned (.plain (OpenSpec.upto aluStepsSpec)) aluStepsUptoCard

/-- THE SECOND FORM's CARD OF 'ferrymanlaw8.AluBits'. -/
def aluBitsUptoCard : Claim7 := { stood := { row := aluBitsUptoRow, standIns := [], harness := (true, "b015bdd230c59dd0651c77a78fd6afe25642db8a245a7bd66fe0bf5d626d2f48"), looks := false }, kinds := [], alts := [], laidByText := true, laidKinds := [.data, .data], laidTests := true, laidLooks := .later }
def AluBitsUptoCardSaid : Prop := Claim7.holds Tryd.pinned (.plain (OpenSpec.upto aluBitsSpec)) aluBitsUptoCard

/-- THE SECOND FORM's CARD OF 'ferrymanlaw8.AluShifts'. -/
def aluShiftsUptoCard : Claim7 := { stood := { row := aluShiftsUptoRow, standIns := [], harness := (true, "b015bdd230c59dd0651c77a78fd6afe25642db8a245a7bd66fe0bf5d626d2f48"), looks := false }, kinds := [], alts := [], laidByText := true, laidKinds := [.data, .data], laidTests := true, laidLooks := .later }
def AluShiftsUptoCardSaid : Prop := Claim7.holds Tryd.pinned (.plain (OpenSpec.upto aluShiftsSpec)) aluShiftsUptoCard

/-- THE SECOND FORM's CARD OF 'ferrymanlaw8.AluProducts'. -/
def aluProductsUptoCard : Claim7 := { stood := { row := aluProductsUptoRow, standIns := [], harness := (true, "b015bdd230c59dd0651c77a78fd6afe25642db8a245a7bd66fe0bf5d626d2f48"), looks := false }, kinds := [], alts := [], laidByText := true, laidKinds := [.data, .data], laidTests := true, laidLooks := .later }
def AluProductsUptoCardSaid : Prop := Claim7.holds Tryd.pinned (.plain (OpenSpec.upto aluProductsSpec)) aluProductsUptoCard
end Rows
end Go.Proofs.YtgeeecoclhomiaaDoor
