/-
  DERIVED. GIVEN WITH THE SEED: THE CARDS: each row of YtbnocincfecmpaaDoorRows.lean that lists a variable, with what it lists TIED to the program's text (the seventh form; the later family's looks); each row that meets fmt, with fmt's text TOLD by the authors' own Lean function (tested against real Go, not proved from fmt's source: count such statements apart). THE CARD IS WHAT COUNTS. Prove the row's statement (the work); the ties are given (YtbnocincfecmpaaDoorTie.lean); close each card by the builder's one call (the guide's Derived/Test/ToyasCard.lean, 'card_holds'). Laid BY PROGRAM, IN A SANDBOX (cutbox-door.mjs). By AI agents, Wed Nov 11 2026. No macro, syntax, notation, axiom, sorry.
-/
import Derived.Test.YtbnocincfecmpaaDoorRows
import GoSem.ClaimSeven
namespace Go.Proofs.YtbnocincfecmpaaDoor
namespace Rows

/-- THE TIED CARD OF 'ferrymanlaw5.AsmConst'. -/
def asmConstCard : Claim7 := { stood := { row := asmConstRow, standIns := [], harness := (true, "4c8c809ca95bc501eea2e376147ad31b6c3ed3087f8f09e3af839ab597982570"), looks := false }, kinds := [], alts := [], laidByText := true, laidKinds := [.data, .data], laidTests := true, laidLooks := .later }
def AsmConstCardSaid : Prop := Claim7.holds Tryd.pinned (.plain (OpenSpec.ofChange asmConstSpec)) asmConstCard

/-- THE TIED CARD OF 'ferrymanlaw5.AsmPatches'. -/
def asmPatchesCard : Claim7 := { stood := { row := asmPatchesRow, standIns := [], harness := (true, "4c8c809ca95bc501eea2e376147ad31b6c3ed3087f8f09e3af839ab597982570"), looks := false }, kinds := [], alts := [], laidByText := true, laidKinds := [.data, .data], laidTests := true, laidLooks := .later }
def AsmPatchesCardSaid : Prop := Claim7.holds Tryd.pinned (.plain (OpenSpec.ofChange asmPatchesSpec)) asmPatchesCard

/-- THE TIED CARD OF 'ferrymanlaw5.AsmAgain'. -/
def asmAgainCard : Claim7 := { stood := { row := asmAgainRow, standIns := [], harness := (true, "4c8c809ca95bc501eea2e376147ad31b6c3ed3087f8f09e3af839ab597982570"), looks := false }, kinds := [], alts := [], laidByText := true, laidKinds := [.data, .data], laidTests := true, laidLooks := .later }
def AsmAgainCardSaid : Prop := Claim7.holds Tryd.pinned (.plain (OpenSpec.ofChange asmAgainSpec)) asmAgainCard

/-- THE TIED CARD OF 'ferrymanlaw5.AsmMoves'. -/
def asmMovesCard : Claim7 := { stood := { row := asmMovesRow, standIns := [], harness := (true, "4c8c809ca95bc501eea2e376147ad31b6c3ed3087f8f09e3af839ab597982570"), looks := false }, kinds := [], alts := [], laidByText := true, laidKinds := [.data, .data], laidTests := true, laidLooks := .later }
def AsmMovesCardSaid : Prop := Claim7.holds Tryd.pinned (.plain (OpenSpec.ofChange asmMovesSpec)) asmMovesCard

/-- THE TIED CARD OF 'ferrymanlaw3.RvTells'. -/
def rvTellsCard : Claim7 := { stood := { row := rvTellsRow, standIns := [], harness := (true, "4c8c809ca95bc501eea2e376147ad31b6c3ed3087f8f09e3af839ab597982570"), looks := false }, kinds := [], alts := [], laidByText := true, laidKinds := [.data, .data, .data, .data, .data], laidTests := true, laidLooks := .later }
def RvTellsCardSaid : Prop := Claim7.holds Tryd.pinned (.plain (OpenSpec.ofChange rvTellsSpec)) rvTellsCard

/-- THE SECOND FORM's CARD OF 'ferrymanlaw5.AsmConst'. -/
def asmConstUptoCard : Claim7 := { stood := { row := asmConstUptoRow, standIns := [], harness := (true, "4c8c809ca95bc501eea2e376147ad31b6c3ed3087f8f09e3af839ab597982570"), looks := false }, kinds := [], alts := [], laidByText := true, laidKinds := [.data, .data], laidTests := true, laidLooks := .later }
def AsmConstUptoCardSaid : Prop := Claim7.holds Tryd.pinned (.plain (OpenSpec.upto asmConstSpec)) asmConstUptoCard

/-- THE SECOND FORM's CARD OF 'ferrymanlaw5.AsmPatches'. -/
def asmPatchesUptoCard : Claim7 := { stood := { row := asmPatchesUptoRow, standIns := [], harness := (true, "4c8c809ca95bc501eea2e376147ad31b6c3ed3087f8f09e3af839ab597982570"), looks := false }, kinds := [], alts := [], laidByText := true, laidKinds := [.data, .data], laidTests := true, laidLooks := .later }
def AsmPatchesUptoCardSaid : Prop := Claim7.holds Tryd.pinned (.plain (OpenSpec.upto asmPatchesSpec)) asmPatchesUptoCard

/-- THE SECOND FORM's CARD OF 'ferrymanlaw5.AsmAgain'. -/
def asmAgainUptoCard : Claim7 := { stood := { row := asmAgainUptoRow, standIns := [], harness := (true, "4c8c809ca95bc501eea2e376147ad31b6c3ed3087f8f09e3af839ab597982570"), looks := false }, kinds := [], alts := [], laidByText := true, laidKinds := [.data, .data], laidTests := true, laidLooks := .later }
def AsmAgainUptoCardSaid : Prop := Claim7.holds Tryd.pinned (.plain (OpenSpec.upto asmAgainSpec)) asmAgainUptoCard

/-- THE SECOND FORM's CARD OF 'ferrymanlaw5.AsmMoves'. -/
def asmMovesUptoCard : Claim7 := { stood := { row := asmMovesUptoRow, standIns := [], harness := (true, "4c8c809ca95bc501eea2e376147ad31b6c3ed3087f8f09e3af839ab597982570"), looks := false }, kinds := [], alts := [], laidByText := true, laidKinds := [.data, .data], laidTests := true, laidLooks := .later }
def AsmMovesUptoCardSaid : Prop := Claim7.holds Tryd.pinned (.plain (OpenSpec.upto asmMovesSpec)) asmMovesUptoCard

/-- THE SECOND FORM's CARD OF 'ferrymanlaw3.RvTells'. -/
def rvTellsUptoCard : Claim7 := { stood := { row := rvTellsUptoRow, standIns := [], harness := (true, "4c8c809ca95bc501eea2e376147ad31b6c3ed3087f8f09e3af839ab597982570"), looks := false }, kinds := [], alts := [], laidByText := true, laidKinds := [.data, .data, .data, .data, .data], laidTests := true, laidLooks := .later }
def RvTellsUptoCardSaid : Prop := Claim7.holds Tryd.pinned (.plain (OpenSpec.upto rvTellsSpec)) rvTellsUptoCard
end Rows
end Go.Proofs.YtbnocincfecmpaaDoor
