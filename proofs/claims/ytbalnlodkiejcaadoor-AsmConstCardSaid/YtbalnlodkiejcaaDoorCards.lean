/-
  DERIVED. GIVEN WITH THE SEED: THE CARDS: each row of YtbalnlodkiejcaaDoorRows.lean that lists a variable, with what it lists TIED to the program's text (the seventh form; the later family's looks); each row that meets fmt, with fmt's text TOLD by the authors' own Lean function (tested against real Go, not proved from fmt's source: count such statements apart). THE CARD IS WHAT COUNTS. Prove the row's statement (the work); the ties are given (YtbalnlodkiejcaaDoorTie.lean); close each card by the builder's one call (the guide's Derived/Test/ToyasCard.lean, 'card_holds'). Laid BY PROGRAM, IN A SANDBOX (cutbox-door.mjs). By AI agents, Wed Nov 11 2026. No macro, syntax, notation, axiom, sorry.
-/
import Derived.Test.YtbalnlodkiejcaaDoorRows
import GoSem.ClaimSeven
namespace Go.Proofs.YtbalnlodkiejcaaDoor
namespace Rows

/-- THE TIED CARD OF 'ferrymanlaw5.AsmConst'. -/
def asmConstCard : Claim7 := { stood := { row := asmConstRow, standIns := [], harness := (true, "e8c6833d86bbd96883991f3c17c55d2be8e704e3a8227ad153e3283749863cd3"), looks := false }, kinds := [], alts := [], laidByText := true, laidKinds := [.data, .data], laidTests := true, laidLooks := .later }
def AsmConstCardSaid : Prop := Claim7.holds Tryd.pinned (.plain (OpenSpec.ofChange asmConstSpec)) asmConstCard

/-- THE TIED CARD OF 'ferrymanlaw5.AsmPatches'. -/
def asmPatchesCard : Claim7 := { stood := { row := asmPatchesRow, standIns := [], harness := (true, "e8c6833d86bbd96883991f3c17c55d2be8e704e3a8227ad153e3283749863cd3"), looks := false }, kinds := [], alts := [], laidByText := true, laidKinds := [.data, .data], laidTests := true, laidLooks := .later }
def AsmPatchesCardSaid : Prop := Claim7.holds Tryd.pinned (.plain (OpenSpec.ofChange asmPatchesSpec)) asmPatchesCard

/-- THE TIED CARD OF 'ferrymanlaw5.AsmAgain'. -/
def asmAgainCard : Claim7 := { stood := { row := asmAgainRow, standIns := [], harness := (true, "e8c6833d86bbd96883991f3c17c55d2be8e704e3a8227ad153e3283749863cd3"), looks := false }, kinds := [], alts := [], laidByText := true, laidKinds := [.data, .data], laidTests := true, laidLooks := .later }
def AsmAgainCardSaid : Prop := Claim7.holds Tryd.pinned (.plain (OpenSpec.ofChange asmAgainSpec)) asmAgainCard

/-- THE TIED CARD OF 'ferrymanlaw5.AsmMoves'. -/
def asmMovesCard : Claim7 := { stood := { row := asmMovesRow, standIns := [], harness := (true, "e8c6833d86bbd96883991f3c17c55d2be8e704e3a8227ad153e3283749863cd3"), looks := false }, kinds := [], alts := [], laidByText := true, laidKinds := [.data, .data], laidTests := true, laidLooks := .later }
def AsmMovesCardSaid : Prop := Claim7.holds Tryd.pinned (.plain (OpenSpec.ofChange asmMovesSpec)) asmMovesCard

/-- THE SECOND FORM's CARD OF 'ferrymanlaw5.AsmConst'. -/
def asmConstUptoCard : Claim7 := { stood := { row := asmConstUptoRow, standIns := [], harness := (true, "e8c6833d86bbd96883991f3c17c55d2be8e704e3a8227ad153e3283749863cd3"), looks := false }, kinds := [], alts := [], laidByText := true, laidKinds := [.data, .data], laidTests := true, laidLooks := .later }
def AsmConstUptoCardSaid : Prop := Claim7.holds Tryd.pinned (.plain (OpenSpec.upto asmConstSpec)) asmConstUptoCard

/-- THE SECOND FORM's CARD OF 'ferrymanlaw5.AsmPatches'. -/
def asmPatchesUptoCard : Claim7 := { stood := { row := asmPatchesUptoRow, standIns := [], harness := (true, "e8c6833d86bbd96883991f3c17c55d2be8e704e3a8227ad153e3283749863cd3"), looks := false }, kinds := [], alts := [], laidByText := true, laidKinds := [.data, .data], laidTests := true, laidLooks := .later }
def AsmPatchesUptoCardSaid : Prop := Claim7.holds Tryd.pinned (.plain (OpenSpec.upto asmPatchesSpec)) asmPatchesUptoCard

/-- THE SECOND FORM's CARD OF 'ferrymanlaw5.AsmAgain'. -/
def asmAgainUptoCard : Claim7 := { stood := { row := asmAgainUptoRow, standIns := [], harness := (true, "e8c6833d86bbd96883991f3c17c55d2be8e704e3a8227ad153e3283749863cd3"), looks := false }, kinds := [], alts := [], laidByText := true, laidKinds := [.data, .data], laidTests := true, laidLooks := .later }
def AsmAgainUptoCardSaid : Prop := Claim7.holds Tryd.pinned (.plain (OpenSpec.upto asmAgainSpec)) asmAgainUptoCard

/-- THE SECOND FORM's CARD OF 'ferrymanlaw5.AsmMoves'. -/
def asmMovesUptoCard : Claim7 := { stood := { row := asmMovesUptoRow, standIns := [], harness := (true, "e8c6833d86bbd96883991f3c17c55d2be8e704e3a8227ad153e3283749863cd3"), looks := false }, kinds := [], alts := [], laidByText := true, laidKinds := [.data, .data], laidTests := true, laidLooks := .later }
def AsmMovesUptoCardSaid : Prop := Claim7.holds Tryd.pinned (.plain (OpenSpec.upto asmMovesSpec)) asmMovesUptoCard
end Rows
end Go.Proofs.YtbalnlodkiejcaaDoor
