/-
  DERIVED. GIVEN WITH THE SEED: THE CARDS: each row of YtobllhibicjbcaaDoorRows.lean that lists a variable, with what it lists TIED to the program's text (the seventh form; the later family's looks); each row that meets fmt, with fmt's text TOLD by the authors' own Lean function (tested against real Go, not proved from fmt's source: count such statements apart). THE CARD IS WHAT COUNTS. Prove the row's statement (the work); the ties are given (YtobllhibicjbcaaDoorTie.lean); close each card by the builder's one call (the guide's Derived/Test/ToyasCard.lean, 'card_holds'). Laid BY PROGRAM, IN A SANDBOX (cutbox-door.mjs). By AI agents, Wed Nov 11 2026. No macro, syntax, notation, axiom, sorry.
-/
import Derived.Test.YtobllhibicjbcaaDoorRows
import GoSem.ClaimSeven
namespace Go.Proofs.YtobllhibicjbcaaDoor
namespace Rows

/-- THE TIED CARD OF 'ferrymanlaw9.InsnParts'. -/
def insnPartsCard : Claim7 := { stood := { row := insnPartsRow, standIns := [], harness := (true, "cfb731e2e2ecd366d4c3793c8b6f718682f4bf5193b20419c2aa2fcf5169c1e7"), looks := false }, kinds := [], alts := [], laidByText := true, laidKinds := [.data, .data, .data], laidTests := true, laidLooks := .later }
def InsnPartsCardSaid : Prop := Claim7.holds Tryd.pinned (.plain (OpenSpec.ofChange insnPartsSpec)) insnPartsCard

/-- THE TIED CARD OF 'ferrymanlaw9.InsnMemory'. -/
def insnMemoryCard : Claim7 := { stood := { row := insnMemoryRow, standIns := [], harness := (true, "cfb731e2e2ecd366d4c3793c8b6f718682f4bf5193b20419c2aa2fcf5169c1e7"), looks := false }, kinds := [], alts := [], laidByText := true, laidKinds := [.data, .data, .data], laidTests := true, laidLooks := .later }
def InsnMemoryCardSaid : Prop := Claim7.holds Tryd.pinned (.plain (OpenSpec.ofChange insnMemorySpec)) insnMemoryCard

/-- THE TIED CARD OF 'ferrymanlaw9.InsnShapes'. -/
def insnShapesCard : Claim7 := { stood := { row := insnShapesRow, standIns := [], harness := (true, "cfb731e2e2ecd366d4c3793c8b6f718682f4bf5193b20419c2aa2fcf5169c1e7"), looks := false }, kinds := [], alts := [], laidByText := true, laidKinds := [.data, .data, .data], laidTests := true, laidLooks := .later }
def InsnShapesCardSaid : Prop := Claim7.holds Tryd.pinned (.plain (OpenSpec.ofChange insnShapesSpec)) insnShapesCard

/-- THE TIED CARD OF 'ferrymanlaw9.InsnPlaces'. -/
def insnPlacesCard : Claim7 := { stood := { row := insnPlacesRow, standIns := [], harness := (true, "cfb731e2e2ecd366d4c3793c8b6f718682f4bf5193b20419c2aa2fcf5169c1e7"), looks := false }, kinds := [], alts := [], laidByText := true, laidKinds := [.data, .data, .data], laidTests := true, laidLooks := .later }
def InsnPlacesCardSaid : Prop := Claim7.holds Tryd.pinned (.plain (OpenSpec.ofChange insnPlacesSpec)) insnPlacesCard

/-- THE SECOND FORM's CARD OF 'ferrymanlaw9.InsnParts'. -/
def insnPartsUptoCard : Claim7 := { stood := { row := insnPartsUptoRow, standIns := [], harness := (true, "cfb731e2e2ecd366d4c3793c8b6f718682f4bf5193b20419c2aa2fcf5169c1e7"), looks := false }, kinds := [], alts := [], laidByText := true, laidKinds := [.data, .data, .data], laidTests := true, laidLooks := .later }
def InsnPartsUptoCardSaid : Prop := Claim7.holds Tryd.pinned (.plain (OpenSpec.upto insnPartsSpec)) insnPartsUptoCard

/-- THE SECOND FORM's CARD OF 'ferrymanlaw9.InsnMemory'. -/
def insnMemoryUptoCard : Claim7 := { stood := { row := insnMemoryUptoRow, standIns := [], harness := (true, "cfb731e2e2ecd366d4c3793c8b6f718682f4bf5193b20419c2aa2fcf5169c1e7"), looks := false }, kinds := [], alts := [], laidByText := true, laidKinds := [.data, .data, .data], laidTests := true, laidLooks := .later }
def InsnMemoryUptoCardSaid : Prop := Claim7.holds Tryd.pinned (.plain (OpenSpec.upto insnMemorySpec)) insnMemoryUptoCard

/-- THE SECOND FORM's CARD OF 'ferrymanlaw9.InsnShapes'. -/
def insnShapesUptoCard : Claim7 := { stood := { row := insnShapesUptoRow, standIns := [], harness := (true, "cfb731e2e2ecd366d4c3793c8b6f718682f4bf5193b20419c2aa2fcf5169c1e7"), looks := false }, kinds := [], alts := [], laidByText := true, laidKinds := [.data, .data, .data], laidTests := true, laidLooks := .later }
def InsnShapesUptoCardSaid : Prop := Claim7.holds Tryd.pinned (.plain (OpenSpec.upto insnShapesSpec)) insnShapesUptoCard

/-- THE SECOND FORM's CARD OF 'ferrymanlaw9.InsnPlaces'. -/
def insnPlacesUptoCard : Claim7 := { stood := { row := insnPlacesUptoRow, standIns := [], harness := (true, "cfb731e2e2ecd366d4c3793c8b6f718682f4bf5193b20419c2aa2fcf5169c1e7"), looks := false }, kinds := [], alts := [], laidByText := true, laidKinds := [.data, .data, .data], laidTests := true, laidLooks := .later }
def InsnPlacesUptoCardSaid : Prop := Claim7.holds Tryd.pinned (.plain (OpenSpec.upto insnPlacesSpec)) insnPlacesUptoCard
end Rows
end Go.Proofs.YtobllhibicjbcaaDoor
