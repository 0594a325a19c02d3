/-
  DERIVED. GIVEN WITH THE SEED: THE CARDS: each row of YtcgleggdochbeaaDoorRows.lean that lists a variable, with what it lists TIED to the program's text (the seventh form; the later family's looks); each row that meets fmt, with fmt's text TOLD by the authors' own Lean function (tested against real Go, not proved from fmt's source: count such statements apart). THE CARD IS WHAT COUNTS. Prove the row's statement (the work); the ties are given (YtcgleggdochbeaaDoorTie.lean); close each card by the builder's one call (the guide's Derived/Test/ToyasCard.lean, 'card_holds'). Laid BY PROGRAM, IN A SANDBOX (cutbox-door.mjs). By AI agents, Wed Nov 11 2026. No macro, syntax, notation, axiom, sorry.
-/
import Derived.Test.YtcgleggdochbeaaDoorRows
import GoSem.ClaimSeven
namespace Go.Proofs.YtcgleggdochbeaaDoor
namespace Rows

/-- THE TIED CARD OF 'ferrymanlaw11.EncodeTells'. -/
def encodeTellsCard : Claim7 := { stood := { row := encodeTellsRow, standIns := [], harness := (true, "62c98a6b19ec044955807ceb27f5320bcb7f39d434fb122ceda90f3d14acb54d"), looks := true }, kinds := [], alts := [], laidByText := true, laidKinds := [.data, .data, .data, .data], laidTests := true, laidLooks := .later }
def EncodeTellsCardSaid : Prop := Claim7.holds Tryd.pinned (.plain (OpenSpec.ofChange encodeTellsSpec)) encodeTellsCard

/-- THE TIED CARD OF 'ferrymanlaw11.EncodeBack'. -/
def encodeBackCard : Claim7 := { stood := { row := encodeBackRow, standIns := [], harness := (true, "62c98a6b19ec044955807ceb27f5320bcb7f39d434fb122ceda90f3d14acb54d"), looks := true }, kinds := [], alts := [], laidByText := true, laidKinds := [.data, .data, .data, .data], laidTests := true, laidLooks := .later }
def EncodeBackCardSaid : Prop := Claim7.holds Tryd.pinned (.plain (OpenSpec.ofChange encodeBackSpec)) encodeBackCard

/-- THE TIED CARD OF 'ferrymanlaw11.EncodeRows'. -/
def encodeRowsCard : Claim7 := { stood := { row := encodeRowsRow, standIns := [], harness := (true, "62c98a6b19ec044955807ceb27f5320bcb7f39d434fb122ceda90f3d14acb54d"), looks := true }, kinds := [], alts := [], laidByText := true, laidKinds := [.data, .data, .data, .data], laidTests := true, laidLooks := .later }
def EncodeRowsCardSaid : Prop := Claim7.holds Tryd.pinned (.plain (OpenSpec.ofChange encodeRowsSpec)) encodeRowsCard

/-- THE TIED CARD OF 'ferrymanlaw11.EncodeShort'. -/
def encodeShortCard : Claim7 := { stood := { row := encodeShortRow, standIns := [], harness := (true, "62c98a6b19ec044955807ceb27f5320bcb7f39d434fb122ceda90f3d14acb54d"), looks := true }, kinds := [], alts := [], laidByText := true, laidKinds := [.data, .data, .data, .data], laidTests := true, laidLooks := .later }
def EncodeShortCardSaid : Prop := Claim7.holds Tryd.pinned (.plain (OpenSpec.ofChange encodeShortSpec)) encodeShortCard

/-- THE TIED CARD OF 'ferrymanlaw11.EncodePlaces'. -/
def encodePlacesCard : Claim7 := { stood := { row := encodePlacesRow, standIns := [], harness := (true, "62c98a6b19ec044955807ceb27f5320bcb7f39d434fb122ceda90f3d14acb54d"), looks := true }, kinds := [], alts := [], laidByText := true, laidKinds := [.data, .data, .data, .data], laidTests := true, laidLooks := .later }
def EncodePlacesCardSaid : Prop := Claim7.holds Tryd.pinned (.plain (OpenSpec.ofChange encodePlacesSpec)) encodePlacesCard

/-- THE SECOND FORM's CARD OF 'ferrymanlaw11.EncodeTells'. -/
def encodeTellsUptoCard : Claim7 := { stood := { row := encodeTellsUptoRow, standIns := [], harness := (true, "62c98a6b19ec044955807ceb27f5320bcb7f39d434fb122ceda90f3d14acb54d"), looks := true }, kinds := [], alts := [], laidByText := true, laidKinds := [.data, .data, .data, .data], laidTests := true, laidLooks := .later }
def EncodeTellsUptoCardSaid : Prop := Claim7.holds Tryd.pinned (.plain (OpenSpec.upto encodeTellsSpec)) encodeTellsUptoCard

/-- THE SECOND FORM's CARD OF 'ferrymanlaw11.EncodeBack'. -/
def encodeBackUptoCard : Claim7 := { stood := { row := encodeBackUptoRow, standIns := [], harness := (true, "62c98a6b19ec044955807ceb27f5320bcb7f39d434fb122ceda90f3d14acb54d"), looks := true }, kinds := [], alts := [], laidByText := true, laidKinds := [.data, .data, .data, .data], laidTests := true, laidLooks := .later }
def EncodeBackUptoCardSaid : Prop := Claim7.holds Tryd.pinned (.plain (OpenSpec.upto encodeBackSpec)) encodeBackUptoCard

/-- THE SECOND FORM's CARD OF 'ferrymanlaw11.EncodeRows'. -/
def encodeRowsUptoCard : Claim7 := { stood := { row := encodeRowsUptoRow, standIns := [], harness := (true, "62c98a6b19ec044955807ceb27f5320bcb7f39d434fb122ceda90f3d14acb54d"), looks := true }, kinds := [], alts := [], laidByText := true, laidKinds := [.data, .data, .data, .data], laidTests := true, laidLooks := .later }
def EncodeRowsUptoCardSaid : Prop := Claim7.holds Tryd.pinned (.plain (OpenSpec.upto encodeRowsSpec)) encodeRowsUptoCard

/-- THE SECOND FORM's CARD OF 'ferrymanlaw11.EncodeShort'. -/
def encodeShortUptoCard : Claim7 := { stood := { row := encodeShortUptoRow, standIns := [], harness := (true, "62c98a6b19ec044955807ceb27f5320bcb7f39d434fb122ceda90f3d14acb54d"), looks := true }, kinds := [], alts := [], laidByText := true, laidKinds := [.data, .data, .data, .data], laidTests := true, laidLooks := .later }
def EncodeShortUptoCardSaid : Prop := Claim7.holds Tryd.pinned (.plain (OpenSpec.upto encodeShortSpec)) encodeShortUptoCard

/-- THE SECOND FORM's CARD OF 'ferrymanlaw11.EncodePlaces'. -/
def encodePlacesUptoCard : Claim7 := { stood := { row := encodePlacesUptoRow, standIns := [], harness := (true, "62c98a6b19ec044955807ceb27f5320bcb7f39d434fb122ceda90f3d14acb54d"), looks := true }, kinds := [], alts := [], laidByText := true, laidKinds := [.data, .data, .data, .data], laidTests := true, laidLooks := .later }
def EncodePlacesUptoCardSaid : Prop := Claim7.holds Tryd.pinned (.plain (OpenSpec.upto encodePlacesSpec)) encodePlacesUptoCard
end Rows
end Go.Proofs.YtcgleggdochbeaaDoor
