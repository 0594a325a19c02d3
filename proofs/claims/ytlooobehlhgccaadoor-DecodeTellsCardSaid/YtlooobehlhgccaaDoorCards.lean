/-
  DERIVED. GIVEN WITH THE SEED: THE CARDS: each row of YtlooobehlhgccaaDoorRows.lean that lists a variable, with what it lists TIED to the program's text (the seventh form; the later family's looks); each row that meets fmt, with fmt's text TOLD by the authors' own Lean function (tested against real Go, not proved from fmt's source: count such statements apart). THE CARD IS WHAT COUNTS. Prove the row's statement (the work); the ties are given (YtlooobehlhgccaaDoorTie.lean); close each card by the builder's one call (the guide's Derived/Test/ToyasCard.lean, 'card_holds'). Laid BY PROGRAM, IN A SANDBOX (cutbox-door.mjs). By AI agents, Wed Nov 11 2026. No macro, syntax, notation, axiom, sorry.
-/
import Derived.Test.YtlooobehlhgccaaDoorRows
import GoSem.ClaimSeven
namespace Go.Proofs.YtlooobehlhgccaaDoor
namespace Rows

/-- THE TIED CARD OF 'ferrymanlaw10.DecodeTells'. -/
def decodeTellsCard : Claim7 := { stood := { row := decodeTellsRow, standIns := [], harness := (true, "597401fbfa64d9b05368f56ade13a07ed4ee527603a8379de47d07ed7045befb"), looks := true }, kinds := [], alts := [], laidByText := true, laidKinds := [.data, .data, .data, .data], laidTests := true, laidLooks := .later }
def DecodeTellsCardSaid : Prop := Claim7.holds Tryd.pinned (.plain (OpenSpec.ofChange decodeTellsSpec)) decodeTellsCard

/-- THE TIED CARD OF 'ferrymanlaw10.DecodeFront'. -/
def decodeFrontCard : Claim7 := { stood := { row := decodeFrontRow, standIns := [], harness := (true, "597401fbfa64d9b05368f56ade13a07ed4ee527603a8379de47d07ed7045befb"), looks := true }, kinds := [], alts := [], laidByText := true, laidKinds := [.data, .data, .data, .data], laidTests := true, laidLooks := .later }
def DecodeFrontCardSaid : Prop := Claim7.holds Tryd.pinned (.plain (OpenSpec.ofChange decodeFrontSpec)) decodeFrontCard

/-- THE TIED CARD OF 'ferrymanlaw10.DecodeForms'. -/
def decodeFormsCard : Claim7 := { stood := { row := decodeFormsRow, standIns := [], harness := (true, "597401fbfa64d9b05368f56ade13a07ed4ee527603a8379de47d07ed7045befb"), looks := true }, kinds := [], alts := [], laidByText := true, laidKinds := [.data, .data, .data, .data], laidTests := true, laidLooks := .later }
def DecodeFormsCardSaid : Prop := Claim7.holds Tryd.pinned (.plain (OpenSpec.ofChange decodeFormsSpec)) decodeFormsCard

/-- THE TIED CARD OF 'ferrymanlaw10.DecodeGroups'. -/
def decodeGroupsCard : Claim7 := { stood := { row := decodeGroupsRow, standIns := [], harness := (true, "597401fbfa64d9b05368f56ade13a07ed4ee527603a8379de47d07ed7045befb"), looks := true }, kinds := [], alts := [], laidByText := true, laidKinds := [.data, .data, .data, .data], laidTests := true, laidLooks := .later }
def DecodeGroupsCardSaid : Prop := Claim7.holds Tryd.pinned (.plain (OpenSpec.ofChange decodeGroupsSpec)) decodeGroupsCard

/-- THE TIED CARD OF 'ferrymanlaw10.DecodeSingles'. -/
def decodeSinglesCard : Claim7 := { stood := { row := decodeSinglesRow, standIns := [], harness := (true, "597401fbfa64d9b05368f56ade13a07ed4ee527603a8379de47d07ed7045befb"), looks := true }, kinds := [], alts := [], laidByText := true, laidKinds := [.data, .data, .data, .data], laidTests := true, laidLooks := .later }
def DecodeSinglesCardSaid : Prop := Claim7.holds Tryd.pinned (.plain (OpenSpec.ofChange decodeSinglesSpec)) decodeSinglesCard

/-- THE TIED CARD OF 'ferrymanlaw10.DecodeNone'. -/
def decodeNoneCard : Claim7 := { stood := { row := decodeNoneRow, standIns := [], harness := (true, "597401fbfa64d9b05368f56ade13a07ed4ee527603a8379de47d07ed7045befb"), looks := true }, kinds := [], alts := [], laidByText := true, laidKinds := [.data, .data, .data, .data], laidTests := true, laidLooks := .later }
def DecodeNoneCardSaid : Prop := Claim7.holds Tryd.pinned (.plain (OpenSpec.ofChange decodeNoneSpec)) decodeNoneCard

/-- THE SECOND FORM's CARD OF 'ferrymanlaw10.DecodeTells'. -/
def decodeTellsUptoCard : Claim7 := { stood := { row := decodeTellsUptoRow, standIns := [], harness := (true, "597401fbfa64d9b05368f56ade13a07ed4ee527603a8379de47d07ed7045befb"), looks := true }, kinds := [], alts := [], laidByText := true, laidKinds := [.data, .data, .data, .data], laidTests := true, laidLooks := .later }
def DecodeTellsUptoCardSaid : Prop := Claim7.holds Tryd.pinned (.plain (OpenSpec.upto decodeTellsSpec)) decodeTellsUptoCard

/-- THE SECOND FORM's CARD OF 'ferrymanlaw10.DecodeFront'. -/
def decodeFrontUptoCard : Claim7 := { stood := { row := decodeFrontUptoRow, standIns := [], harness := (true, "597401fbfa64d9b05368f56ade13a07ed4ee527603a8379de47d07ed7045befb"), looks := true }, kinds := [], alts := [], laidByText := true, laidKinds := [.data, .data, .data, .data], laidTests := true, laidLooks := .later }
def DecodeFrontUptoCardSaid : Prop := Claim7.holds Tryd.pinned (.plain (OpenSpec.upto decodeFrontSpec)) decodeFrontUptoCard

/-- THE SECOND FORM's CARD OF 'ferrymanlaw10.DecodeForms'. -/
def decodeFormsUptoCard : Claim7 := { stood := { row := decodeFormsUptoRow, standIns := [], harness := (true, "597401fbfa64d9b05368f56ade13a07ed4ee527603a8379de47d07ed7045befb"), looks := true }, kinds := [], alts := [], laidByText := true, laidKinds := [.data, .data, .data, .data], laidTests := true, laidLooks := .later }
def DecodeFormsUptoCardSaid : Prop := Claim7.holds Tryd.pinned (.plain (OpenSpec.upto decodeFormsSpec)) decodeFormsUptoCard

/-- THE SECOND FORM's CARD OF 'ferrymanlaw10.DecodeGroups'. -/
def decodeGroupsUptoCard : Claim7 := { stood := { row := decodeGroupsUptoRow, standIns := [], harness := (true, "597401fbfa64d9b05368f56ade13a07ed4ee527603a8379de47d07ed7045befb"), looks := true }, kinds := [], alts := [], laidByText := true, laidKinds := [.data, .data, .data, .data], laidTests := true, laidLooks := .later }
def DecodeGroupsUptoCardSaid : Prop := Claim7.holds Tryd.pinned (.plain (OpenSpec.upto decodeGroupsSpec)) decodeGroupsUptoCard

/-- THE SECOND FORM's CARD OF 'ferrymanlaw10.DecodeSingles'. -/
def decodeSinglesUptoCard : Claim7 := { stood := { row := decodeSinglesUptoRow, standIns := [], harness := (true, "597401fbfa64d9b05368f56ade13a07ed4ee527603a8379de47d07ed7045befb"), looks := true }, kinds := [], alts := [], laidByText := true, laidKinds := [.data, .data, .data, .data], laidTests := true, laidLooks := .later }
def DecodeSinglesUptoCardSaid : Prop := Claim7.holds Tryd.pinned (.plain (OpenSpec.upto decodeSinglesSpec)) decodeSinglesUptoCard

/-- THE SECOND FORM's CARD OF 'ferrymanlaw10.DecodeNone'. -/
def decodeNoneUptoCard : Claim7 := { stood := { row := decodeNoneUptoRow, standIns := [], harness := (true, "597401fbfa64d9b05368f56ade13a07ed4ee527603a8379de47d07ed7045befb"), looks := true }, kinds := [], alts := [], laidByText := true, laidKinds := [.data, .data, .data, .data], laidTests := true, laidLooks := .later }
def DecodeNoneUptoCardSaid : Prop := Claim7.holds Tryd.pinned (.plain (OpenSpec.upto decodeNoneSpec)) decodeNoneUptoCard
end Rows
end Go.Proofs.YtlooobehlhgccaaDoor
