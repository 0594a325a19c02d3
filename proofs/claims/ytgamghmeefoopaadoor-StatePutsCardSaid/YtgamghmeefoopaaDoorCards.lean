/-
  DERIVED. GIVEN WITH THE SEED: THE CARDS: each row of YtgamghmeefoopaaDoorRows.lean that lists a variable, with what it lists TIED to the program's text (the seventh form; the later family's looks); each row that meets fmt, with fmt's text TOLD by the authors' own Lean function (tested against real Go, not proved from fmt's source: count such statements apart). THE CARD IS WHAT COUNTS. Prove the row's statement (the work); the ties are given (YtgamghmeefoopaaDoorTie.lean); close each card by the builder's one call (the guide's Derived/Test/ToyasCard.lean, 'card_holds'). Laid BY PROGRAM, IN A SANDBOX (cutbox-door.mjs). By AI agents, Wed Nov 11 2026. No macro, syntax, notation, axiom, sorry.
-/
import Derived.Test.YtgamghmeefoopaaDoorRows
import GoSem.ClaimSeven
namespace Go.Proofs.YtgamghmeefoopaaDoor
namespace Rows

/-- THE TIED CARD OF 'ferrymanlaw7.StateTells'. -/
def stateTellsCard : Claim7 := { stood := { row := stateTellsRow, standIns := [], harness := (true, "0658e79d1d90c4016ae3c5a6a16243e4bff3f89ee58fa4cdf62e587ca6c6d107"), looks := false }, kinds := [], alts := [], laidByText := true, laidKinds := [.data], laidTests := true, laidLooks := .later }
def StateTellsCardSaid : Prop := Claim7.holds Tryd.pinned (.plain (OpenSpec.ofChange stateTellsSpec)) stateTellsCard

/-- THE TIED CARD OF 'ferrymanlaw7.StatePuts'. -/
def statePutsCard : Claim7 := { stood := { row := statePutsRow, standIns := [], harness := (true, "0658e79d1d90c4016ae3c5a6a16243e4bff3f89ee58fa4cdf62e587ca6c6d107"), looks := false }, kinds := [], alts := [], laidByText := true, laidKinds := [.data], laidTests := true, laidLooks := .later }
def StatePutsCardSaid : Prop := Claim7.holds Tryd.pinned (.plain (OpenSpec.ofChange statePutsSpec)) statePutsCard

/-- THE TIED CARD OF 'ferrymanlaw7.StateConds'. -/
def stateCondsCard : Claim7 := { stood := { row := stateCondsRow, standIns := [], harness := (true, "0658e79d1d90c4016ae3c5a6a16243e4bff3f89ee58fa4cdf62e587ca6c6d107"), looks := false }, kinds := [], alts := [], laidByText := true, laidKinds := [.data], laidTests := true, laidLooks := .later }
def StateCondsCardSaid : Prop := Claim7.holds Tryd.pinned (.plain (OpenSpec.ofChange stateCondsSpec)) stateCondsCard

/-- THE TIED CARD OF 'ferrymanlaw7.StateBytes'. -/
def stateBytesCard : Claim7 := { stood := { row := stateBytesRow, standIns := [], harness := (true, "0658e79d1d90c4016ae3c5a6a16243e4bff3f89ee58fa4cdf62e587ca6c6d107"), looks := false }, kinds := [], alts := [], laidByText := true, laidKinds := [.data], laidTests := true, laidLooks := .later }
def StateBytesCardSaid : Prop := Claim7.holds Tryd.pinned (.plain (OpenSpec.ofChange stateBytesSpec)) stateBytesCard

/-- THE TIED CARD OF 'ferrymanlaw7.StateFlags'. -/
def stateFlagsCard : Claim7 := { stood := { row := stateFlagsRow, standIns := [], harness := (true, "0658e79d1d90c4016ae3c5a6a16243e4bff3f89ee58fa4cdf62e587ca6c6d107"), looks := false }, kinds := [], alts := [], laidByText := true, laidKinds := [.data], laidTests := true, laidLooks := .later }
def StateFlagsCardSaid : Prop := Claim7.holds Tryd.pinned (.plain (OpenSpec.ofChange stateFlagsSpec)) stateFlagsCard

/-- THE TIED CARD OF 'ferrymanlaw7.StateRegs'. -/
def stateRegsCard : Claim7 := { stood := { row := stateRegsRow, standIns := [], harness := (true, "0658e79d1d90c4016ae3c5a6a16243e4bff3f89ee58fa4cdf62e587ca6c6d107"), looks := false }, kinds := [], alts := [], laidByText := true, laidKinds := [.data], laidTests := true, laidLooks := .later }
def StateRegsCardSaid : Prop := Claim7.holds Tryd.pinned (.plain (OpenSpec.ofChange stateRegsSpec)) stateRegsCard

/-- THE SECOND FORM's CARD OF 'ferrymanlaw7.StateTells'. -/
def stateTellsUptoCard : Claim7 := { stood := { row := stateTellsUptoRow, standIns := [], harness := (true, "0658e79d1d90c4016ae3c5a6a16243e4bff3f89ee58fa4cdf62e587ca6c6d107"), looks := false }, kinds := [], alts := [], laidByText := true, laidKinds := [.data], laidTests := true, laidLooks := .later }
def StateTellsUptoCardSaid : Prop := Claim7.holds Tryd.pinned (.plain (OpenSpec.upto stateTellsSpec)) stateTellsUptoCard

/-- THE SECOND FORM's CARD OF 'ferrymanlaw7.StatePuts'. -/
def statePutsUptoCard : Claim7 := { stood := { row := statePutsUptoRow, standIns := [], harness := (true, "0658e79d1d90c4016ae3c5a6a16243e4bff3f89ee58fa4cdf62e587ca6c6d107"), looks := false }, kinds := [], alts := [], laidByText := true, laidKinds := [.data], laidTests := true, laidLooks := .later }
def StatePutsUptoCardSaid : Prop := Claim7.holds Tryd.pinned (.plain (OpenSpec.upto statePutsSpec)) statePutsUptoCard

/-- THE SECOND FORM's CARD OF 'ferrymanlaw7.StateConds'. -/
def stateCondsUptoCard : Claim7 := { stood := { row := stateCondsUptoRow, standIns := [], harness := (true, "0658e79d1d90c4016ae3c5a6a16243e4bff3f89ee58fa4cdf62e587ca6c6d107"), looks := false }, kinds := [], alts := [], laidByText := true, laidKinds := [.data], laidTests := true, laidLooks := .later }
def StateCondsUptoCardSaid : Prop := Claim7.holds Tryd.pinned (.plain (OpenSpec.upto stateCondsSpec)) stateCondsUptoCard

/-- THE SECOND FORM's CARD OF 'ferrymanlaw7.StateBytes'. -/
def stateBytesUptoCard : Claim7 := { stood := { row := stateBytesUptoRow, standIns := [], harness := (true, "0658e79d1d90c4016ae3c5a6a16243e4bff3f89ee58fa4cdf62e587ca6c6d107"), looks := false }, kinds := [], alts := [], laidByText := true, laidKinds := [.data], laidTests := true, laidLooks := .later }
def StateBytesUptoCardSaid : Prop := Claim7.holds Tryd.pinned (.plain (OpenSpec.upto stateBytesSpec)) stateBytesUptoCard

/-- THE SECOND FORM's CARD OF 'ferrymanlaw7.StateFlags'. -/
def stateFlagsUptoCard : Claim7 := { stood := { row := stateFlagsUptoRow, standIns := [], harness := (true, "0658e79d1d90c4016ae3c5a6a16243e4bff3f89ee58fa4cdf62e587ca6c6d107"), looks := false }, kinds := [], alts := [], laidByText := true, laidKinds := [.data], laidTests := true, laidLooks := .later }
def StateFlagsUptoCardSaid : Prop := Claim7.holds Tryd.pinned (.plain (OpenSpec.upto stateFlagsSpec)) stateFlagsUptoCard

/-- THE SECOND FORM's CARD OF 'ferrymanlaw7.StateRegs'. -/
def stateRegsUptoCard : Claim7 := { stood := { row := stateRegsUptoRow, standIns := [], harness := (true, "0658e79d1d90c4016ae3c5a6a16243e4bff3f89ee58fa4cdf62e587ca6c6d107"), looks := false }, kinds := [], alts := [], laidByText := true, laidKinds := [.data], laidTests := true, laidLooks := .later }
def StateRegsUptoCardSaid : Prop := Claim7.holds Tryd.pinned (.plain (OpenSpec.upto stateRegsSpec)) stateRegsUptoCard
end Rows
end Go.Proofs.YtgamghmeefoopaaDoor
