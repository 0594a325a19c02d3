/-
  DERIVED. GIVEN WITH THE SEED: THE CARDS: each row of YtcddhlepkmbkcaaDoorRows.lean that lists a variable, with what it lists TIED to the program's text (the seventh form; the later family's looks); each row that meets fmt, with fmt's text TOLD by the authors' own Lean function (tested against real Go, not proved from fmt's source: count such statements apart). THE CARD IS WHAT COUNTS. Prove the row's statement (the work); the ties are given (YtcddhlepkmbkcaaDoorTie.lean); close each card by the builder's one call (the guide's Derived/Test/ToyasCard.lean, 'card_holds'). Laid BY PROGRAM, IN A SANDBOX (cutbox-door.mjs). By AI agents, Wed Nov 11 2026. No macro, syntax, notation, axiom, sorry.
-/
import Derived.Test.YtcddhlepkmbkcaaDoorRows
import GoSem.ClaimSeven
namespace Go.Proofs.YtcddhlepkmbkcaaDoor
namespace Rows

/-- THE TIED CARD OF 'ferrymanlaw4.HostSteps'. -/
def hostStepsCard : Claim7 := { stood := { row := hostStepsRow, standIns := [], harness := (true, "5cd9cee58acb4620e7912bd542739acfedbeca11bbb2a904b285d3ee0cdd0e8e"), looks := true }, kinds := [], alts := [], laidByText := true, laidKinds := [.data, .data], laidTests := true, laidLooks := .later }
def HostStepsCardSaid : Prop := Claim7.holds Tryd.pinned (.plain (OpenSpec.ofChange hostStepsSpec)) hostStepsCard

/-- THE TIED CARD OF 'ferrymanlaw4.HostRuns'. -/
def hostRunsCard : Claim7 := { stood := { row := hostRunsRow, standIns := [], harness := (true, "5cd9cee58acb4620e7912bd542739acfedbeca11bbb2a904b285d3ee0cdd0e8e"), looks := true }, kinds := [], alts := [], laidByText := true, laidKinds := [.data, .data], laidTests := true, laidLooks := .later }
def HostRunsCardSaid : Prop := Claim7.holds Tryd.pinned (.plain (OpenSpec.ofChange hostRunsSpec)) hostRunsCard

/-- THE TIED CARD OF 'ferrymanlaw4.HostMemory'. -/
def hostMemoryCard : Claim7 := { stood := { row := hostMemoryRow, standIns := [], harness := (true, "5cd9cee58acb4620e7912bd542739acfedbeca11bbb2a904b285d3ee0cdd0e8e"), looks := true }, kinds := [], alts := [], laidByText := true, laidKinds := [.data, .data], laidTests := true, laidLooks := .later }
def HostMemoryCardSaid : Prop := Claim7.holds Tryd.pinned (.plain (OpenSpec.ofChange hostMemorySpec)) hostMemoryCard

/-- THE TIED CARD OF 'ferrymanlaw4.HostDivides'. -/
def hostDividesCard : Claim7 := { stood := { row := hostDividesRow, standIns := [], harness := (true, "5cd9cee58acb4620e7912bd542739acfedbeca11bbb2a904b285d3ee0cdd0e8e"), looks := true }, kinds := [], alts := [], laidByText := true, laidKinds := [.data, .data], laidTests := true, laidLooks := .later }
def HostDividesCardSaid : Prop := Claim7.holds Tryd.pinned (.plain (OpenSpec.ofChange hostDividesSpec)) hostDividesCard

/-- THE TIED CARD OF 'ferrymanlaw4.HostLoops'. -/
def hostLoopsCard : Claim7 := { stood := { row := hostLoopsRow, standIns := [], harness := (true, "5cd9cee58acb4620e7912bd542739acfedbeca11bbb2a904b285d3ee0cdd0e8e"), looks := true }, kinds := [], alts := [], laidByText := true, laidKinds := [.data, .data], laidTests := true, laidLooks := .later }
def HostLoopsCardSaid : Prop := Claim7.holds Tryd.pinned (.plain (OpenSpec.ofChange hostLoopsSpec)) hostLoopsCard

/-- THE TIED CARD OF 'ferrymanlaw4.HostStops'. -/
def hostStopsCard : Claim7 := { stood := { row := hostStopsRow, standIns := [], harness := (true, "5cd9cee58acb4620e7912bd542739acfedbeca11bbb2a904b285d3ee0cdd0e8e"), looks := true }, kinds := [], alts := [], laidByText := true, laidKinds := [.data, .data], laidTests := true, laidLooks := .later }
def HostStopsCardSaid : Prop := Claim7.holds Tryd.pinned (.plain (OpenSpec.ofChange hostStopsSpec)) hostStopsCard

/-- THE TIED CARD OF 'ferrymanlaw4.HostZero'. -/
def hostZeroCard : Claim7 := { stood := { row := hostZeroRow, standIns := [], harness := (true, "5cd9cee58acb4620e7912bd542739acfedbeca11bbb2a904b285d3ee0cdd0e8e"), looks := true }, kinds := [], alts := [], laidByText := true, laidKinds := [.data, .data], laidTests := true, laidLooks := .later }
def HostZeroCardSaid : Prop := Claim7.holds Tryd.pinned (.plain (OpenSpec.ofChange hostZeroSpec)) hostZeroCard

/-- THE SECOND FORM's CARD OF 'ferrymanlaw4.HostSteps'. -/
def hostStepsUptoCard : Claim7 := { stood := { row := hostStepsUptoRow, standIns := [], harness := (true, "5cd9cee58acb4620e7912bd542739acfedbeca11bbb2a904b285d3ee0cdd0e8e"), looks := true }, kinds := [], alts := [], laidByText := true, laidKinds := [.data, .data], laidTests := true, laidLooks := .later }
def HostStepsUptoCardSaid : Prop := Claim7.holds Tryd.pinned (.plain (OpenSpec.upto hostStepsSpec)) hostStepsUptoCard

/-- THE SECOND FORM's CARD OF 'ferrymanlaw4.HostRuns'. -/
def hostRunsUptoCard : Claim7 := { stood := { row := hostRunsUptoRow, standIns := [], harness := (true, "5cd9cee58acb4620e7912bd542739acfedbeca11bbb2a904b285d3ee0cdd0e8e"), looks := true }, kinds := [], alts := [], laidByText := true, laidKinds := [.data, .data], laidTests := true, laidLooks := .later }
def HostRunsUptoCardSaid : Prop := Claim7.holds Tryd.pinned (.plain (OpenSpec.upto hostRunsSpec)) hostRunsUptoCard

/-- THE SECOND FORM's CARD OF 'ferrymanlaw4.HostMemory'. -/
def hostMemoryUptoCard : Claim7 := { stood := { row := hostMemoryUptoRow, standIns := [], harness := (true, "5cd9cee58acb4620e7912bd542739acfedbeca11bbb2a904b285d3ee0cdd0e8e"), looks := true }, kinds := [], alts := [], laidByText := true, laidKinds := [.data, .data], laidTests := true, laidLooks := .later }
def HostMemoryUptoCardSaid : Prop := Claim7.holds Tryd.pinned (.plain (OpenSpec.upto hostMemorySpec)) hostMemoryUptoCard

/-- THE SECOND FORM's CARD OF 'ferrymanlaw4.HostDivides'. -/
def hostDividesUptoCard : Claim7 := { stood := { row := hostDividesUptoRow, standIns := [], harness := (true, "5cd9cee58acb4620e7912bd542739acfedbeca11bbb2a904b285d3ee0cdd0e8e"), looks := true }, kinds := [], alts := [], laidByText := true, laidKinds := [.data, .data], laidTests := true, laidLooks := .later }
def HostDividesUptoCardSaid : Prop := Claim7.holds Tryd.pinned (.plain (OpenSpec.upto hostDividesSpec)) hostDividesUptoCard

/-- THE SECOND FORM's CARD OF 'ferrymanlaw4.HostLoops'. -/
def hostLoopsUptoCard : Claim7 := { stood := { row := hostLoopsUptoRow, standIns := [], harness := (true, "5cd9cee58acb4620e7912bd542739acfedbeca11bbb2a904b285d3ee0cdd0e8e"), looks := true }, kinds := [], alts := [], laidByText := true, laidKinds := [.data, .data], laidTests := true, laidLooks := .later }
def HostLoopsUptoCardSaid : Prop := Claim7.holds Tryd.pinned (.plain (OpenSpec.upto hostLoopsSpec)) hostLoopsUptoCard

/-- THE SECOND FORM's CARD OF 'ferrymanlaw4.HostStops'. -/
def hostStopsUptoCard : Claim7 := { stood := { row := hostStopsUptoRow, standIns := [], harness := (true, "5cd9cee58acb4620e7912bd542739acfedbeca11bbb2a904b285d3ee0cdd0e8e"), looks := true }, kinds := [], alts := [], laidByText := true, laidKinds := [.data, .data], laidTests := true, laidLooks := .later }
def HostStopsUptoCardSaid : Prop := Claim7.holds Tryd.pinned (.plain (OpenSpec.upto hostStopsSpec)) hostStopsUptoCard

/-- THE SECOND FORM's CARD OF 'ferrymanlaw4.HostZero'. -/
def hostZeroUptoCard : Claim7 := { stood := { row := hostZeroUptoRow, standIns := [], harness := (true, "5cd9cee58acb4620e7912bd542739acfedbeca11bbb2a904b285d3ee0cdd0e8e"), looks := true }, kinds := [], alts := [], laidByText := true, laidKinds := [.data, .data], laidTests := true, laidLooks := .later }
def HostZeroUptoCardSaid : Prop := Claim7.holds Tryd.pinned (.plain (OpenSpec.upto hostZeroSpec)) hostZeroUptoCard
end Rows
end Go.Proofs.YtcddhlepkmbkcaaDoor
