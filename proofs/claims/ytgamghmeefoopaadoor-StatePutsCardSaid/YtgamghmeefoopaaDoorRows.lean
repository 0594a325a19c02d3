/-
  NARROWER THAN 'FOR EVERY INPUT', by the rows' own cells (each row's printed sentence says how): StateTells: laid · StatePuts: laid · StateConds: laid · StateBytes: laid · StateFlags: laid · StateRegs: laid.
  DERIVED. THE GIVEN ROWS OF THIS SEAT. 6 by the template 'for every input the law returns true; each argument reads behind the call as it read before'; 0 by the template 'total and deterministic' (their statements: YtgamghmeefoopaaDoorTotals.lean).
  GIVEN WITH THE SEED: the statements are not yours to turn. If you find one false, say at which input.
  Laid BY PROGRAM, IN A SANDBOX (cutbox-rows.mjs): the forced cells as the released guide's own fill.sh prints them over the translation c7ca7694a63e333c… (all of the seat's roots in one cut). By AI agents, Wed Nov 11 2026. No macro, syntax, notation, axiom, sorry.
-/
import Derived.Test.YtgamghmeefoopaaDoorChecked
import GoSem.Claim
import GoSem.ClaimJoined
import GoSem.ClaimMapViews
import Derived.JoinedTies
import Derived.KernelRfl
namespace Go.Proofs.YtgamghmeefoopaaDoor
/- THE CELL 'sum', in the pinned program and in every row, IS THE sha256 OF THE DUMP (.gsa) THAT YtgamghmeefoopaaDoorProg.lean LOADS. Nothing in Lean hashes anything: it is a label: what it is worth is what the hold of that sum in a sandbox is worth. -/
noncomputable def Tryd.pinned : Pinned := { name := "ytgamghmeefoopaadoor", sum := "c7ca7694a63e333c0983686a50bc9abb7cef3c768b39187a48b044677f541846", checked := Tryd.checked }
namespace Rows
def none {H : Type} : Left H := { results := [], args := [] }

/- WHAT THE LISTED PACKAGE-LEVEL VARIABLES READ AS WHEN THE CALL BEGINS. Each datum BY PROGRAM (the guide's laid-datum.mjs) off the statement by which the dump's own 'gosem.cut.vars' lays the variable. In a bare row this is a premise. The card (YtgamghmeefoopaaDoorCards.lean) ties it to the program's text. -/
def laid_ferryman_state_flagBits {H : Type} : DataW H := .agg [.lit (.int .i64 0), .lit (.int .i64 2), .lit (.int .i64 4), .lit (.int .i64 6), .lit (.int .i64 7), .lit (.int .i64 11)]

/-- 'ferrymanlaw7.StateTells': WHATEVER THE INPUT: true; the input reads as it did. -/
def stateTellsSpec : ChangeSpec := { name := "stateTells", fn := fun _ => fun
  | [d1, d2, d3, d4, d5] => { results := [.lit (.bool true)], args := [d1, d2, d3, d4, d5] }
  | _ => none }
def stateTellsRow : OpenClaim := { program := "ytgamghmeefoopaadoor", sum := "c7ca7694a63e333c0983686a50bc9abb7cef3c768b39187a48b044677f541846", func := "ferryman/ferrymanlaw7.StateTells", spec := "stateTells", named := ["ferryman/state.flagBits"], apart := false, laid := [("ferryman/state.flagBits", laid_ferryman_state_flagBits)] }
def StateTellsSaid : Prop := stateTellsRow.holds Tryd.pinned (OpenSpec.ofChange stateTellsSpec)

/-- ITS FALSE NEIGHBOUR: 'it returns false'. Refute it at one input. -/
def stateTellsWrong : ChangeSpec := { name := "stateTells", fn := fun _ => fun
  | [d1, d2, d3, d4, d5] => { results := [.lit (.bool false)], args := [d1, d2, d3, d4, d5] }
  | _ => none }
def StateTellsWrongFalsely : Prop := stateTellsRow.holds Tryd.pinned (OpenSpec.ofChange stateTellsWrong)

/-- 'ferrymanlaw7.StatePuts': WHATEVER THE INPUT: true; the input reads as it did. -/
def statePutsSpec : ChangeSpec := { name := "statePuts", fn := fun _ => fun
  | [d1, d2, d3] => { results := [.lit (.bool true)], args := [d1, d2, d3] }
  | _ => none }
def statePutsRow : OpenClaim := { program := "ytgamghmeefoopaadoor", sum := "c7ca7694a63e333c0983686a50bc9abb7cef3c768b39187a48b044677f541846", func := "ferryman/ferrymanlaw7.StatePuts", spec := "statePuts", named := ["ferryman/state.flagBits"], apart := false, laid := [("ferryman/state.flagBits", laid_ferryman_state_flagBits)] }
def StatePutsSaid : Prop := statePutsRow.holds Tryd.pinned (OpenSpec.ofChange statePutsSpec)

/-- ITS FALSE NEIGHBOUR: 'it returns false'. Refute it at one input. -/
def statePutsWrong : ChangeSpec := { name := "statePuts", fn := fun _ => fun
  | [d1, d2, d3] => { results := [.lit (.bool false)], args := [d1, d2, d3] }
  | _ => none }
def StatePutsWrongFalsely : Prop := statePutsRow.holds Tryd.pinned (OpenSpec.ofChange statePutsWrong)

/-- 'ferrymanlaw7.StateConds': WHATEVER THE INPUT: true; the input reads as it did. -/
def stateCondsSpec : ChangeSpec := { name := "stateConds", fn := fun _ => fun
  | [d1, d2, d3] => { results := [.lit (.bool true)], args := [d1, d2, d3] }
  | _ => none }
def stateCondsRow : OpenClaim := { program := "ytgamghmeefoopaadoor", sum := "c7ca7694a63e333c0983686a50bc9abb7cef3c768b39187a48b044677f541846", func := "ferryman/ferrymanlaw7.StateConds", spec := "stateConds", named := ["ferryman/state.flagBits"], apart := false, laid := [("ferryman/state.flagBits", laid_ferryman_state_flagBits)] }
def StateCondsSaid : Prop := stateCondsRow.holds Tryd.pinned (OpenSpec.ofChange stateCondsSpec)

/-- ITS FALSE NEIGHBOUR: 'it returns false'. Refute it at one input. -/
def stateCondsWrong : ChangeSpec := { name := "stateConds", fn := fun _ => fun
  | [d1, d2, d3] => { results := [.lit (.bool false)], args := [d1, d2, d3] }
  | _ => none }
def StateCondsWrongFalsely : Prop := stateCondsRow.holds Tryd.pinned (OpenSpec.ofChange stateCondsWrong)

/-- 'ferrymanlaw7.StateBytes': WHATEVER THE INPUT: true; the input reads as it did. -/
def stateBytesSpec : ChangeSpec := { name := "stateBytes", fn := fun _ => fun
  | [d1, d2, d3] => { results := [.lit (.bool true)], args := [d1, d2, d3] }
  | _ => none }
def stateBytesRow : OpenClaim := { program := "ytgamghmeefoopaadoor", sum := "c7ca7694a63e333c0983686a50bc9abb7cef3c768b39187a48b044677f541846", func := "ferryman/ferrymanlaw7.StateBytes", spec := "stateBytes", named := ["ferryman/state.flagBits"], apart := false, laid := [("ferryman/state.flagBits", laid_ferryman_state_flagBits)] }
def StateBytesSaid : Prop := stateBytesRow.holds Tryd.pinned (OpenSpec.ofChange stateBytesSpec)

/-- ITS FALSE NEIGHBOUR: 'it returns false'. Refute it at one input. -/
def stateBytesWrong : ChangeSpec := { name := "stateBytes", fn := fun _ => fun
  | [d1, d2, d3] => { results := [.lit (.bool false)], args := [d1, d2, d3] }
  | _ => none }
def StateBytesWrongFalsely : Prop := stateBytesRow.holds Tryd.pinned (OpenSpec.ofChange stateBytesWrong)

/-- 'ferrymanlaw7.StateFlags': WHATEVER THE INPUT: true; the input reads as it did. -/
def stateFlagsSpec : ChangeSpec := { name := "stateFlags", fn := fun _ => fun
  | [d1, d2] => { results := [.lit (.bool true)], args := [d1, d2] }
  | _ => none }
def stateFlagsRow : OpenClaim := { program := "ytgamghmeefoopaadoor", sum := "c7ca7694a63e333c0983686a50bc9abb7cef3c768b39187a48b044677f541846", func := "ferryman/ferrymanlaw7.StateFlags", spec := "stateFlags", named := ["ferryman/state.flagBits"], apart := false, laid := [("ferryman/state.flagBits", laid_ferryman_state_flagBits)] }
def StateFlagsSaid : Prop := stateFlagsRow.holds Tryd.pinned (OpenSpec.ofChange stateFlagsSpec)

/-- ITS FALSE NEIGHBOUR: 'it returns false'. Refute it at one input. -/
def stateFlagsWrong : ChangeSpec := { name := "stateFlags", fn := fun _ => fun
  | [d1, d2] => { results := [.lit (.bool false)], args := [d1, d2] }
  | _ => none }
def StateFlagsWrongFalsely : Prop := stateFlagsRow.holds Tryd.pinned (OpenSpec.ofChange stateFlagsWrong)

/-- 'ferrymanlaw7.StateRegs': WHATEVER THE INPUT: true; the input reads as it did. -/
def stateRegsSpec : ChangeSpec := { name := "stateRegs", fn := fun _ => fun
  | [d1, d2, d3] => { results := [.lit (.bool true)], args := [d1, d2, d3] }
  | _ => none }
def stateRegsRow : OpenClaim := { program := "ytgamghmeefoopaadoor", sum := "c7ca7694a63e333c0983686a50bc9abb7cef3c768b39187a48b044677f541846", func := "ferryman/ferrymanlaw7.StateRegs", spec := "stateRegs", named := ["ferryman/state.flagBits"], apart := false, laid := [("ferryman/state.flagBits", laid_ferryman_state_flagBits)] }
def StateRegsSaid : Prop := stateRegsRow.holds Tryd.pinned (OpenSpec.ofChange stateRegsSpec)

/-- ITS FALSE NEIGHBOUR: 'it returns false'. Refute it at one input. -/
def stateRegsWrong : ChangeSpec := { name := "stateRegs", fn := fun _ => fun
  | [d1, d2, d3] => { results := [.lit (.bool false)], args := [d1, d2, d3] }
  | _ => none }
def StateRegsWrongFalsely : Prop := stateRegsRow.holds Tryd.pinned (OpenSpec.ofChange stateRegsWrong)

/- THE SECOND FORM. 'bulk': how many values and letters a reading holds, each counted each time it is reached (what is shared counts as often as it is met; a slice's spare places count too). A statement '..UptoSaid' is the law's where the arguments, and the package variables that the reading takes, are together of bulk at most 1048576: NARROWER than '..Said'. Prove '..Said' where nothing that the law and all that it calls make is longer than what came in: it says more and counts as full. Else prove '..UptoSaid'. A law counts once. -/
mutual
def uptoBulk {H : Type} : DataW H → Nat
  | .lit (.string bytes) => bytes.length + 1
  | .lit _ => 1
  | .nil => 1
  | .ptr d => uptoBulk d + 1
  | .slice elems spare => uptoBulkAll elems + uptoBulkAll spare + 1
  | .agg parts => uptoBulkAll parts + 1
  | .iface _ d => uptoBulk d + 1
  | .map entries => uptoBulkEntries entries + 1
  | .held _ => 1
def uptoBulkAll {H : Type} : List (DataW H) → Nat
  | [] => 0
  | d :: r => uptoBulk d + uptoBulkAll r
def uptoBulkEntries {H : Type} : List (Lit × DataW H) → Nat
  | [] => 0
  | x :: r => uptoBulkEntry x + uptoBulkEntries r
def uptoBulkEntry {H : Type} : Lit × DataW H → Nat
  | (.string bytes, d) => bytes.length + uptoBulk d + 1
  | (_, d) => uptoBulk d + 1
 end
def uptoSmall : (H : Type) → List (DataW H) → Bool := fun _ ds => decide (uptoBulkAll ds ≤ 1048576)
def OpenSpec.upto (s : _root_.Go.ChangeSpec) : _root_.Go.OpenSpec := { _root_.Go.OpenSpec.ofChange s with cond := some uptoSmall }

/-- 'ferrymanlaw7.StateTells', WHERE WHAT IT READS IS OF BULK AT MOST 1048576: true; the input reads as it did. -/
def stateTellsUptoRow : OpenClaim := { program := "ytgamghmeefoopaadoor", sum := "c7ca7694a63e333c0983686a50bc9abb7cef3c768b39187a48b044677f541846", func := "ferryman/ferrymanlaw7.StateTells", spec := "stateTells", named := ["ferryman/state.flagBits"], apart := false, laid := [("ferryman/state.flagBits", laid_ferryman_state_flagBits)], narrowed := true }
def StateTellsUptoSaid : Prop := stateTellsUptoRow.holds Tryd.pinned (OpenSpec.upto stateTellsSpec)

/-- 'ferrymanlaw7.StatePuts', WHERE WHAT IT READS IS OF BULK AT MOST 1048576: true; the input reads as it did. -/
def statePutsUptoRow : OpenClaim := { program := "ytgamghmeefoopaadoor", sum := "c7ca7694a63e333c0983686a50bc9abb7cef3c768b39187a48b044677f541846", func := "ferryman/ferrymanlaw7.StatePuts", spec := "statePuts", named := ["ferryman/state.flagBits"], apart := false, laid := [("ferryman/state.flagBits", laid_ferryman_state_flagBits)], narrowed := true }
def StatePutsUptoSaid : Prop := statePutsUptoRow.holds Tryd.pinned (OpenSpec.upto statePutsSpec)

/-- 'ferrymanlaw7.StateConds', WHERE WHAT IT READS IS OF BULK AT MOST 1048576: true; the input reads as it did. -/
def stateCondsUptoRow : OpenClaim := { program := "ytgamghmeefoopaadoor", sum := "c7ca7694a63e333c0983686a50bc9abb7cef3c768b39187a48b044677f541846", func := "ferryman/ferrymanlaw7.StateConds", spec := "stateConds", named := ["ferryman/state.flagBits"], apart := false, laid := [("ferryman/state.flagBits", laid_ferryman_state_flagBits)], narrowed := true }
def StateCondsUptoSaid : Prop := stateCondsUptoRow.holds Tryd.pinned (OpenSpec.upto stateCondsSpec)

/-- 'ferrymanlaw7.StateBytes', WHERE WHAT IT READS IS OF BULK AT MOST 1048576: true; the input reads as it did. -/
def stateBytesUptoRow : OpenClaim := { program := "ytgamghmeefoopaadoor", sum := "c7ca7694a63e333c0983686a50bc9abb7cef3c768b39187a48b044677f541846", func := "ferryman/ferrymanlaw7.StateBytes", spec := "stateBytes", named := ["ferryman/state.flagBits"], apart := false, laid := [("ferryman/state.flagBits", laid_ferryman_state_flagBits)], narrowed := true }
def StateBytesUptoSaid : Prop := stateBytesUptoRow.holds Tryd.pinned (OpenSpec.upto stateBytesSpec)

/-- 'ferrymanlaw7.StateFlags', WHERE WHAT IT READS IS OF BULK AT MOST 1048576: true; the input reads as it did. -/
def stateFlagsUptoRow : OpenClaim := { program := "ytgamghmeefoopaadoor", sum := "c7ca7694a63e333c0983686a50bc9abb7cef3c768b39187a48b044677f541846", func := "ferryman/ferrymanlaw7.StateFlags", spec := "stateFlags", named := ["ferryman/state.flagBits"], apart := false, laid := [("ferryman/state.flagBits", laid_ferryman_state_flagBits)], narrowed := true }
def StateFlagsUptoSaid : Prop := stateFlagsUptoRow.holds Tryd.pinned (OpenSpec.upto stateFlagsSpec)

/-- 'ferrymanlaw7.StateRegs', WHERE WHAT IT READS IS OF BULK AT MOST 1048576: true; the input reads as it did. -/
def stateRegsUptoRow : OpenClaim := { program := "ytgamghmeefoopaadoor", sum := "c7ca7694a63e333c0983686a50bc9abb7cef3c768b39187a48b044677f541846", func := "ferryman/ferrymanlaw7.StateRegs", spec := "stateRegs", named := ["ferryman/state.flagBits"], apart := false, laid := [("ferryman/state.flagBits", laid_ferryman_state_flagBits)], narrowed := true }
def StateRegsUptoSaid : Prop := stateRegsUptoRow.holds Tryd.pinned (OpenSpec.upto stateRegsSpec)

end Rows
end Go.Proofs.YtgamghmeefoopaaDoor
