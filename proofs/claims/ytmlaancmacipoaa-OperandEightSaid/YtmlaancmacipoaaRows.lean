/-
  No cell of these rows narrows 'for every input' (looked for: loops, veiled, ifaces, maps, wideKeys, modest, calm, conditions, laid).
  DERIVED. THE GIVEN ROWS OF THIS SEAT. 4 by the template 'for every input the law returns true; each argument reads behind the call as it read before'; 0 by the template 'total and deterministic' (their statements: YtmlaancmacipoaaTotals.lean).
  GIVEN WITH THE SEED: the statements are not yours to turn. If you find one false, say at which input.
  Laid BY PROGRAM, IN A SANDBOX (cutbox-rows.mjs): the forced cells as the released guide's own fill.sh prints them over the translation dc94ad346759229c… (all of the seat's roots in one cut). By AI agents, Wed Nov 11 2026. No macro, syntax, notation, axiom, sorry.
-/
import Derived.Test.YtmlaancmacipoaaChecked
import GoSem.Claim
import GoSem.ClaimJoined
import GoSem.ClaimMapViews
import Derived.JoinedTies
import Derived.KernelRfl
namespace Go.Proofs.Ytmlaancmacipoaa
/- THE CELL 'sum', in the pinned program and in every row, IS THE sha256 OF THE DUMP (.gsa) THAT YtmlaancmacipoaaProg.lean LOADS. Nothing in Lean hashes anything: it is a label: what it is worth is what the hold of that sum in a sandbox is worth. -/
noncomputable def Try.pinned : Pinned := { name := "ytmlaancmacipoaa", sum := "dc94ad346759229ca2c8bddbbfac9639416feb780665988be2edaa37b7e9be8e", checked := Try.checked }
namespace Rows
def none {H : Type} : Left H := { results := [], args := [] }

/-- 'ferrymanlaw12.OperandEight': WHATEVER THE INPUT: true; the input reads as it did. -/
def operandEightSpec : ChangeSpec := { name := "operandEight", fn := fun _ => fun
  | [d1, d2, d3] => { results := [.lit (.bool true)], args := [d1, d2, d3] }
  | _ => none }
def operandEightRow : OpenClaim := { program := "ytmlaancmacipoaa", sum := "dc94ad346759229ca2c8bddbbfac9639416feb780665988be2edaa37b7e9be8e", func := "ferryman/ferrymanlaw12.OperandEight", spec := "operandEight", unfollowed := true, recurses := true, apart := false }
def OperandEightSaid : Prop := operandEightRow.holds Try.pinned (OpenSpec.ofChange operandEightSpec)

/-- ITS FALSE NEIGHBOUR: 'it returns false'. Refute it at one input. -/
def operandEightWrong : ChangeSpec := { name := "operandEight", fn := fun _ => fun
  | [d1, d2, d3] => { results := [.lit (.bool false)], args := [d1, d2, d3] }
  | _ => none }
def OperandEightWrongFalsely : Prop := operandEightRow.holds Try.pinned (OpenSpec.ofChange operandEightWrong)

/-- 'ferrymanlaw12.OperandPlaces': WHATEVER THE INPUT: true; the input reads as it did. -/
def operandPlacesSpec : ChangeSpec := { name := "operandPlaces", fn := fun _ => fun
  | [d1, d2, d3, d4, d5, d6] => { results := [.lit (.bool true)], args := [d1, d2, d3, d4, d5, d6] }
  | _ => none }
def operandPlacesRow : OpenClaim := { program := "ytmlaancmacipoaa", sum := "dc94ad346759229ca2c8bddbbfac9639416feb780665988be2edaa37b7e9be8e", func := "ferryman/ferrymanlaw12.OperandPlaces", spec := "operandPlaces", unfollowed := true, recurses := true, apart := false }
def OperandPlacesSaid : Prop := operandPlacesRow.holds Try.pinned (OpenSpec.ofChange operandPlacesSpec)

/-- ITS FALSE NEIGHBOUR: 'it returns false'. Refute it at one input. -/
def operandPlacesWrong : ChangeSpec := { name := "operandPlaces", fn := fun _ => fun
  | [d1, d2, d3, d4, d5, d6] => { results := [.lit (.bool false)], args := [d1, d2, d3, d4, d5, d6] }
  | _ => none }
def OperandPlacesWrongFalsely : Prop := operandPlacesRow.holds Try.pinned (OpenSpec.ofChange operandPlacesWrong)

/-- 'ferrymanlaw12.OperandBytes': WHATEVER THE INPUT: true; the input reads as it did. -/
def operandBytesSpec : ChangeSpec := { name := "operandBytes", fn := fun _ => fun
  | [d1, d2, d3, d4, d5] => { results := [.lit (.bool true)], args := [d1, d2, d3, d4, d5] }
  | _ => none }
def operandBytesRow : OpenClaim := { program := "ytmlaancmacipoaa", sum := "dc94ad346759229ca2c8bddbbfac9639416feb780665988be2edaa37b7e9be8e", func := "ferryman/ferrymanlaw12.OperandBytes", spec := "operandBytes", unfollowed := true, recurses := true, apart := false }
def OperandBytesSaid : Prop := operandBytesRow.holds Try.pinned (OpenSpec.ofChange operandBytesSpec)

/-- ITS FALSE NEIGHBOUR: 'it returns false'. Refute it at one input. -/
def operandBytesWrong : ChangeSpec := { name := "operandBytes", fn := fun _ => fun
  | [d1, d2, d3, d4, d5] => { results := [.lit (.bool false)], args := [d1, d2, d3, d4, d5] }
  | _ => none }
def OperandBytesWrongFalsely : Prop := operandBytesRow.holds Try.pinned (OpenSpec.ofChange operandBytesWrong)

/-- 'ferrymanlaw12.OperandCan': WHATEVER THE INPUT: true; the input reads as it did. -/
def operandCanSpec : ChangeSpec := { name := "operandCan", fn := fun _ => fun
  | [d1, d2, d3] => { results := [.lit (.bool true)], args := [d1, d2, d3] }
  | _ => none }
def operandCanRow : OpenClaim := { program := "ytmlaancmacipoaa", sum := "dc94ad346759229ca2c8bddbbfac9639416feb780665988be2edaa37b7e9be8e", func := "ferryman/ferrymanlaw12.OperandCan", spec := "operandCan", unfollowed := true, recurses := true, apart := false }
def OperandCanSaid : Prop := operandCanRow.holds Try.pinned (OpenSpec.ofChange operandCanSpec)

/-- ITS FALSE NEIGHBOUR: 'it returns false'. Refute it at one input. -/
def operandCanWrong : ChangeSpec := { name := "operandCan", fn := fun _ => fun
  | [d1, d2, d3] => { results := [.lit (.bool false)], args := [d1, d2, d3] }
  | _ => none }
def OperandCanWrongFalsely : Prop := operandCanRow.holds Try.pinned (OpenSpec.ofChange operandCanWrong)

/- THE SECOND FORM. 'bulk': how many values and letters a reading holds, each counted each time it is reached (what is shared counts as often as it is met; a slice's spare places count too). A statement '..UptoSaid' is the law's where the arguments, and the package variables that the reading takes, are together of bulk at most 1048576: NARROWER than '..Said'. Prove '..Said' where nothing that the law and all that it calls make is longer than what came in: it says more and counts as full. Else prove '..UptoSaid'. A law counts once. -/
mutual
def uptoBulk {H : Type} : DataW H → Nat
  | .lit (.string bytes) => bytes.length + 1
  | .lit _ => 1
  | .nil => 1
  | .ptr d => uptoBulk d + 1
  | .slice elems spare => uptoBulkAll elems + uptoBulkAll spare + 1
  | .agg parts => uptoBulkAll parts + 1
  | .iface _ d => uptoBulk d + 1
  | .map entries => uptoBulkEntries entries + 1
  | .held _ => 1
def uptoBulkAll {H : Type} : List (DataW H) → Nat
  | [] => 0
  | d :: r => uptoBulk d + uptoBulkAll r
def uptoBulkEntries {H : Type} : List (Lit × DataW H) → Nat
  | [] => 0
  | x :: r => uptoBulkEntry x + uptoBulkEntries r
def uptoBulkEntry {H : Type} : Lit × DataW H → Nat
  | (.string bytes, d) => bytes.length + uptoBulk d + 1
  | (_, d) => uptoBulk d + 1
 end
def uptoSmall : (H : Type) → List (DataW H) → Bool := fun _ ds => decide (uptoBulkAll ds ≤ 1048576)
def OpenSpec.upto (s : _root_.Go.ChangeSpec) : _root_.Go.OpenSpec := { _root_.Go.OpenSpec.ofChange s with cond := some uptoSmall }

/-- 'ferrymanlaw12.OperandEight', WHERE WHAT IT READS IS OF BULK AT MOST 1048576: true; the input reads as it did. -/
def operandEightUptoRow : OpenClaim := { program := "ytmlaancmacipoaa", sum := "dc94ad346759229ca2c8bddbbfac9639416feb780665988be2edaa37b7e9be8e", func := "ferryman/ferrymanlaw12.OperandEight", spec := "operandEight", unfollowed := true, recurses := true, apart := false, narrowed := true }
def OperandEightUptoSaid : Prop := operandEightUptoRow.holds Try.pinned (OpenSpec.upto operandEightSpec)

/-- 'ferrymanlaw12.OperandPlaces', WHERE WHAT IT READS IS OF BULK AT MOST 1048576: true; the input reads as it did. -/
def operandPlacesUptoRow : OpenClaim := { program := "ytmlaancmacipoaa", sum := "dc94ad346759229ca2c8bddbbfac9639416feb780665988be2edaa37b7e9be8e", func := "ferryman/ferrymanlaw12.OperandPlaces", spec := "operandPlaces", unfollowed := true, recurses := true, apart := false, narrowed := true }
def OperandPlacesUptoSaid : Prop := operandPlacesUptoRow.holds Try.pinned (OpenSpec.upto operandPlacesSpec)

/-- 'ferrymanlaw12.OperandBytes', WHERE WHAT IT READS IS OF BULK AT MOST 1048576: true; the input reads as it did. -/
def operandBytesUptoRow : OpenClaim := { program := "ytmlaancmacipoaa", sum := "dc94ad346759229ca2c8bddbbfac9639416feb780665988be2edaa37b7e9be8e", func := "ferryman/ferrymanlaw12.OperandBytes", spec := "operandBytes", unfollowed := true, recurses := true, apart := false, narrowed := true }
def OperandBytesUptoSaid : Prop := operandBytesUptoRow.holds Try.pinned (OpenSpec.upto operandBytesSpec)

/-- 'ferrymanlaw12.OperandCan', WHERE WHAT IT READS IS OF BULK AT MOST 1048576: true; the input reads as it did. -/
def operandCanUptoRow : OpenClaim := { program := "ytmlaancmacipoaa", sum := "dc94ad346759229ca2c8bddbbfac9639416feb780665988be2edaa37b7e9be8e", func := "ferryman/ferrymanlaw12.OperandCan", spec := "operandCan", unfollowed := true, recurses := true, apart := false, narrowed := true }
def OperandCanUptoSaid : Prop := operandCanUptoRow.holds Try.pinned (OpenSpec.upto operandCanSpec)

end Rows
end Go.Proofs.Ytmlaancmacipoaa
