/-
  NARROWER THAN 'FOR EVERY INPUT', by the rows' own cells (each row's printed sentence says how): InsnParts: laid · InsnMemory: laid · InsnShapes: laid · InsnPlaces: laid.
  DERIVED. THE GIVEN ROWS OF THIS SEAT. 4 by the template 'for every input the law returns true; each argument reads behind the call as it read before'; 0 by the template 'total and deterministic' (their statements: YtobllhibicjbcaaDoorTotals.lean).
  GIVEN WITH THE SEED: the statements are not yours to turn. If you find one false, say at which input.
  Laid BY PROGRAM, IN A SANDBOX (cutbox-rows.mjs): the forced cells as the released guide's own fill.sh prints them over the translation 3e328584c0ee8868… (all of the seat's roots in one cut). By AI agents, Wed Nov 11 2026. No macro, syntax, notation, axiom, sorry.
-/
import Derived.Test.YtobllhibicjbcaaDoorChecked
import GoSem.Claim
import GoSem.ClaimJoined
import GoSem.ClaimMapViews
import Derived.JoinedTies
import Derived.KernelRfl
namespace Go.Proofs.YtobllhibicjbcaaDoor
/- THE CELL 'sum', in the pinned program and in every row, IS THE sha256 OF THE DUMP (.gsa) THAT YtobllhibicjbcaaDoorProg.lean LOADS. Nothing in Lean hashes anything: it is a label: what it is worth is what the hold of that sum in a sandbox is worth. -/
noncomputable def Tryd.pinned : Pinned := { name := "ytobllhibicjbcaadoor", sum := "3e328584c0ee8868ac204e2539edf7ebd03fe9a9e1a559bd7001b4697a290037", checked := Tryd.checked }
namespace Rows
def none {H : Type} : Left H := { results := [], args := [] }

/- WHAT THE LISTED PACKAGE-LEVEL VARIABLES READ AS WHEN THE CALL BEGINS. Each datum BY PROGRAM (the guide's laid-datum.mjs) off the statement by which the dump's own 'gosem.cut.vars' lays the variable. In a bare row this is a premise. The card (YtobllhibicjbcaaDoorCards.lean) ties it to the program's text. -/
def laid_ferryman_alu_effects {H : Type} : DataW H := .agg [.agg [.agg [.lit (.bool false), .lit (.bool false), .lit (.bool false), .lit (.bool false), .lit (.bool false), .lit (.bool false)], .agg [.lit (.bool false), .lit (.bool false), .lit (.bool false), .lit (.bool false), .lit (.bool false), .lit (.bool false)]], .agg [.agg [.lit (.bool true), .lit (.bool true), .lit (.bool true), .lit (.bool true), .lit (.bool true), .lit (.bool true)], .agg [.lit (.bool false), .lit (.bool false), .lit (.bool false), .lit (.bool false), .lit (.bool false), .lit (.bool false)]], .agg [.agg [.lit (.bool true), .lit (.bool true), .lit (.bool true), .lit (.bool true), .lit (.bool true), .lit (.bool true)], .agg [.lit (.bool true), .lit (.bool false), .lit (.bool false), .lit (.bool false), .lit (.bool false), .lit (.bool false)]], .agg [.agg [.lit (.bool false), .lit (.bool true), .lit (.bool true), .lit (.bool true), .lit (.bool true), .lit (.bool true)], .agg [.lit (.bool false), .lit (.bool false), .lit (.bool false), .lit (.bool false), .lit (.bool false), .lit (.bool false)]], .agg [.agg [.lit (.bool true), .lit (.bool true), .lit (.bool false), .lit (.bool true), .lit (.bool true), .lit (.bool true)], .agg [.lit (.bool true), .lit (.bool true), .lit (.bool false), .lit (.bool true), .lit (.bool true), .lit (.bool true)]], .agg [.agg [.lit (.bool true), .lit (.bool false), .lit (.bool false), .lit (.bool false), .lit (.bool false), .lit (.bool true)], .agg [.lit (.bool true), .lit (.bool false), .lit (.bool false), .lit (.bool false), .lit (.bool false), .lit (.bool true)]], .agg [.agg [.lit (.bool true), .lit (.bool false), .lit (.bool false), .lit (.bool false), .lit (.bool false), .lit (.bool true)], .agg [.lit (.bool false), .lit (.bool false), .lit (.bool false), .lit (.bool false), .lit (.bool false), .lit (.bool false)]], .agg [.agg [.lit (.bool false), .lit (.bool false), .lit (.bool false), .lit (.bool false), .lit (.bool false), .lit (.bool false)], .agg [.lit (.bool true), .lit (.bool true), .lit (.bool true), .lit (.bool true), .lit (.bool true), .lit (.bool true)]]]
def laid_ferryman_alu_order {H : Type} : DataW H := .agg [.agg [.lit (.bool true), .lit (.bool false), .lit (.bool false), .lit (.bool false), .lit (.bool false), .lit (.bool false)], .agg [.lit (.bool false), .lit (.bool true), .lit (.bool false), .lit (.bool false), .lit (.bool false), .lit (.bool false)], .agg [.lit (.bool false), .lit (.bool false), .lit (.bool true), .lit (.bool false), .lit (.bool false), .lit (.bool false)], .agg [.lit (.bool false), .lit (.bool false), .lit (.bool false), .lit (.bool true), .lit (.bool false), .lit (.bool false)], .agg [.lit (.bool false), .lit (.bool false), .lit (.bool false), .lit (.bool false), .lit (.bool true), .lit (.bool false)], .agg [.lit (.bool false), .lit (.bool false), .lit (.bool false), .lit (.bool false), .lit (.bool false), .lit (.bool true)]]
def laid_ferryman_insn_rows {H : Type} : DataW H := .agg [.agg [.lit (.int .i64 0), .lit (.int .i64 0), .lit (.bool false), .lit (.bool false), .lit (.bool false), .lit (.int .i64 0)], .agg [.lit (.int .i64 10), .lit (.int .i64 26), .lit (.bool false), .lit (.bool false), .lit (.bool false), .lit (.int .i64 0)], .agg [.lit (.int .i64 10), .lit (.int .i64 18), .lit (.bool false), .lit (.bool false), .lit (.bool false), .lit (.int .i64 0)], .agg [.lit (.int .i64 10), .lit (.int .i64 42), .lit (.bool false), .lit (.bool false), .lit (.bool false), .lit (.int .i64 0)], .agg [.lit (.int .i64 10), .lit (.int .i64 2), .lit (.bool false), .lit (.bool false), .lit (.bool false), .lit (.int .i64 0)], .agg [.lit (.int .i64 10), .lit (.int .i64 1), .lit (.bool false), .lit (.bool false), .lit (.bool false), .lit (.int .i64 0)], .agg [.lit (.int .i64 2), .lit (.int .i64 10), .lit (.bool false), .lit (.bool false), .lit (.bool false), .lit (.int .i64 0)], .agg [.lit (.int .i64 2), .lit (.int .i64 10), .lit (.bool true), .lit (.bool false), .lit (.bool false), .lit (.int .i64 0)], .agg [.lit (.int .i64 10), .lit (.int .i64 36), .lit (.bool false), .lit (.bool false), .lit (.bool false), .lit (.int .i64 0)], .agg [.lit (.int .i64 2), .lit (.int .i64 8), .lit (.bool false), .lit (.bool false), .lit (.bool false), .lit (.int .i64 2)], .agg [.lit (.int .i64 10), .lit (.int .i64 1), .lit (.bool true), .lit (.bool false), .lit (.bool false), .lit (.int .i64 0)], .agg [.lit (.int .i64 26), .lit (.int .i64 1), .lit (.bool false), .lit (.bool false), .lit (.bool false), .lit (.int .i64 1)], .agg [.lit (.int .i64 2), .lit (.int .i64 1), .lit (.bool false), .lit (.bool false), .lit (.bool false), .lit (.int .i64 1)], .agg [.lit (.int .i64 26), .lit (.int .i64 1), .lit (.bool false), .lit (.bool false), .lit (.bool true), .lit (.int .i64 1)], .agg [.lit (.int .i64 1), .lit (.int .i64 1), .lit (.bool false), .lit (.bool false), .lit (.bool true), .lit (.int .i64 1)], .agg [.lit (.int .i64 26), .lit (.int .i64 1), .lit (.bool false), .lit (.bool false), .lit (.bool true), .lit (.int .i64 0)], .agg [.lit (.int .i64 16), .lit (.int .i64 1), .lit (.bool true), .lit (.bool false), .lit (.bool true), .lit (.int .i64 0)], .agg [.lit (.int .i64 1), .lit (.int .i64 1), .lit (.bool false), .lit (.bool false), .lit (.bool false), .lit (.int .i64 0)], .agg [.lit (.int .i64 1), .lit (.int .i64 1), .lit (.bool false), .lit (.bool true), .lit (.bool false), .lit (.int .i64 1)], .agg [.lit (.int .i64 64), .lit (.int .i64 1), .lit (.bool false), .lit (.bool false), .lit (.bool true), .lit (.int .i64 0)], .agg [.lit (.int .i64 8), .lit (.int .i64 1), .lit (.bool false), .lit (.bool false), .lit (.bool false), .lit (.int .i64 1)]]

/-- 'ferrymanlaw9.InsnParts': WHATEVER THE INPUT: true; the input reads as it did. -/
def insnPartsSpec : ChangeSpec := { name := "insnParts", fn := fun _ => fun
  | [d1, d2] => { results := [.lit (.bool true)], args := [d1, d2] }
  | _ => none }
def insnPartsRow : OpenClaim := { program := "ytobllhibicjbcaadoor", sum := "3e328584c0ee8868ac204e2539edf7ebd03fe9a9e1a559bd7001b4697a290037", func := "ferryman/ferrymanlaw9.InsnParts", spec := "insnParts", named := ["ferryman/insn.rows", "ferryman/alu.effects", "ferryman/alu.order"], apart := false, laid := [("ferryman/alu.effects", laid_ferryman_alu_effects), ("ferryman/alu.order", laid_ferryman_alu_order), ("ferryman/insn.rows", laid_ferryman_insn_rows)] }
def InsnPartsSaid : Prop := insnPartsRow.holds Tryd.pinned (OpenSpec.ofChange insnPartsSpec)

/-- ITS FALSE NEIGHBOUR: 'it returns false'. Refute it at one input. -/
def insnPartsWrong : ChangeSpec := { name := "insnParts", fn := fun _ => fun
  | [d1, d2] => { results := [.lit (.bool false)], args := [d1, d2] }
  | _ => none }
def InsnPartsWrongFalsely : Prop := insnPartsRow.holds Tryd.pinned (OpenSpec.ofChange insnPartsWrong)

/-- 'ferrymanlaw9.InsnMemory': WHATEVER THE INPUT: true; the input reads as it did. -/
def insnMemorySpec : ChangeSpec := { name := "insnMemory", fn := fun _ => fun
  | [d] => { results := [.lit (.bool true)], args := [d] }
  | _ => none }
def insnMemoryRow : OpenClaim := { program := "ytobllhibicjbcaadoor", sum := "3e328584c0ee8868ac204e2539edf7ebd03fe9a9e1a559bd7001b4697a290037", func := "ferryman/ferrymanlaw9.InsnMemory", spec := "insnMemory", named := ["ferryman/insn.rows", "ferryman/alu.effects", "ferryman/alu.order"], apart := false, laid := [("ferryman/alu.effects", laid_ferryman_alu_effects), ("ferryman/alu.order", laid_ferryman_alu_order), ("ferryman/insn.rows", laid_ferryman_insn_rows)] }
def InsnMemorySaid : Prop := insnMemoryRow.holds Tryd.pinned (OpenSpec.ofChange insnMemorySpec)

/-- ITS FALSE NEIGHBOUR: 'it returns false'. Refute it at one input. -/
def insnMemoryWrong : ChangeSpec := { name := "insnMemory", fn := fun _ => fun
  | [d] => { results := [.lit (.bool false)], args := [d] }
  | _ => none }
def InsnMemoryWrongFalsely : Prop := insnMemoryRow.holds Tryd.pinned (OpenSpec.ofChange insnMemoryWrong)

/-- 'ferrymanlaw9.InsnShapes': WHATEVER THE INPUT: true; the input reads as it did. -/
def insnShapesSpec : ChangeSpec := { name := "insnShapes", fn := fun _ => fun
  | [d1, d2, d3] => { results := [.lit (.bool true)], args := [d1, d2, d3] }
  | _ => none }
def insnShapesRow : OpenClaim := { program := "ytobllhibicjbcaadoor", sum := "3e328584c0ee8868ac204e2539edf7ebd03fe9a9e1a559bd7001b4697a290037", func := "ferryman/ferrymanlaw9.InsnShapes", spec := "insnShapes", unfollowed := true, recurses := true, named := ["ferryman/insn.rows", "ferryman/alu.effects", "ferryman/alu.order"], apart := false, laid := [("ferryman/alu.effects", laid_ferryman_alu_effects), ("ferryman/alu.order", laid_ferryman_alu_order), ("ferryman/insn.rows", laid_ferryman_insn_rows)] }
def InsnShapesSaid : Prop := insnShapesRow.holds Tryd.pinned (OpenSpec.ofChange insnShapesSpec)

/-- ITS FALSE NEIGHBOUR: 'it returns false'. Refute it at one input. -/
def insnShapesWrong : ChangeSpec := { name := "insnShapes", fn := fun _ => fun
  | [d1, d2, d3] => { results := [.lit (.bool false)], args := [d1, d2, d3] }
  | _ => none }
def InsnShapesWrongFalsely : Prop := insnShapesRow.holds Tryd.pinned (OpenSpec.ofChange insnShapesWrong)

/-- 'ferrymanlaw9.InsnPlaces': WHATEVER THE INPUT: true; the input reads as it did. -/
def insnPlacesSpec : ChangeSpec := { name := "insnPlaces", fn := fun _ => fun
  | [d1, d2, d3, d4] => { results := [.lit (.bool true)], args := [d1, d2, d3, d4] }
  | _ => none }
def insnPlacesRow : OpenClaim := { program := "ytobllhibicjbcaadoor", sum := "3e328584c0ee8868ac204e2539edf7ebd03fe9a9e1a559bd7001b4697a290037", func := "ferryman/ferrymanlaw9.InsnPlaces", spec := "insnPlaces", named := ["ferryman/insn.rows", "ferryman/alu.effects", "ferryman/alu.order"], apart := false, laid := [("ferryman/alu.effects", laid_ferryman_alu_effects), ("ferryman/alu.order", laid_ferryman_alu_order), ("ferryman/insn.rows", laid_ferryman_insn_rows)] }
def InsnPlacesSaid : Prop := insnPlacesRow.holds Tryd.pinned (OpenSpec.ofChange insnPlacesSpec)

/-- ITS FALSE NEIGHBOUR: 'it returns false'. Refute it at one input. -/
def insnPlacesWrong : ChangeSpec := { name := "insnPlaces", fn := fun _ => fun
  | [d1, d2, d3, d4] => { results := [.lit (.bool false)], args := [d1, d2, d3, d4] }
  | _ => none }
def InsnPlacesWrongFalsely : Prop := insnPlacesRow.holds Tryd.pinned (OpenSpec.ofChange insnPlacesWrong)

/- THE SECOND FORM. 'bulk': how many values and letters a reading holds, each counted each time it is reached (what is shared counts as often as it is met; a slice's spare places count too). A statement '..UptoSaid' is the law's where the arguments, and the package variables that the reading takes, are together of bulk at most 1048576: NARROWER than '..Said'. Prove '..Said' where nothing that the law and all that it calls make is longer than what came in: it says more and counts as full. Else prove '..UptoSaid'. A law counts once. -/
mutual
def uptoBulk {H : Type} : DataW H → Nat
  | .lit (.string bytes) => bytes.length + 1
  | .lit _ => 1
  | .nil => 1
  | .ptr d => uptoBulk d + 1
  | .slice elems spare => uptoBulkAll elems + uptoBulkAll spare + 1
  | .agg parts => uptoBulkAll parts + 1
  | .iface _ d => uptoBulk d + 1
  | .map entries => uptoBulkEntries entries + 1
  | .held _ => 1
def uptoBulkAll {H : Type} : List (DataW H) → Nat
  | [] => 0
  | d :: r => uptoBulk d + uptoBulkAll r
def uptoBulkEntries {H : Type} : List (Lit × DataW H) → Nat
  | [] => 0
  | x :: r => uptoBulkEntry x + uptoBulkEntries r
def uptoBulkEntry {H : Type} : Lit × DataW H → Nat
  | (.string bytes, d) => bytes.length + uptoBulk d + 1
  | (_, d) => uptoBulk d + 1
 end
def uptoSmall : (H : Type) → List (DataW H) → Bool := fun _ ds => decide (uptoBulkAll ds ≤ 1048576)
def OpenSpec.upto (s : _root_.Go.ChangeSpec) : _root_.Go.OpenSpec := { _root_.Go.OpenSpec.ofChange s with cond := some uptoSmall }

/-- 'ferrymanlaw9.InsnParts', WHERE WHAT IT READS IS OF BULK AT MOST 1048576: true; the input reads as it did. -/
def insnPartsUptoRow : OpenClaim := { program := "ytobllhibicjbcaadoor", sum := "3e328584c0ee8868ac204e2539edf7ebd03fe9a9e1a559bd7001b4697a290037", func := "ferryman/ferrymanlaw9.InsnParts", spec := "insnParts", named := ["ferryman/insn.rows", "ferryman/alu.effects", "ferryman/alu.order"], apart := false, laid := [("ferryman/alu.effects", laid_ferryman_alu_effects), ("ferryman/alu.order", laid_ferryman_alu_order), ("ferryman/insn.rows", laid_ferryman_insn_rows)], narrowed := true }
def InsnPartsUptoSaid : Prop := insnPartsUptoRow.holds Tryd.pinned (OpenSpec.upto insnPartsSpec)

/-- 'ferrymanlaw9.InsnMemory', WHERE WHAT IT READS IS OF BULK AT MOST 1048576: true; the input reads as it did. -/
def insnMemoryUptoRow : OpenClaim := { program := "ytobllhibicjbcaadoor", sum := "3e328584c0ee8868ac204e2539edf7ebd03fe9a9e1a559bd7001b4697a290037", func := "ferryman/ferrymanlaw9.InsnMemory", spec := "insnMemory", named := ["ferryman/insn.rows", "ferryman/alu.effects", "ferryman/alu.order"], apart := false, laid := [("ferryman/alu.effects", laid_ferryman_alu_effects), ("ferryman/alu.order", laid_ferryman_alu_order), ("ferryman/insn.rows", laid_ferryman_insn_rows)], narrowed := true }
def InsnMemoryUptoSaid : Prop := insnMemoryUptoRow.holds Tryd.pinned (OpenSpec.upto insnMemorySpec)

/-- 'ferrymanlaw9.InsnShapes', WHERE WHAT IT READS IS OF BULK AT MOST 1048576: true; the input reads as it did. -/
def insnShapesUptoRow : OpenClaim := { program := "ytobllhibicjbcaadoor", sum := "3e328584c0ee8868ac204e2539edf7ebd03fe9a9e1a559bd7001b4697a290037", func := "ferryman/ferrymanlaw9.InsnShapes", spec := "insnShapes", unfollowed := true, recurses := true, named := ["ferryman/insn.rows", "ferryman/alu.effects", "ferryman/alu.order"], apart := false, laid := [("ferryman/alu.effects", laid_ferryman_alu_effects), ("ferryman/alu.order", laid_ferryman_alu_order), ("ferryman/insn.rows", laid_ferryman_insn_rows)], narrowed := true }
def InsnShapesUptoSaid : Prop := insnShapesUptoRow.holds Tryd.pinned (OpenSpec.upto insnShapesSpec)

/-- 'ferrymanlaw9.InsnPlaces', WHERE WHAT IT READS IS OF BULK AT MOST 1048576: true; the input reads as it did. -/
def insnPlacesUptoRow : OpenClaim := { program := "ytobllhibicjbcaadoor", sum := "3e328584c0ee8868ac204e2539edf7ebd03fe9a9e1a559bd7001b4697a290037", func := "ferryman/ferrymanlaw9.InsnPlaces", spec := "insnPlaces", named := ["ferryman/insn.rows", "ferryman/alu.effects", "ferryman/alu.order"], apart := false, laid := [("ferryman/alu.effects", laid_ferryman_alu_effects), ("ferryman/alu.order", laid_ferryman_alu_order), ("ferryman/insn.rows", laid_ferryman_insn_rows)], narrowed := true }
def InsnPlacesUptoSaid : Prop := insnPlacesUptoRow.holds Tryd.pinned (OpenSpec.upto insnPlacesSpec)

end Rows
end Go.Proofs.YtobllhibicjbcaaDoor
