/-
  NARROWER THAN 'FOR EVERY INPUT', by the rows' own cells (each row's printed sentence says how): StepDoes: laid · StepTells: laid · StepFaults: laid · StepStack: laid · StepRows: laid · StepNumbers: laid · StepLens: laid · StepMoves: laid · StepConds: laid · StepWide: laid · StepBoth: laid · StepFetches: laid.
  DERIVED. THE GIVEN ROWS OF THIS SEAT. 12 by the template 'for every input the law returns true; each argument reads behind the call as it read before'; 0 by the template 'total and deterministic' (their statements: YtcdoidnfdkodoaaGreatDoorTotals.lean).
  GIVEN WITH THE SEED: the statements are not yours to turn. If you find one false, say at which input.
  Laid BY PROGRAM, IN A SANDBOX (cutbox-rows.mjs): the forced cells as the released guide's own fill.sh prints them over the translation 7e1a654efded5b82… (all of the seat's roots in one cut). By AI agents, Wed Nov 11 2026. No macro, syntax, notation, axiom, sorry.
-/
import Derived.Test.YtcdoidnfdkodoaaGreatDoorChecked
import GoSem.Claim
import GoSem.ClaimJoined
import GoSem.ClaimMapViews
import Derived.JoinedTies
import Derived.KernelRfl
namespace Go.Proofs.YtcdoidnfdkodoaaGreatDoor
/- THE CELL 'sum', in the pinned program and in every row, IS THE sha256 OF THE DUMP (.gsa) THAT YtcdoidnfdkodoaaGreatDoorProg.lean LOADS. Nothing in Lean hashes anything: it is a label: what it is worth is what the hold of that sum in a sandbox is worth. -/
noncomputable def Tryz.pinned : Pinned := { name := "ytcdoidnfdkodoaagreatdoor", sum := "7e1a654efded5b82f815ba4602819baa35abfeb364e6ddff759ec3e436437e4a", checked := Tryz.checked }
namespace Rows
def none {H : Type} : Left H := { results := [], args := [] }

/- WHAT THE LISTED PACKAGE-LEVEL VARIABLES READ AS WHEN THE CALL BEGINS. Each datum BY PROGRAM (the guide's laid-datum.mjs) off the statement by which the dump's own 'gosem.cut.vars' lays the variable. In a bare row this is a premise. The card (YtcdoidnfdkodoaaGreatDoorCards.lean) ties it to the program's text. -/
def laid_ferryman_alu_effects {H : Type} : DataW H := .agg [.agg [.agg [.lit (.bool false), .lit (.bool false), .lit (.bool false), .lit (.bool false), .lit (.bool false), .lit (.bool false)], .agg [.lit (.bool false), .lit (.bool false), .lit (.bool false), .lit (.bool false), .lit (.bool false), .lit (.bool false)]], .agg [.agg [.lit (.bool true), .lit (.bool true), .lit (.bool true), .lit (.bool true), .lit (.bool true), .lit (.bool true)], .agg [.lit (.bool false), .lit (.bool false), .lit (.bool false), .lit (.bool false), .lit (.bool false), .lit (.bool false)]], .agg [.agg [.lit (.bool true), .lit (.bool true), .lit (.bool true), .lit (.bool true), .lit (.bool true), .lit (.bool true)], .agg [.lit (.bool true), .lit (.bool false), .lit (.bool false), .lit (.bool false), .lit (.bool false), .lit (.bool false)]], .agg [.agg [.lit (.bool false), .lit (.bool true), .lit (.bool true), .lit (.bool true), .lit (.bool true), .lit (.bool true)], .agg [.lit (.bool false), .lit (.bool false), .lit (.bool false), .lit (.bool false), .lit (.bool false), .lit (.bool false)]], .agg [.agg [.lit (.bool true), .lit (.bool true), .lit (.bool false), .lit (.bool true), .lit (.bool true), .lit (.bool true)], .agg [.lit (.bool true), .lit (.bool true), .lit (.bool false), .lit (.bool true), .lit (.bool true), .lit (.bool true)]], .agg [.agg [.lit (.bool true), .lit (.bool false), .lit (.bool false), .lit (.bool false), .lit (.bool false), .lit (.bool true)], .agg [.lit (.bool true), .lit (.bool false), .lit (.bool false), .lit (.bool false), .lit (.bool false), .lit (.bool true)]], .agg [.agg [.lit (.bool true), .lit (.bool false), .lit (.bool false), .lit (.bool false), .lit (.bool false), .lit (.bool true)], .agg [.lit (.bool false), .lit (.bool false), .lit (.bool false), .lit (.bool false), .lit (.bool false), .lit (.bool false)]], .agg [.agg [.lit (.bool false), .lit (.bool false), .lit (.bool false), .lit (.bool false), .lit (.bool false), .lit (.bool false)], .agg [.lit (.bool true), .lit (.bool true), .lit (.bool true), .lit (.bool true), .lit (.bool true), .lit (.bool true)]]]
def laid_ferryman_float_edges {H : Type} : DataW H := .agg [.lit (.int .u64 1), .lit (.int .u64 4503599627370496), .lit (.int .u64 9218868437227405312), .lit (.int .u64 9218868437227405313)]
def laid_ferryman_insn_rows {H : Type} : DataW H := .agg [.agg [.lit (.int .i64 0), .lit (.int .i64 0), .lit (.bool false), .lit (.bool false), .lit (.bool false), .lit (.int .i64 0)], .agg [.lit (.int .i64 10), .lit (.int .i64 26), .lit (.bool false), .lit (.bool false), .lit (.bool false), .lit (.int .i64 0)], .agg [.lit (.int .i64 10), .lit (.int .i64 18), .lit (.bool false), .lit (.bool false), .lit (.bool false), .lit (.int .i64 0)], .agg [.lit (.int .i64 10), .lit (.int .i64 42), .lit (.bool false), .lit (.bool false), .lit (.bool false), .lit (.int .i64 0)], .agg [.lit (.int .i64 10), .lit (.int .i64 2), .lit (.bool false), .lit (.bool false), .lit (.bool false), .lit (.int .i64 0)], .agg [.lit (.int .i64 10), .lit (.int .i64 1), .lit (.bool false), .lit (.bool false), .lit (.bool false), .lit (.int .i64 0)], .agg [.lit (.int .i64 2), .lit (.int .i64 10), .lit (.bool false), .lit (.bool false), .lit (.bool false), .lit (.int .i64 0)], .agg [.lit (.int .i64 2), .lit (.int .i64 10), .lit (.bool true), .lit (.bool false), .lit (.bool false), .lit (.int .i64 0)], .agg [.lit (.int .i64 10), .lit (.int .i64 36), .lit (.bool false), .lit (.bool false), .lit (.bool false), .lit (.int .i64 0)], .agg [.lit (.int .i64 2), .lit (.int .i64 8), .lit (.bool false), .lit (.bool false), .lit (.bool false), .lit (.int .i64 2)], .agg [.lit (.int .i64 10), .lit (.int .i64 1), .lit (.bool true), .lit (.bool false), .lit (.bool false), .lit (.int .i64 0)], .agg [.lit (.int .i64 26), .lit (.int .i64 1), .lit (.bool false), .lit (.bool false), .lit (.bool false), .lit (.int .i64 1)], .agg [.lit (.int .i64 2), .lit (.int .i64 1), .lit (.bool false), .lit (.bool false), .lit (.bool false), .lit (.int .i64 1)], .agg [.lit (.int .i64 26), .lit (.int .i64 1), .lit (.bool false), .lit (.bool false), .lit (.bool true), .lit (.int .i64 1)], .agg [.lit (.int .i64 1), .lit (.int .i64 1), .lit (.bool false), .lit (.bool false), .lit (.bool true), .lit (.int .i64 1)], .agg [.lit (.int .i64 26), .lit (.int .i64 1), .lit (.bool false), .lit (.bool false), .lit (.bool true), .lit (.int .i64 0)], .agg [.lit (.int .i64 16), .lit (.int .i64 1), .lit (.bool true), .lit (.bool false), .lit (.bool true), .lit (.int .i64 0)], .agg [.lit (.int .i64 1), .lit (.int .i64 1), .lit (.bool false), .lit (.bool false), .lit (.bool false), .lit (.int .i64 0)], .agg [.lit (.int .i64 1), .lit (.int .i64 1), .lit (.bool false), .lit (.bool true), .lit (.bool false), .lit (.int .i64 1)], .agg [.lit (.int .i64 64), .lit (.int .i64 1), .lit (.bool false), .lit (.bool false), .lit (.bool true), .lit (.int .i64 0)], .agg [.lit (.int .i64 8), .lit (.int .i64 1), .lit (.bool false), .lit (.bool false), .lit (.bool false), .lit (.int .i64 1)]]
def laid_ferryman_decode_groups {H : Type} : DataW H := .agg [.agg [.lit (.int .i64 3), .lit (.int .i64 4), .lit (.int .i64 5), .lit (.int .i64 6), .lit (.int .i64 7), .lit (.int .i64 8), .lit (.int .i64 9), .lit (.int .i64 10)], .agg [.lit (.int .i64 21), .lit (.int .i64 22), .lit (.int .i64 0), .lit (.int .i64 0), .lit (.int .i64 23), .lit (.int .i64 24), .lit (.int .i64 0), .lit (.int .i64 25)], .agg [.lit (.int .i64 11), .lit (.int .i64 0), .lit (.int .i64 0), .lit (.int .i64 0), .lit (.int .i64 0), .lit (.int .i64 0), .lit (.int .i64 0), .lit (.int .i64 0)], .agg [.lit (.int .i64 0), .lit (.int .i64 0), .lit (.int .i64 14), .lit (.int .i64 15), .lit (.int .i64 16), .lit (.int .i64 17), .lit (.int .i64 19), .lit (.int .i64 20)], .agg [.lit (.int .i64 12), .lit (.int .i64 13), .lit (.int .i64 30), .lit (.int .i64 0), .lit (.int .i64 32), .lit (.int .i64 0), .lit (.int .i64 28), .lit (.int .i64 (-1))], .agg [.lit (.int .i64 1), .lit (.int .i64 (-1)), .lit (.int .i64 (-1)), .lit (.int .i64 (-1)), .lit (.int .i64 (-1)), .lit (.int .i64 (-1)), .lit (.int .i64 (-1)), .lit (.int .i64 (-1))], .agg [.lit (.int .i64 2), .lit (.int .i64 (-1)), .lit (.int .i64 (-1)), .lit (.int .i64 (-1)), .lit (.int .i64 (-1)), .lit (.int .i64 (-1)), .lit (.int .i64 (-1)), .lit (.int .i64 (-1))], .agg [.lit (.int .i64 34), .lit (.int .i64 0), .lit (.int .i64 0), .lit (.int .i64 0), .lit (.int .i64 0), .lit (.int .i64 0), .lit (.int .i64 0), .lit (.int .i64 0)], .agg [.lit (.int .i64 47), .lit (.int .i64 48), .lit (.int .i64 53), .lit (.int .i64 0), .lit (.int .i64 49), .lit (.int .i64 0), .lit (.int .i64 50), .lit (.int .i64 0)], .agg [.lit (.int .i64 45), .lit (.int .i64 0), .lit (.int .i64 0), .lit (.int .i64 46), .lit (.int .i64 0), .lit (.int .i64 0), .lit (.int .i64 0), .lit (.int .i64 0)]]
def laid_ferryman_decode_single {H : Type} : DataW H := .slice [.agg [.lit (.int .u32 65479), .lit (.int .u32 1), .lit (.int .i64 54), .lit (.int .i64 6), .lit (.int .i64 5)], .agg [.lit (.int .u32 65479), .lit (.int .u32 3), .lit (.int .i64 54), .lit (.int .i64 5), .lit (.int .i64 6)], .agg [.lit (.int .u32 65479), .lit (.int .u32 5), .lit (.int .i64 54), .lit (.int .i64 1), .lit (.int .i64 9)], .agg [.lit (.int .u32 65528), .lit (.int .u32 64), .lit (.int .i64 12), .lit (.int .i64 4), .lit (.int .i64 0)], .agg [.lit (.int .u32 65528), .lit (.int .u32 72), .lit (.int .i64 13), .lit (.int .i64 4), .lit (.int .i64 0)], .agg [.lit (.int .u32 65528), .lit (.int .u32 80), .lit (.int .i64 28), .lit (.int .i64 4), .lit (.int .i64 0)], .agg [.lit (.int .u32 65528), .lit (.int .u32 88), .lit (.int .i64 29), .lit (.int .i64 4), .lit (.int .i64 0)], .agg [.lit (.int .u32 65535), .lit (.int .u32 104), .lit (.int .i64 28), .lit (.int .i64 9), .lit (.int .i64 0)], .agg [.lit (.int .u32 65535), .lit (.int .u32 106), .lit (.int .i64 28), .lit (.int .i64 8), .lit (.int .i64 0)], .agg [.lit (.int .u32 65520), .lit (.int .u32 112), .lit (.int .i64 33), .lit (.int .i64 8), .lit (.int .i64 0)], .agg [.lit (.int .u32 65535), .lit (.int .u32 129), .lit (.int .i64 54), .lit (.int .i64 6), .lit (.int .i64 9)], .agg [.lit (.int .u32 65535), .lit (.int .u32 131), .lit (.int .i64 54), .lit (.int .i64 6), .lit (.int .i64 8)], .agg [.lit (.int .u32 65535), .lit (.int .u32 133), .lit (.int .i64 11), .lit (.int .i64 6), .lit (.int .i64 5)], .agg [.lit (.int .u32 65535), .lit (.int .u32 135), .lit (.int .i64 27), .lit (.int .i64 6), .lit (.int .i64 5)], .agg [.lit (.int .u32 65535), .lit (.int .u32 136), .lit (.int .i64 2), .lit (.int .i64 6), .lit (.int .i64 5)], .agg [.lit (.int .u32 65535), .lit (.int .u32 137), .lit (.int .i64 1), .lit (.int .i64 6), .lit (.int .i64 5)], .agg [.lit (.int .u32 65535), .lit (.int .u32 138), .lit (.int .i64 2), .lit (.int .i64 5), .lit (.int .i64 6)], .agg [.lit (.int .u32 65535), .lit (.int .u32 139), .lit (.int .i64 1), .lit (.int .i64 5), .lit (.int .i64 6)], .agg [.lit (.int .u32 65535), .lit (.int .u32 141), .lit (.int .i64 26), .lit (.int .i64 5), .lit (.int .i64 6)], .agg [.lit (.int .u32 65535), .lit (.int .u32 141), .lit (.int .i64 (-1)), .lit (.int .i64 0), .lit (.int .i64 0)], .agg [.lit (.int .u32 65535), .lit (.int .u32 144), .lit (.int .i64 44), .lit (.int .i64 0), .lit (.int .i64 0)], .agg [.lit (.int .u32 65535), .lit (.int .u32 153), .lit (.int .i64 38), .lit (.int .i64 0), .lit (.int .i64 0)], .agg [.lit (.int .u32 65535), .lit (.int .u32 165), .lit (.int .i64 41), .lit (.int .i64 0), .lit (.int .i64 0)], .agg [.lit (.int .u32 65535), .lit (.int .u32 169), .lit (.int .i64 11), .lit (.int .i64 1), .lit (.int .i64 9)], .agg [.lit (.int .u32 65535), .lit (.int .u32 171), .lit (.int .i64 42), .lit (.int .i64 0), .lit (.int .i64 0)], .agg [.lit (.int .u32 65528), .lit (.int .u32 176), .lit (.int .i64 2), .lit (.int .i64 4), .lit (.int .i64 7)], .agg [.lit (.int .u32 65528), .lit (.int .u32 184), .lit (.int .i64 1), .lit (.int .i64 4), .lit (.int .i64 9)], .agg [.lit (.int .u32 65535), .lit (.int .u32 193), .lit (.int .i64 55), .lit (.int .i64 6), .lit (.int .i64 7)], .agg [.lit (.int .u32 65535), .lit (.int .u32 195), .lit (.int .i64 31), .lit (.int .i64 0), .lit (.int .i64 0)], .agg [.lit (.int .u32 65535), .lit (.int .u32 198), .lit (.int .i64 60), .lit (.int .i64 6), .lit (.int .i64 7)], .agg [.lit (.int .u32 65535), .lit (.int .u32 199), .lit (.int .i64 59), .lit (.int .i64 6), .lit (.int .i64 9)], .agg [.lit (.int .u32 65535), .lit (.int .u32 205), .lit (.int .i64 43), .lit (.int .i64 7), .lit (.int .i64 0)], .agg [.lit (.int .u32 65535), .lit (.int .u32 209), .lit (.int .i64 55), .lit (.int .i64 6), .lit (.int .i64 3)], .agg [.lit (.int .u32 65535), .lit (.int .u32 211), .lit (.int .i64 55), .lit (.int .i64 6), .lit (.int .i64 2)], .agg [.lit (.int .u32 65535), .lit (.int .u32 220), .lit (.int .i64 62), .lit (.int .i64 6), .lit (.int .i64 0)], .agg [.lit (.int .u32 65535), .lit (.int .u32 221), .lit (.int .i64 63), .lit (.int .i64 6), .lit (.int .i64 0)], .agg [.lit (.int .u32 65535), .lit (.int .u32 232), .lit (.int .i64 30), .lit (.int .i64 9), .lit (.int .i64 0)], .agg [.lit (.int .u32 65535), .lit (.int .u32 233), .lit (.int .i64 32), .lit (.int .i64 9), .lit (.int .i64 0)], .agg [.lit (.int .u32 65535), .lit (.int .u32 235), .lit (.int .i64 32), .lit (.int .i64 8), .lit (.int .i64 0)], .agg [.lit (.int .u32 65535), .lit (.int .u32 247), .lit (.int .i64 56), .lit (.int .i64 6), .lit (.int .i64 9)], .agg [.lit (.int .u32 65535), .lit (.int .u32 247), .lit (.int .i64 57), .lit (.int .i64 6), .lit (.int .i64 0)], .agg [.lit (.int .u32 65535), .lit (.int .u32 252), .lit (.int .i64 39), .lit (.int .i64 0), .lit (.int .i64 0)], .agg [.lit (.int .u32 65535), .lit (.int .u32 253), .lit (.int .i64 40), .lit (.int .i64 0), .lit (.int .i64 0)], .agg [.lit (.int .u32 65535), .lit (.int .u32 255), .lit (.int .i64 58), .lit (.int .i64 6), .lit (.int .i64 0)]] []
def laid_ferryman_decode_double {H : Type} : DataW H := .slice [.agg [.lit (.int .u32 65535), .lit (.int .u32 3851), .lit (.int .i64 (-1)), .lit (.int .i64 0), .lit (.int .i64 0)], .agg [.lit (.int .u32 65520), .lit (.int .u32 3904), .lit (.int .i64 35), .lit (.int .i64 5), .lit (.int .i64 6)], .agg [.lit (.int .u32 65520), .lit (.int .u32 3968), .lit (.int .i64 33), .lit (.int .i64 9), .lit (.int .i64 0)], .agg [.lit (.int .u32 65520), .lit (.int .u32 3984), .lit (.int .i64 61), .lit (.int .i64 6), .lit (.int .i64 0)], .agg [.lit (.int .u32 65535), .lit (.int .u32 4015), .lit (.int .i64 18), .lit (.int .i64 5), .lit (.int .i64 6)], .agg [.lit (.int .u32 65535), .lit (.int .u32 4022), .lit (.int .i64 36), .lit (.int .i64 5), .lit (.int .i64 6)], .agg [.lit (.int .u32 65535), .lit (.int .u32 4030), .lit (.int .i64 37), .lit (.int .i64 5), .lit (.int .i64 6)], .agg [.lit (.int .u32 65535), .lit (.int .u32 55776), .lit (.int .i64 51), .lit (.int .i64 0), .lit (.int .i64 0)], .agg [.lit (.int .u32 65535), .lit (.int .u32 55777), .lit (.int .i64 52), .lit (.int .i64 0), .lit (.int .i64 0)], .agg [.lit (.int .u32 65535), .lit (.int .u32 62373), .lit (.int .i64 41), .lit (.int .i64 0), .lit (.int .i64 0)], .agg [.lit (.int .u32 65535), .lit (.int .u32 62379), .lit (.int .i64 42), .lit (.int .i64 0), .lit (.int .i64 0)]] []

/-- 'ferrymanlaw13.StepDoes': WHATEVER THE INPUT: true; the input reads as it did. -/
def stepDoesSpec : ChangeSpec := { name := "stepDoes", fn := fun _ => fun
  | [d1, d2, d3] => { results := [.lit (.bool true)], args := [d1, d2, d3] }
  | _ => none }
def stepDoesRow : OpenClaim := { program := "ytcdoidnfdkodoaagreatdoor", sum := "7e1a654efded5b82f815ba4602819baa35abfeb364e6ddff759ec3e436437e4a", func := "ferryman/ferrymanlaw13.StepDoes", spec := "stepDoes", inPlace := ["math.Float64frombits", "math.Float64bits"], unfollowed := true, recurses := true, named := ["ferryman/decode.single", "ferryman/decode.double", "ferryman/decode.groups", "ferryman/insn.rows", "ferryman/alu.effects", "ferryman/float.edges"], apart := false, laid := [("ferryman/alu.effects", laid_ferryman_alu_effects), ("ferryman/float.edges", laid_ferryman_float_edges), ("ferryman/insn.rows", laid_ferryman_insn_rows), ("ferryman/decode.groups", laid_ferryman_decode_groups), ("ferryman/decode.single", laid_ferryman_decode_single), ("ferryman/decode.double", laid_ferryman_decode_double)] }
def StepDoesSaid : Prop := stepDoesRow.holds Tryz.pinned (OpenSpec.ofChange stepDoesSpec)

/-- ITS FALSE NEIGHBOUR: 'it returns false'. Refute it at one input. -/
def stepDoesWrong : ChangeSpec := { name := "stepDoes", fn := fun _ => fun
  | [d1, d2, d3] => { results := [.lit (.bool false)], args := [d1, d2, d3] }
  | _ => none }
def StepDoesWrongFalsely : Prop := stepDoesRow.holds Tryz.pinned (OpenSpec.ofChange stepDoesWrong)

/-- 'ferrymanlaw13.StepTells': WHATEVER THE INPUT: true; the input reads as it did. -/
def stepTellsSpec : ChangeSpec := { name := "stepTells", fn := fun _ => fun
  | [d1, d2] => { results := [.lit (.bool true)], args := [d1, d2] }
  | _ => none }
def stepTellsRow : OpenClaim := { program := "ytcdoidnfdkodoaagreatdoor", sum := "7e1a654efded5b82f815ba4602819baa35abfeb364e6ddff759ec3e436437e4a", func := "ferryman/ferrymanlaw13.StepTells", spec := "stepTells", inPlace := ["math.Float64frombits", "math.Float64bits"], unfollowed := true, recurses := true, named := ["ferryman/decode.single", "ferryman/decode.double", "ferryman/decode.groups", "ferryman/insn.rows", "ferryman/alu.effects", "ferryman/float.edges"], apart := false, laid := [("ferryman/alu.effects", laid_ferryman_alu_effects), ("ferryman/float.edges", laid_ferryman_float_edges), ("ferryman/insn.rows", laid_ferryman_insn_rows), ("ferryman/decode.groups", laid_ferryman_decode_groups), ("ferryman/decode.single", laid_ferryman_decode_single), ("ferryman/decode.double", laid_ferryman_decode_double)] }
def StepTellsSaid : Prop := stepTellsRow.holds Tryz.pinned (OpenSpec.ofChange stepTellsSpec)

/-- ITS FALSE NEIGHBOUR: 'it returns false'. Refute it at one input. -/
def stepTellsWrong : ChangeSpec := { name := "stepTells", fn := fun _ => fun
  | [d1, d2] => { results := [.lit (.bool false)], args := [d1, d2] }
  | _ => none }
def StepTellsWrongFalsely : Prop := stepTellsRow.holds Tryz.pinned (OpenSpec.ofChange stepTellsWrong)

/-- 'ferrymanlaw13.StepFaults': WHATEVER THE INPUT: true; the input reads as it did. -/
def stepFaultsSpec : ChangeSpec := { name := "stepFaults", fn := fun _ => fun
  | [d1, d2] => { results := [.lit (.bool true)], args := [d1, d2] }
  | _ => none }
def stepFaultsRow : OpenClaim := { program := "ytcdoidnfdkodoaagreatdoor", sum := "7e1a654efded5b82f815ba4602819baa35abfeb364e6ddff759ec3e436437e4a", func := "ferryman/ferrymanlaw13.StepFaults", spec := "stepFaults", inPlace := ["math.Float64frombits", "math.Float64bits"], unfollowed := true, recurses := true, named := ["ferryman/decode.single", "ferryman/decode.double", "ferryman/decode.groups", "ferryman/insn.rows", "ferryman/alu.effects", "ferryman/float.edges"], apart := false, laid := [("ferryman/alu.effects", laid_ferryman_alu_effects), ("ferryman/float.edges", laid_ferryman_float_edges), ("ferryman/insn.rows", laid_ferryman_insn_rows), ("ferryman/decode.groups", laid_ferryman_decode_groups), ("ferryman/decode.single", laid_ferryman_decode_single), ("ferryman/decode.double", laid_ferryman_decode_double)] }
def StepFaultsSaid : Prop := stepFaultsRow.holds Tryz.pinned (OpenSpec.ofChange stepFaultsSpec)

/-- ITS FALSE NEIGHBOUR: 'it returns false'. Refute it at one input. -/
def stepFaultsWrong : ChangeSpec := { name := "stepFaults", fn := fun _ => fun
  | [d1, d2] => { results := [.lit (.bool false)], args := [d1, d2] }
  | _ => none }
def StepFaultsWrongFalsely : Prop := stepFaultsRow.holds Tryz.pinned (OpenSpec.ofChange stepFaultsWrong)

/-- 'ferrymanlaw13.StepStack': WHATEVER THE INPUT: true; the input reads as it did. -/
def stepStackSpec : ChangeSpec := { name := "stepStack", fn := fun _ => fun
  | [d1, d2, d3] => { results := [.lit (.bool true)], args := [d1, d2, d3] }
  | _ => none }
def stepStackRow : OpenClaim := { program := "ytcdoidnfdkodoaagreatdoor", sum := "7e1a654efded5b82f815ba4602819baa35abfeb364e6ddff759ec3e436437e4a", func := "ferryman/ferrymanlaw13.StepStack", spec := "stepStack", inPlace := ["math.Float64frombits", "math.Float64bits"], unfollowed := true, recurses := true, named := ["ferryman/decode.single", "ferryman/decode.double", "ferryman/decode.groups", "ferryman/insn.rows", "ferryman/alu.effects", "ferryman/float.edges"], apart := false, laid := [("ferryman/alu.effects", laid_ferryman_alu_effects), ("ferryman/float.edges", laid_ferryman_float_edges), ("ferryman/insn.rows", laid_ferryman_insn_rows), ("ferryman/decode.groups", laid_ferryman_decode_groups), ("ferryman/decode.single", laid_ferryman_decode_single), ("ferryman/decode.double", laid_ferryman_decode_double)] }
def StepStackSaid : Prop := stepStackRow.holds Tryz.pinned (OpenSpec.ofChange stepStackSpec)

/-- ITS FALSE NEIGHBOUR: 'it returns false'. Refute it at one input. -/
def stepStackWrong : ChangeSpec := { name := "stepStack", fn := fun _ => fun
  | [d1, d2, d3] => { results := [.lit (.bool false)], args := [d1, d2, d3] }
  | _ => none }
def StepStackWrongFalsely : Prop := stepStackRow.holds Tryz.pinned (OpenSpec.ofChange stepStackWrong)

/-- 'ferrymanlaw13.StepRows': WHATEVER THE INPUT: true; the input reads as it did. -/
def stepRowsSpec : ChangeSpec := { name := "stepRows", fn := fun _ => fun
  | [d1, d2, d3, d4] => { results := [.lit (.bool true)], args := [d1, d2, d3, d4] }
  | _ => none }
def stepRowsRow : OpenClaim := { program := "ytcdoidnfdkodoaagreatdoor", sum := "7e1a654efded5b82f815ba4602819baa35abfeb364e6ddff759ec3e436437e4a", func := "ferryman/ferrymanlaw13.StepRows", spec := "stepRows", inPlace := ["math.Float64frombits", "math.Float64bits"], unfollowed := true, recurses := true, named := ["ferryman/decode.single", "ferryman/decode.double", "ferryman/decode.groups", "ferryman/insn.rows", "ferryman/alu.effects", "ferryman/float.edges"], apart := false, laid := [("ferryman/alu.effects", laid_ferryman_alu_effects), ("ferryman/float.edges", laid_ferryman_float_edges), ("ferryman/insn.rows", laid_ferryman_insn_rows), ("ferryman/decode.groups", laid_ferryman_decode_groups), ("ferryman/decode.single", laid_ferryman_decode_single), ("ferryman/decode.double", laid_ferryman_decode_double)] }
def StepRowsSaid : Prop := stepRowsRow.holds Tryz.pinned (OpenSpec.ofChange stepRowsSpec)

/-- ITS FALSE NEIGHBOUR: 'it returns false'. Refute it at one input. -/
def stepRowsWrong : ChangeSpec := { name := "stepRows", fn := fun _ => fun
  | [d1, d2, d3, d4] => { results := [.lit (.bool false)], args := [d1, d2, d3, d4] }
  | _ => none }
def StepRowsWrongFalsely : Prop := stepRowsRow.holds Tryz.pinned (OpenSpec.ofChange stepRowsWrong)

/-- 'ferrymanlaw13.StepNumbers': WHATEVER THE INPUT: true; the input reads as it did. -/
def stepNumbersSpec : ChangeSpec := { name := "stepNumbers", fn := fun _ => fun
  | [d1, d2, d3] => { results := [.lit (.bool true)], args := [d1, d2, d3] }
  | _ => none }
def stepNumbersRow : OpenClaim := { program := "ytcdoidnfdkodoaagreatdoor", sum := "7e1a654efded5b82f815ba4602819baa35abfeb364e6ddff759ec3e436437e4a", func := "ferryman/ferrymanlaw13.StepNumbers", spec := "stepNumbers", inPlace := ["math.Float64frombits", "math.Float64bits"], unfollowed := true, recurses := true, named := ["ferryman/decode.single", "ferryman/decode.double", "ferryman/decode.groups", "ferryman/insn.rows", "ferryman/alu.effects", "ferryman/float.edges"], apart := false, laid := [("ferryman/alu.effects", laid_ferryman_alu_effects), ("ferryman/float.edges", laid_ferryman_float_edges), ("ferryman/insn.rows", laid_ferryman_insn_rows), ("ferryman/decode.groups", laid_ferryman_decode_groups), ("ferryman/decode.single", laid_ferryman_decode_single), ("ferryman/decode.double", laid_ferryman_decode_double)] }
def StepNumbersSaid : Prop := stepNumbersRow.holds Tryz.pinned (OpenSpec.ofChange stepNumbersSpec)

/-- ITS FALSE NEIGHBOUR: 'it returns false'. Refute it at one input. -/
def stepNumbersWrong : ChangeSpec := { name := "stepNumbers", fn := fun _ => fun
  | [d1, d2, d3] => { results := [.lit (.bool false)], args := [d1, d2, d3] }
  | _ => none }
def StepNumbersWrongFalsely : Prop := stepNumbersRow.holds Tryz.pinned (OpenSpec.ofChange stepNumbersWrong)

/-- 'ferrymanlaw13.StepLens': WHATEVER THE INPUT: true; the input reads as it did. -/
def stepLensSpec : ChangeSpec := { name := "stepLens", fn := fun _ => fun
  | [d1, d2] => { results := [.lit (.bool true)], args := [d1, d2] }
  | _ => none }
def stepLensRow : OpenClaim := { program := "ytcdoidnfdkodoaagreatdoor", sum := "7e1a654efded5b82f815ba4602819baa35abfeb364e6ddff759ec3e436437e4a", func := "ferryman/ferrymanlaw13.StepLens", spec := "stepLens", inPlace := ["math.Float64frombits", "math.Float64bits"], unfollowed := true, recurses := true, named := ["ferryman/decode.single", "ferryman/decode.double", "ferryman/decode.groups", "ferryman/insn.rows", "ferryman/alu.effects", "ferryman/float.edges"], apart := false, laid := [("ferryman/alu.effects", laid_ferryman_alu_effects), ("ferryman/float.edges", laid_ferryman_float_edges), ("ferryman/insn.rows", laid_ferryman_insn_rows), ("ferryman/decode.groups", laid_ferryman_decode_groups), ("ferryman/decode.single", laid_ferryman_decode_single), ("ferryman/decode.double", laid_ferryman_decode_double)] }
def StepLensSaid : Prop := stepLensRow.holds Tryz.pinned (OpenSpec.ofChange stepLensSpec)

/-- ITS FALSE NEIGHBOUR: 'it returns false'. Refute it at one input. -/
def stepLensWrong : ChangeSpec := { name := "stepLens", fn := fun _ => fun
  | [d1, d2] => { results := [.lit (.bool false)], args := [d1, d2] }
  | _ => none }
def StepLensWrongFalsely : Prop := stepLensRow.holds Tryz.pinned (OpenSpec.ofChange stepLensWrong)

/-- 'ferrymanlaw13.StepMoves': WHATEVER THE INPUT: true; the input reads as it did. -/
def stepMovesSpec : ChangeSpec := { name := "stepMoves", fn := fun _ => fun
  | [d1, d2, d3, d4] => { results := [.lit (.bool true)], args := [d1, d2, d3, d4] }
  | _ => none }
def stepMovesRow : OpenClaim := { program := "ytcdoidnfdkodoaagreatdoor", sum := "7e1a654efded5b82f815ba4602819baa35abfeb364e6ddff759ec3e436437e4a", func := "ferryman/ferrymanlaw13.StepMoves", spec := "stepMoves", inPlace := ["math.Float64frombits", "math.Float64bits"], unfollowed := true, recurses := true, named := ["ferryman/decode.single", "ferryman/decode.double", "ferryman/decode.groups", "ferryman/insn.rows", "ferryman/alu.effects", "ferryman/float.edges"], apart := false, laid := [("ferryman/alu.effects", laid_ferryman_alu_effects), ("ferryman/float.edges", laid_ferryman_float_edges), ("ferryman/insn.rows", laid_ferryman_insn_rows), ("ferryman/decode.groups", laid_ferryman_decode_groups), ("ferryman/decode.single", laid_ferryman_decode_single), ("ferryman/decode.double", laid_ferryman_decode_double)] }
def StepMovesSaid : Prop := stepMovesRow.holds Tryz.pinned (OpenSpec.ofChange stepMovesSpec)

/-- ITS FALSE NEIGHBOUR: 'it returns false'. Refute it at one input. -/
def stepMovesWrong : ChangeSpec := { name := "stepMoves", fn := fun _ => fun
  | [d1, d2, d3, d4] => { results := [.lit (.bool false)], args := [d1, d2, d3, d4] }
  | _ => none }
def StepMovesWrongFalsely : Prop := stepMovesRow.holds Tryz.pinned (OpenSpec.ofChange stepMovesWrong)

/-- 'ferrymanlaw13.StepConds': WHATEVER THE INPUT: true; the input reads as it did. -/
def stepCondsSpec : ChangeSpec := { name := "stepConds", fn := fun _ => fun
  | [d1, d2, d3, d4] => { results := [.lit (.bool true)], args := [d1, d2, d3, d4] }
  | _ => none }
def stepCondsRow : OpenClaim := { program := "ytcdoidnfdkodoaagreatdoor", sum := "7e1a654efded5b82f815ba4602819baa35abfeb364e6ddff759ec3e436437e4a", func := "ferryman/ferrymanlaw13.StepConds", spec := "stepConds", inPlace := ["math.Float64frombits", "math.Float64bits"], unfollowed := true, recurses := true, named := ["ferryman/decode.single", "ferryman/decode.double", "ferryman/decode.groups", "ferryman/insn.rows", "ferryman/alu.effects", "ferryman/float.edges"], apart := false, laid := [("ferryman/alu.effects", laid_ferryman_alu_effects), ("ferryman/float.edges", laid_ferryman_float_edges), ("ferryman/insn.rows", laid_ferryman_insn_rows), ("ferryman/decode.groups", laid_ferryman_decode_groups), ("ferryman/decode.single", laid_ferryman_decode_single), ("ferryman/decode.double", laid_ferryman_decode_double)] }
def StepCondsSaid : Prop := stepCondsRow.holds Tryz.pinned (OpenSpec.ofChange stepCondsSpec)

/-- ITS FALSE NEIGHBOUR: 'it returns false'. Refute it at one input. -/
def stepCondsWrong : ChangeSpec := { name := "stepConds", fn := fun _ => fun
  | [d1, d2, d3, d4] => { results := [.lit (.bool false)], args := [d1, d2, d3, d4] }
  | _ => none }
def StepCondsWrongFalsely : Prop := stepCondsRow.holds Tryz.pinned (OpenSpec.ofChange stepCondsWrong)

/-- 'ferrymanlaw13.StepWide': WHATEVER THE INPUT: true; the input reads as it did. -/
def stepWideSpec : ChangeSpec := { name := "stepWide", fn := fun _ => fun
  | [d1, d2, d3, d4] => { results := [.lit (.bool true)], args := [d1, d2, d3, d4] }
  | _ => none }
def stepWideRow : OpenClaim := { program := "ytcdoidnfdkodoaagreatdoor", sum := "7e1a654efded5b82f815ba4602819baa35abfeb364e6ddff759ec3e436437e4a", func := "ferryman/ferrymanlaw13.StepWide", spec := "stepWide", inPlace := ["math.Float64frombits", "math.Float64bits"], unfollowed := true, recurses := true, named := ["ferryman/decode.single", "ferryman/decode.double", "ferryman/decode.groups", "ferryman/insn.rows", "ferryman/alu.effects", "ferryman/float.edges"], apart := false, laid := [("ferryman/alu.effects", laid_ferryman_alu_effects), ("ferryman/float.edges", laid_ferryman_float_edges), ("ferryman/insn.rows", laid_ferryman_insn_rows), ("ferryman/decode.groups", laid_ferryman_decode_groups), ("ferryman/decode.single", laid_ferryman_decode_single), ("ferryman/decode.double", laid_ferryman_decode_double)] }
def StepWideSaid : Prop := stepWideRow.holds Tryz.pinned (OpenSpec.ofChange stepWideSpec)

/-- ITS FALSE NEIGHBOUR: 'it returns false'. Refute it at one input. -/
def stepWideWrong : ChangeSpec := { name := "stepWide", fn := fun _ => fun
  | [d1, d2, d3, d4] => { results := [.lit (.bool false)], args := [d1, d2, d3, d4] }
  | _ => none }
def StepWideWrongFalsely : Prop := stepWideRow.holds Tryz.pinned (OpenSpec.ofChange stepWideWrong)

/-- 'ferrymanlaw13.StepBoth': WHATEVER THE INPUT: true; the input reads as it did. -/
def stepBothSpec : ChangeSpec := { name := "stepBoth", fn := fun _ => fun
  | [d1, d2, d3, d4] => { results := [.lit (.bool true)], args := [d1, d2, d3, d4] }
  | _ => none }
def stepBothRow : OpenClaim := { program := "ytcdoidnfdkodoaagreatdoor", sum := "7e1a654efded5b82f815ba4602819baa35abfeb364e6ddff759ec3e436437e4a", func := "ferryman/ferrymanlaw13.StepBoth", spec := "stepBoth", inPlace := ["math.Float64frombits", "math.Float64bits"], unfollowed := true, recurses := true, named := ["ferryman/decode.single", "ferryman/decode.double", "ferryman/decode.groups", "ferryman/insn.rows", "ferryman/alu.effects", "ferryman/float.edges"], apart := false, laid := [("ferryman/alu.effects", laid_ferryman_alu_effects), ("ferryman/float.edges", laid_ferryman_float_edges), ("ferryman/insn.rows", laid_ferryman_insn_rows), ("ferryman/decode.groups", laid_ferryman_decode_groups), ("ferryman/decode.single", laid_ferryman_decode_single), ("ferryman/decode.double", laid_ferryman_decode_double)] }
def StepBothSaid : Prop := stepBothRow.holds Tryz.pinned (OpenSpec.ofChange stepBothSpec)

/-- ITS FALSE NEIGHBOUR: 'it returns false'. Refute it at one input. -/
def stepBothWrong : ChangeSpec := { name := "stepBoth", fn := fun _ => fun
  | [d1, d2, d3, d4] => { results := [.lit (.bool false)], args := [d1, d2, d3, d4] }
  | _ => none }
def StepBothWrongFalsely : Prop := stepBothRow.holds Tryz.pinned (OpenSpec.ofChange stepBothWrong)

/-- 'ferrymanlaw13.StepFetches': WHATEVER THE INPUT: true; the input reads as it did. -/
def stepFetchesSpec : ChangeSpec := { name := "stepFetches", fn := fun _ => fun
  | [d1, d2] => { results := [.lit (.bool true)], args := [d1, d2] }
  | _ => none }
def stepFetchesRow : OpenClaim := { program := "ytcdoidnfdkodoaagreatdoor", sum := "7e1a654efded5b82f815ba4602819baa35abfeb364e6ddff759ec3e436437e4a", func := "ferryman/ferrymanlaw13.StepFetches", spec := "stepFetches", inPlace := ["math.Float64frombits", "math.Float64bits"], unfollowed := true, recurses := true, named := ["ferryman/decode.single", "ferryman/decode.double", "ferryman/decode.groups", "ferryman/insn.rows", "ferryman/alu.effects", "ferryman/float.edges"], apart := false, laid := [("ferryman/alu.effects", laid_ferryman_alu_effects), ("ferryman/float.edges", laid_ferryman_float_edges), ("ferryman/insn.rows", laid_ferryman_insn_rows), ("ferryman/decode.groups", laid_ferryman_decode_groups), ("ferryman/decode.single", laid_ferryman_decode_single), ("ferryman/decode.double", laid_ferryman_decode_double)] }
def StepFetchesSaid : Prop := stepFetchesRow.holds Tryz.pinned (OpenSpec.ofChange stepFetchesSpec)

/-- ITS FALSE NEIGHBOUR: 'it returns false'. Refute it at one input. -/
def stepFetchesWrong : ChangeSpec := { name := "stepFetches", fn := fun _ => fun
  | [d1, d2] => { results := [.lit (.bool false)], args := [d1, d2] }
  | _ => none }
def StepFetchesWrongFalsely : Prop := stepFetchesRow.holds Tryz.pinned (OpenSpec.ofChange stepFetchesWrong)

/- THE SECOND FORM. 'bulk': how many values and letters a reading holds, each counted each time it is reached (what is shared counts as often as it is met; a slice's spare places count too). A statement '..UptoSaid' is the law's where the arguments, and the package variables that the reading takes, are together of bulk at most 1048576: NARROWER than '..Said'. Prove '..Said' where nothing that the law and all that it calls make is longer than what came in: it says more and counts as full. Else prove '..UptoSaid'. A law counts once. -/
mutual
def uptoBulk {H : Type} : DataW H → Nat
  | .lit (.string bytes) => bytes.length + 1
  | .lit _ => 1
  | .nil => 1
  | .ptr d => uptoBulk d + 1
  | .slice elems spare => uptoBulkAll elems + uptoBulkAll spare + 1
  | .agg parts => uptoBulkAll parts + 1
  | .iface _ d => uptoBulk d + 1
  | .map entries => uptoBulkEntries entries + 1
  | .held _ => 1
def uptoBulkAll {H : Type} : List (DataW H) → Nat
  | [] => 0
  | d :: r => uptoBulk d + uptoBulkAll r
def uptoBulkEntries {H : Type} : List (Lit × DataW H) → Nat
  | [] => 0
  | x :: r => uptoBulkEntry x + uptoBulkEntries r
def uptoBulkEntry {H : Type} : Lit × DataW H → Nat
  | (.string bytes, d) => bytes.length + uptoBulk d + 1
  | (_, d) => uptoBulk d + 1
 end
def uptoSmall : (H : Type) → List (DataW H) → Bool := fun _ ds => decide (uptoBulkAll ds ≤ 1048576)
def OpenSpec.upto (s : _root_.Go.ChangeSpec) : _root_.Go.OpenSpec := { _root_.Go.OpenSpec.ofChange s with cond := some uptoSmall }

/-- 'ferrymanlaw13.StepDoes', WHERE WHAT IT READS IS OF BULK AT MOST 1048576: true; the input reads as it did. -/
def stepDoesUptoRow : OpenClaim := { program := "ytcdoidnfdkodoaagreatdoor", sum := "7e1a654efded5b82f815ba4602819baa35abfeb364e6ddff759ec3e436437e4a", func := "ferryman/ferrymanlaw13.StepDoes", spec := "stepDoes", inPlace := ["math.Float64frombits", "math.Float64bits"], unfollowed := true, recurses := true, named := ["ferryman/decode.single", "ferryman/decode.double", "ferryman/decode.groups", "ferryman/insn.rows", "ferryman/alu.effects", "ferryman/float.edges"], apart := false, laid := [("ferryman/alu.effects", laid_ferryman_alu_effects), ("ferryman/float.edges", laid_ferryman_float_edges), ("ferryman/insn.rows", laid_ferryman_insn_rows), ("ferryman/decode.groups", laid_ferryman_decode_groups), ("ferryman/decode.single", laid_ferryman_decode_single), ("ferryman/decode.double", laid_ferryman_decode_double)], narrowed := true }
def StepDoesUptoSaid : Prop := stepDoesUptoRow.holds Tryz.pinned (OpenSpec.upto stepDoesSpec)

/-- 'ferrymanlaw13.StepTells', WHERE WHAT IT READS IS OF BULK AT MOST 1048576: true; the input reads as it did. -/
def stepTellsUptoRow : OpenClaim := { program := "ytcdoidnfdkodoaagreatdoor", sum := "7e1a654efded5b82f815ba4602819baa35abfeb364e6ddff759ec3e436437e4a", func := "ferryman/ferrymanlaw13.StepTells", spec := "stepTells", inPlace := ["math.Float64frombits", "math.Float64bits"], unfollowed := true, recurses := true, named := ["ferryman/decode.single", "ferryman/decode.double", "ferryman/decode.groups", "ferryman/insn.rows", "ferryman/alu.effects", "ferryman/float.edges"], apart := false, laid := [("ferryman/alu.effects", laid_ferryman_alu_effects), ("ferryman/float.edges", laid_ferryman_float_edges), ("ferryman/insn.rows", laid_ferryman_insn_rows), ("ferryman/decode.groups", laid_ferryman_decode_groups), ("ferryman/decode.single", laid_ferryman_decode_single), ("ferryman/decode.double", laid_ferryman_decode_double)], narrowed := true }
def StepTellsUptoSaid : Prop := stepTellsUptoRow.holds Tryz.pinned (OpenSpec.upto stepTellsSpec)

/-- 'ferrymanlaw13.StepFaults', WHERE WHAT IT READS IS OF BULK AT MOST 1048576: true; the input reads as it did. -/
def stepFaultsUptoRow : OpenClaim := { program := "ytcdoidnfdkodoaagreatdoor", sum := "7e1a654efded5b82f815ba4602819baa35abfeb364e6ddff759ec3e436437e4a", func := "ferryman/ferrymanlaw13.StepFaults", spec := "stepFaults", inPlace := ["math.Float64frombits", "math.Float64bits"], unfollowed := true, recurses := true, named := ["ferryman/decode.single", "ferryman/decode.double", "ferryman/decode.groups", "ferryman/insn.rows", "ferryman/alu.effects", "ferryman/float.edges"], apart := false, laid := [("ferryman/alu.effects", laid_ferryman_alu_effects), ("ferryman/float.edges", laid_ferryman_float_edges), ("ferryman/insn.rows", laid_ferryman_insn_rows), ("ferryman/decode.groups", laid_ferryman_decode_groups), ("ferryman/decode.single", laid_ferryman_decode_single), ("ferryman/decode.double", laid_ferryman_decode_double)], narrowed := true }
def StepFaultsUptoSaid : Prop := stepFaultsUptoRow.holds Tryz.pinned (OpenSpec.upto stepFaultsSpec)

/-- 'ferrymanlaw13.StepStack', WHERE WHAT IT READS IS OF BULK AT MOST 1048576: true; the input reads as it did. -/
def stepStackUptoRow : OpenClaim := { program := "ytcdoidnfdkodoaagreatdoor", sum := "7e1a654efded5b82f815ba4602819baa35abfeb364e6ddff759ec3e436437e4a", func := "ferryman/ferrymanlaw13.StepStack", spec := "stepStack", inPlace := ["math.Float64frombits", "math.Float64bits"], unfollowed := true, recurses := true, named := ["ferryman/decode.single", "ferryman/decode.double", "ferryman/decode.groups", "ferryman/insn.rows", "ferryman/alu.effects", "ferryman/float.edges"], apart := false, laid := [("ferryman/alu.effects", laid_ferryman_alu_effects), ("ferryman/float.edges", laid_ferryman_float_edges), ("ferryman/insn.rows", laid_ferryman_insn_rows), ("ferryman/decode.groups", laid_ferryman_decode_groups), ("ferryman/decode.single", laid_ferryman_decode_single), ("ferryman/decode.double", laid_ferryman_decode_double)], narrowed := true }
def StepStackUptoSaid : Prop := stepStackUptoRow.holds Tryz.pinned (OpenSpec.upto stepStackSpec)

/-- 'ferrymanlaw13.StepRows', WHERE WHAT IT READS IS OF BULK AT MOST 1048576: true; the input reads as it did. -/
def stepRowsUptoRow : OpenClaim := { program := "ytcdoidnfdkodoaagreatdoor", sum := "7e1a654efded5b82f815ba4602819baa35abfeb364e6ddff759ec3e436437e4a", func := "ferryman/ferrymanlaw13.StepRows", spec := "stepRows", inPlace := ["math.Float64frombits", "math.Float64bits"], unfollowed := true, recurses := true, named := ["ferryman/decode.single", "ferryman/decode.double", "ferryman/decode.groups", "ferryman/insn.rows", "ferryman/alu.effects", "ferryman/float.edges"], apart := false, laid := [("ferryman/alu.effects", laid_ferryman_alu_effects), ("ferryman/float.edges", laid_ferryman_float_edges), ("ferryman/insn.rows", laid_ferryman_insn_rows), ("ferryman/decode.groups", laid_ferryman_decode_groups), ("ferryman/decode.single", laid_ferryman_decode_single), ("ferryman/decode.double", laid_ferryman_decode_double)], narrowed := true }
def StepRowsUptoSaid : Prop := stepRowsUptoRow.holds Tryz.pinned (OpenSpec.upto stepRowsSpec)

/-- 'ferrymanlaw13.StepNumbers', WHERE WHAT IT READS IS OF BULK AT MOST 1048576: true; the input reads as it did. -/
def stepNumbersUptoRow : OpenClaim := { program := "ytcdoidnfdkodoaagreatdoor", sum := "7e1a654efded5b82f815ba4602819baa35abfeb364e6ddff759ec3e436437e4a", func := "ferryman/ferrymanlaw13.StepNumbers", spec := "stepNumbers", inPlace := ["math.Float64frombits", "math.Float64bits"], unfollowed := true, recurses := true, named := ["ferryman/decode.single", "ferryman/decode.double", "ferryman/decode.groups", "ferryman/insn.rows", "ferryman/alu.effects", "ferryman/float.edges"], apart := false, laid := [("ferryman/alu.effects", laid_ferryman_alu_effects), ("ferryman/float.edges", laid_ferryman_float_edges), ("ferryman/insn.rows", laid_ferryman_insn_rows), ("ferryman/decode.groups", laid_ferryman_decode_groups), ("ferryman/decode.single", laid_ferryman_decode_single), ("ferryman/decode.double", laid_ferryman_decode_double)], narrowed := true }
def StepNumbersUptoSaid : Prop := stepNumbersUptoRow.holds Tryz.pinned (OpenSpec.upto stepNumbersSpec)

/-- 'ferrymanlaw13.StepLens', WHERE WHAT IT READS IS OF BULK AT MOST 1048576: true; the input reads as it did. -/
def stepLensUptoRow : OpenClaim := { program := "ytcdoidnfdkodoaagreatdoor", sum := "7e1a654efded5b82f815ba4602819baa35abfeb364e6ddff759ec3e436437e4a", func := "ferryman/ferrymanlaw13.StepLens", spec := "stepLens", inPlace := ["math.Float64frombits", "math.Float64bits"], unfollowed := true, recurses := true, named := ["ferryman/decode.single", "ferryman/decode.double", "ferryman/decode.groups", "ferryman/insn.rows", "ferryman/alu.effects", "ferryman/float.edges"], apart := false, laid := [("ferryman/alu.effects", laid_ferryman_alu_effects), ("ferryman/float.edges", laid_ferryman_float_edges), ("ferryman/insn.rows", laid_ferryman_insn_rows), ("ferryman/decode.groups", laid_ferryman_decode_groups), ("ferryman/decode.single", laid_ferryman_decode_single), ("ferryman/decode.double", laid_ferryman_decode_double)], narrowed := true }
def StepLensUptoSaid : Prop := stepLensUptoRow.holds Tryz.pinned (OpenSpec.upto stepLensSpec)

/-- 'ferrymanlaw13.StepMoves', WHERE WHAT IT READS IS OF BULK AT MOST 1048576: true; the input reads as it did. -/
def stepMovesUptoRow : OpenClaim := { program := "ytcdoidnfdkodoaagreatdoor", sum := "7e1a654efded5b82f815ba4602819baa35abfeb364e6ddff759ec3e436437e4a", func := "ferryman/ferrymanlaw13.StepMoves", spec := "stepMoves", inPlace := ["math.Float64frombits", "math.Float64bits"], unfollowed := true, recurses := true, named := ["ferryman/decode.single", "ferryman/decode.double", "ferryman/decode.groups", "ferryman/insn.rows", "ferryman/alu.effects", "ferryman/float.edges"], apart := false, laid := [("ferryman/alu.effects", laid_ferryman_alu_effects), ("ferryman/float.edges", laid_ferryman_float_edges), ("ferryman/insn.rows", laid_ferryman_insn_rows), ("ferryman/decode.groups", laid_ferryman_decode_groups), ("ferryman/decode.single", laid_ferryman_decode_single), ("ferryman/decode.double", laid_ferryman_decode_double)], narrowed := true }
def StepMovesUptoSaid : Prop := stepMovesUptoRow.holds Tryz.pinned (OpenSpec.upto stepMovesSpec)

/-- 'ferrymanlaw13.StepConds', WHERE WHAT IT READS IS OF BULK AT MOST 1048576: true; the input reads as it did. -/
def stepCondsUptoRow : OpenClaim := { program := "ytcdoidnfdkodoaagreatdoor", sum := "7e1a654efded5b82f815ba4602819baa35abfeb364e6ddff759ec3e436437e4a", func := "ferryman/ferrymanlaw13.StepConds", spec := "stepConds", inPlace := ["math.Float64frombits", "math.Float64bits"], unfollowed := true, recurses := true, named := ["ferryman/decode.single", "ferryman/decode.double", "ferryman/decode.groups", "ferryman/insn.rows", "ferryman/alu.effects", "ferryman/float.edges"], apart := false, laid := [("ferryman/alu.effects", laid_ferryman_alu_effects), ("ferryman/float.edges", laid_ferryman_float_edges), ("ferryman/insn.rows", laid_ferryman_insn_rows), ("ferryman/decode.groups", laid_ferryman_decode_groups), ("ferryman/decode.single", laid_ferryman_decode_single), ("ferryman/decode.double", laid_ferryman_decode_double)], narrowed := true }
def StepCondsUptoSaid : Prop := stepCondsUptoRow.holds Tryz.pinned (OpenSpec.upto stepCondsSpec)

/-- 'ferrymanlaw13.StepWide', WHERE WHAT IT READS IS OF BULK AT MOST 1048576: true; the input reads as it did. -/
def stepWideUptoRow : OpenClaim := { program := "ytcdoidnfdkodoaagreatdoor", sum := "7e1a654efded5b82f815ba4602819baa35abfeb364e6ddff759ec3e436437e4a", func := "ferryman/ferrymanlaw13.StepWide", spec := "stepWide", inPlace := ["math.Float64frombits", "math.Float64bits"], unfollowed := true, recurses := true, named := ["ferryman/decode.single", "ferryman/decode.double", "ferryman/decode.groups", "ferryman/insn.rows", "ferryman/alu.effects", "ferryman/float.edges"], apart := false, laid := [("ferryman/alu.effects", laid_ferryman_alu_effects), ("ferryman/float.edges", laid_ferryman_float_edges), ("ferryman/insn.rows", laid_ferryman_insn_rows), ("ferryman/decode.groups", laid_ferryman_decode_groups), ("ferryman/decode.single", laid_ferryman_decode_single), ("ferryman/decode.double", laid_ferryman_decode_double)], narrowed := true }
def StepWideUptoSaid : Prop := stepWideUptoRow.holds Tryz.pinned (OpenSpec.upto stepWideSpec)

/-- 'ferrymanlaw13.StepBoth', WHERE WHAT IT READS IS OF BULK AT MOST 1048576: true; the input reads as it did. -/
def stepBothUptoRow : OpenClaim := { program := "ytcdoidnfdkodoaagreatdoor", sum := "7e1a654efded5b82f815ba4602819baa35abfeb364e6ddff759ec3e436437e4a", func := "ferryman/ferrymanlaw13.StepBoth", spec := "stepBoth", inPlace := ["math.Float64frombits", "math.Float64bits"], unfollowed := true, recurses := true, named := ["ferryman/decode.single", "ferryman/decode.double", "ferryman/decode.groups", "ferryman/insn.rows", "ferryman/alu.effects", "ferryman/float.edges"], apart := false, laid := [("ferryman/alu.effects", laid_ferryman_alu_effects), ("ferryman/float.edges", laid_ferryman_float_edges), ("ferryman/insn.rows", laid_ferryman_insn_rows), ("ferryman/decode.groups", laid_ferryman_decode_groups), ("ferryman/decode.single", laid_ferryman_decode_single), ("ferryman/decode.double", laid_ferryman_decode_double)], narrowed := true }
def StepBothUptoSaid : Prop := stepBothUptoRow.holds Tryz.pinned (OpenSpec.upto stepBothSpec)

/-- 'ferrymanlaw13.StepFetches', WHERE WHAT IT READS IS OF BULK AT MOST 1048576: true; the input reads as it did. -/
def stepFetchesUptoRow : OpenClaim := { program := "ytcdoidnfdkodoaagreatdoor", sum := "7e1a654efded5b82f815ba4602819baa35abfeb364e6ddff759ec3e436437e4a", func := "ferryman/ferrymanlaw13.StepFetches", spec := "stepFetches", inPlace := ["math.Float64frombits", "math.Float64bits"], unfollowed := true, recurses := true, named := ["ferryman/decode.single", "ferryman/decode.double", "ferryman/decode.groups", "ferryman/insn.rows", "ferryman/alu.effects", "ferryman/float.edges"], apart := false, laid := [("ferryman/alu.effects", laid_ferryman_alu_effects), ("ferryman/float.edges", laid_ferryman_float_edges), ("ferryman/insn.rows", laid_ferryman_insn_rows), ("ferryman/decode.groups", laid_ferryman_decode_groups), ("ferryman/decode.single", laid_ferryman_decode_single), ("ferryman/decode.double", laid_ferryman_decode_double)], narrowed := true }
def StepFetchesUptoSaid : Prop := stepFetchesUptoRow.holds Tryz.pinned (OpenSpec.upto stepFetchesSpec)

end Rows
end Go.Proofs.YtcdoidnfdkodoaaGreatDoor
