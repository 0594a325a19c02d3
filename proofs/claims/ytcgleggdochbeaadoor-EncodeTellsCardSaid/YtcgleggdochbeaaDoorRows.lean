/-
  NARROWER THAN 'FOR EVERY INPUT', by the rows' own cells (each row's printed sentence says how): EncodeTells: laid · EncodeBack: laid · EncodeRows: laid · EncodeShort: laid · EncodePlaces: laid.
  DERIVED. THE GIVEN ROWS OF THIS SEAT. 5 by the template 'for every input the law returns true; each argument reads behind the call as it read before'; 0 by the template 'total and deterministic' (their statements: YtcgleggdochbeaaDoorTotals.lean).
  GIVEN WITH THE SEED: the statements are not yours to turn. If you find one false, say at which input.
  Laid BY PROGRAM, IN A SANDBOX (cutbox-rows.mjs): the forced cells as the released guide's own fill.sh prints them over the translation ffd6bfff3c398167… (all of the seat's roots in one cut). By AI agents, Wed Nov 11 2026. No macro, syntax, notation, axiom, sorry.
-/
import Derived.Test.YtcgleggdochbeaaDoorChecked
import GoSem.Claim
import GoSem.ClaimJoined
import GoSem.ClaimMapViews
import Derived.JoinedTies
import Derived.KernelRfl
namespace Go.Proofs.YtcgleggdochbeaaDoor
/- THE CELL 'sum', in the pinned program and in every row, IS THE sha256 OF THE DUMP (.gsa) THAT YtcgleggdochbeaaDoorProg.lean LOADS. Nothing in Lean hashes anything: it is a label: what it is worth is what the hold of that sum in a sandbox is worth. -/
noncomputable def Tryd.pinned : Pinned := { name := "ytcgleggdochbeaadoor", sum := "ffd6bfff3c398167bf47c5e91716198722e95397bd8bfb33190f173a58b727ab", checked := Tryd.checked }
namespace Rows
def none {H : Type} : Left H := { results := [], args := [] }

/- WHAT THE LISTED PACKAGE-LEVEL VARIABLES READ AS WHEN THE CALL BEGINS. Each datum BY PROGRAM (the guide's laid-datum.mjs) off the statement by which the dump's own 'gosem.cut.vars' lays the variable. In a bare row this is a premise. The card (YtcgleggdochbeaaDoorCards.lean) ties it to the program's text. -/
def laid_ferryman_insn_rows {H : Type} : DataW H := .agg [.agg [.lit (.int .i64 0), .lit (.int .i64 0), .lit (.bool false), .lit (.bool false), .lit (.bool false), .lit (.int .i64 0)], .agg [.lit (.int .i64 10), .lit (.int .i64 26), .lit (.bool false), .lit (.bool false), .lit (.bool false), .lit (.int .i64 0)], .agg [.lit (.int .i64 10), .lit (.int .i64 18), .lit (.bool false), .lit (.bool false), .lit (.bool false), .lit (.int .i64 0)], .agg [.lit (.int .i64 10), .lit (.int .i64 42), .lit (.bool false), .lit (.bool false), .lit (.bool false), .lit (.int .i64 0)], .agg [.lit (.int .i64 10), .lit (.int .i64 2), .lit (.bool false), .lit (.bool false), .lit (.bool false), .lit (.int .i64 0)], .agg [.lit (.int .i64 10), .lit (.int .i64 1), .lit (.bool false), .lit (.bool false), .lit (.bool false), .lit (.int .i64 0)], .agg [.lit (.int .i64 2), .lit (.int .i64 10), .lit (.bool false), .lit (.bool false), .lit (.bool false), .lit (.int .i64 0)], .agg [.lit (.int .i64 2), .lit (.int .i64 10), .lit (.bool true), .lit (.bool false), .lit (.bool false), .lit (.int .i64 0)], .agg [.lit (.int .i64 10), .lit (.int .i64 36), .lit (.bool false), .lit (.bool false), .lit (.bool false), .lit (.int .i64 0)], .agg [.lit (.int .i64 2), .lit (.int .i64 8), .lit (.bool false), .lit (.bool false), .lit (.bool false), .lit (.int .i64 2)], .agg [.lit (.int .i64 10), .lit (.int .i64 1), .lit (.bool true), .lit (.bool false), .lit (.bool false), .lit (.int .i64 0)], .agg [.lit (.int .i64 26), .lit (.int .i64 1), .lit (.bool false), .lit (.bool false), .lit (.bool false), .lit (.int .i64 1)], .agg [.lit (.int .i64 2), .lit (.int .i64 1), .lit (.bool false), .lit (.bool false), .lit (.bool false), .lit (.int .i64 1)], .agg [.lit (.int .i64 26), .lit (.int .i64 1), .lit (.bool false), .lit (.bool false), .lit (.bool true), .lit (.int .i64 1)], .agg [.lit (.int .i64 1), .lit (.int .i64 1), .lit (.bool false), .lit (.bool false), .lit (.bool true), .lit (.int .i64 1)], .agg [.lit (.int .i64 26), .lit (.int .i64 1), .lit (.bool false), .lit (.bool false), .lit (.bool true), .lit (.int .i64 0)], .agg [.lit (.int .i64 16), .lit (.int .i64 1), .lit (.bool true), .lit (.bool false), .lit (.bool true), .lit (.int .i64 0)], .agg [.lit (.int .i64 1), .lit (.int .i64 1), .lit (.bool false), .lit (.bool false), .lit (.bool false), .lit (.int .i64 0)], .agg [.lit (.int .i64 1), .lit (.int .i64 1), .lit (.bool false), .lit (.bool true), .lit (.bool false), .lit (.int .i64 1)], .agg [.lit (.int .i64 64), .lit (.int .i64 1), .lit (.bool false), .lit (.bool false), .lit (.bool true), .lit (.int .i64 0)], .agg [.lit (.int .i64 8), .lit (.int .i64 1), .lit (.bool false), .lit (.bool false), .lit (.bool false), .lit (.int .i64 1)]]
def laid_ferryman_decode_groups {H : Type} : DataW H := .agg [.agg [.lit (.int .i64 3), .lit (.int .i64 4), .lit (.int .i64 5), .lit (.int .i64 6), .lit (.int .i64 7), .lit (.int .i64 8), .lit (.int .i64 9), .lit (.int .i64 10)], .agg [.lit (.int .i64 21), .lit (.int .i64 22), .lit (.int .i64 0), .lit (.int .i64 0), .lit (.int .i64 23), .lit (.int .i64 24), .lit (.int .i64 0), .lit (.int .i64 25)], .agg [.lit (.int .i64 11), .lit (.int .i64 0), .lit (.int .i64 0), .lit (.int .i64 0), .lit (.int .i64 0), .lit (.int .i64 0), .lit (.int .i64 0), .lit (.int .i64 0)], .agg [.lit (.int .i64 0), .lit (.int .i64 0), .lit (.int .i64 14), .lit (.int .i64 15), .lit (.int .i64 16), .lit (.int .i64 17), .lit (.int .i64 19), .lit (.int .i64 20)], .agg [.lit (.int .i64 12), .lit (.int .i64 13), .lit (.int .i64 30), .lit (.int .i64 0), .lit (.int .i64 32), .lit (.int .i64 0), .lit (.int .i64 28), .lit (.int .i64 (-1))], .agg [.lit (.int .i64 1), .lit (.int .i64 (-1)), .lit (.int .i64 (-1)), .lit (.int .i64 (-1)), .lit (.int .i64 (-1)), .lit (.int .i64 (-1)), .lit (.int .i64 (-1)), .lit (.int .i64 (-1))], .agg [.lit (.int .i64 2), .lit (.int .i64 (-1)), .lit (.int .i64 (-1)), .lit (.int .i64 (-1)), .lit (.int .i64 (-1)), .lit (.int .i64 (-1)), .lit (.int .i64 (-1)), .lit (.int .i64 (-1))], .agg [.lit (.int .i64 34), .lit (.int .i64 0), .lit (.int .i64 0), .lit (.int .i64 0), .lit (.int .i64 0), .lit (.int .i64 0), .lit (.int .i64 0), .lit (.int .i64 0)], .agg [.lit (.int .i64 47), .lit (.int .i64 48), .lit (.int .i64 53), .lit (.int .i64 0), .lit (.int .i64 49), .lit (.int .i64 0), .lit (.int .i64 50), .lit (.int .i64 0)], .agg [.lit (.int .i64 45), .lit (.int .i64 0), .lit (.int .i64 0), .lit (.int .i64 46), .lit (.int .i64 0), .lit (.int .i64 0), .lit (.int .i64 0), .lit (.int .i64 0)]]
def laid_ferryman_decode_single {H : Type} : DataW H := .slice [.agg [.lit (.int .u32 65479), .lit (.int .u32 1), .lit (.int .i64 54), .lit (.int .i64 6), .lit (.int .i64 5)], .agg [.lit (.int .u32 65479), .lit (.int .u32 3), .lit (.int .i64 54), .lit (.int .i64 5), .lit (.int .i64 6)], .agg [.lit (.int .u32 65479), .lit (.int .u32 5), .lit (.int .i64 54), .lit (.int .i64 1), .lit (.int .i64 9)], .agg [.lit (.int .u32 65528), .lit (.int .u32 64), .lit (.int .i64 12), .lit (.int .i64 4), .lit (.int .i64 0)], .agg [.lit (.int .u32 65528), .lit (.int .u32 72), .lit (.int .i64 13), .lit (.int .i64 4), .lit (.int .i64 0)], .agg [.lit (.int .u32 65528), .lit (.int .u32 80), .lit (.int .i64 28), .lit (.int .i64 4), .lit (.int .i64 0)], .agg [.lit (.int .u32 65528), .lit (.int .u32 88), .lit (.int .i64 29), .lit (.int .i64 4), .lit (.int .i64 0)], .agg [.lit (.int .u32 65535), .lit (.int .u32 104), .lit (.int .i64 28), .lit (.int .i64 9), .lit (.int .i64 0)], .agg [.lit (.int .u32 65535), .lit (.int .u32 106), .lit (.int .i64 28), .lit (.int .i64 8), .lit (.int .i64 0)], .agg [.lit (.int .u32 65520), .lit (.int .u32 112), .lit (.int .i64 33), .lit (.int .i64 8), .lit (.int .i64 0)], .agg [.lit (.int .u32 65535), .lit (.int .u32 129), .lit (.int .i64 54), .lit (.int .i64 6), .lit (.int .i64 9)], .agg [.lit (.int .u32 65535), .lit (.int .u32 131), .lit (.int .i64 54), .lit (.int .i64 6), .lit (.int .i64 8)], .agg [.lit (.int .u32 65535), .lit (.int .u32 133), .lit (.int .i64 11), .lit (.int .i64 6), .lit (.int .i64 5)], .agg [.lit (.int .u32 65535), .lit (.int .u32 135), .lit (.int .i64 27), .lit (.int .i64 6), .lit (.int .i64 5)], .agg [.lit (.int .u32 65535), .lit (.int .u32 136), .lit (.int .i64 2), .lit (.int .i64 6), .lit (.int .i64 5)], .agg [.lit (.int .u32 65535), .lit (.int .u32 137), .lit (.int .i64 1), .lit (.int .i64 6), .lit (.int .i64 5)], .agg [.lit (.int .u32 65535), .lit (.int .u32 138), .lit (.int .i64 2), .lit (.int .i64 5), .lit (.int .i64 6)], .agg [.lit (.int .u32 65535), .lit (.int .u32 139), .lit (.int .i64 1), .lit (.int .i64 5), .lit (.int .i64 6)], .agg [.lit (.int .u32 65535), .lit (.int .u32 141), .lit (.int .i64 26), .lit (.int .i64 5), .lit (.int .i64 6)], .agg [.lit (.int .u32 65535), .lit (.int .u32 141), .lit (.int .i64 (-1)), .lit (.int .i64 0), .lit (.int .i64 0)], .agg [.lit (.int .u32 65535), .lit (.int .u32 144), .lit (.int .i64 44), .lit (.int .i64 0), .lit (.int .i64 0)], .agg [.lit (.int .u32 65535), .lit (.int .u32 153), .lit (.int .i64 38), .lit (.int .i64 0), .lit (.int .i64 0)], .agg [.lit (.int .u32 65535), .lit (.int .u32 165), .lit (.int .i64 41), .lit (.int .i64 0), .lit (.int .i64 0)], .agg [.lit (.int .u32 65535), .lit (.int .u32 169), .lit (.int .i64 11), .lit (.int .i64 1), .lit (.int .i64 9)], .agg [.lit (.int .u32 65535), .lit (.int .u32 171), .lit (.int .i64 42), .lit (.int .i64 0), .lit (.int .i64 0)], .agg [.lit (.int .u32 65528), .lit (.int .u32 176), .lit (.int .i64 2), .lit (.int .i64 4), .lit (.int .i64 7)], .agg [.lit (.int .u32 65528), .lit (.int .u32 184), .lit (.int .i64 1), .lit (.int .i64 4), .lit (.int .i64 9)], .agg [.lit (.int .u32 65535), .lit (.int .u32 193), .lit (.int .i64 55), .lit (.int .i64 6), .lit (.int .i64 7)], .agg [.lit (.int .u32 65535), .lit (.int .u32 195), .lit (.int .i64 31), .lit (.int .i64 0), .lit (.int .i64 0)], .agg [.lit (.int .u32 65535), .lit (.int .u32 198), .lit (.int .i64 60), .lit (.int .i64 6), .lit (.int .i64 7)], .agg [.lit (.int .u32 65535), .lit (.int .u32 199), .lit (.int .i64 59), .lit (.int .i64 6), .lit (.int .i64 9)], .agg [.lit (.int .u32 65535), .lit (.int .u32 205), .lit (.int .i64 43), .lit (.int .i64 7), .lit (.int .i64 0)], .agg [.lit (.int .u32 65535), .lit (.int .u32 209), .lit (.int .i64 55), .lit (.int .i64 6), .lit (.int .i64 3)], .agg [.lit (.int .u32 65535), .lit (.int .u32 211), .lit (.int .i64 55), .lit (.int .i64 6), .lit (.int .i64 2)], .agg [.lit (.int .u32 65535), .lit (.int .u32 220), .lit (.int .i64 62), .lit (.int .i64 6), .lit (.int .i64 0)], .agg [.lit (.int .u32 65535), .lit (.int .u32 221), .lit (.int .i64 63), .lit (.int .i64 6), .lit (.int .i64 0)], .agg [.lit (.int .u32 65535), .lit (.int .u32 232), .lit (.int .i64 30), .lit (.int .i64 9), .lit (.int .i64 0)], .agg [.lit (.int .u32 65535), .lit (.int .u32 233), .lit (.int .i64 32), .lit (.int .i64 9), .lit (.int .i64 0)], .agg [.lit (.int .u32 65535), .lit (.int .u32 235), .lit (.int .i64 32), .lit (.int .i64 8), .lit (.int .i64 0)], .agg [.lit (.int .u32 65535), .lit (.int .u32 247), .lit (.int .i64 56), .lit (.int .i64 6), .lit (.int .i64 9)], .agg [.lit (.int .u32 65535), .lit (.int .u32 247), .lit (.int .i64 57), .lit (.int .i64 6), .lit (.int .i64 0)], .agg [.lit (.int .u32 65535), .lit (.int .u32 252), .lit (.int .i64 39), .lit (.int .i64 0), .lit (.int .i64 0)], .agg [.lit (.int .u32 65535), .lit (.int .u32 253), .lit (.int .i64 40), .lit (.int .i64 0), .lit (.int .i64 0)], .agg [.lit (.int .u32 65535), .lit (.int .u32 255), .lit (.int .i64 58), .lit (.int .i64 6), .lit (.int .i64 0)]] []
def laid_ferryman_decode_double {H : Type} : DataW H := .slice [.agg [.lit (.int .u32 65535), .lit (.int .u32 3851), .lit (.int .i64 (-1)), .lit (.int .i64 0), .lit (.int .i64 0)], .agg [.lit (.int .u32 65520), .lit (.int .u32 3904), .lit (.int .i64 35), .lit (.int .i64 5), .lit (.int .i64 6)], .agg [.lit (.int .u32 65520), .lit (.int .u32 3968), .lit (.int .i64 33), .lit (.int .i64 9), .lit (.int .i64 0)], .agg [.lit (.int .u32 65520), .lit (.int .u32 3984), .lit (.int .i64 61), .lit (.int .i64 6), .lit (.int .i64 0)], .agg [.lit (.int .u32 65535), .lit (.int .u32 4015), .lit (.int .i64 18), .lit (.int .i64 5), .lit (.int .i64 6)], .agg [.lit (.int .u32 65535), .lit (.int .u32 4022), .lit (.int .i64 36), .lit (.int .i64 5), .lit (.int .i64 6)], .agg [.lit (.int .u32 65535), .lit (.int .u32 4030), .lit (.int .i64 37), .lit (.int .i64 5), .lit (.int .i64 6)], .agg [.lit (.int .u32 65535), .lit (.int .u32 55776), .lit (.int .i64 51), .lit (.int .i64 0), .lit (.int .i64 0)], .agg [.lit (.int .u32 65535), .lit (.int .u32 55777), .lit (.int .i64 52), .lit (.int .i64 0), .lit (.int .i64 0)], .agg [.lit (.int .u32 65535), .lit (.int .u32 62373), .lit (.int .i64 41), .lit (.int .i64 0), .lit (.int .i64 0)], .agg [.lit (.int .u32 65535), .lit (.int .u32 62379), .lit (.int .i64 42), .lit (.int .i64 0), .lit (.int .i64 0)]] []

/-- 'ferrymanlaw11.EncodeTells': WHATEVER THE INPUT: true; the input reads as it did. -/
def encodeTellsSpec : ChangeSpec := { name := "encodeTells", fn := fun _ => fun
  | [d] => { results := [.lit (.bool true)], args := [d] }
  | _ => none }
def encodeTellsRow : OpenClaim := { program := "ytcgleggdochbeaadoor", sum := "ffd6bfff3c398167bf47c5e91716198722e95397bd8bfb33190f173a58b727ab", func := "ferryman/ferrymanlaw11.EncodeTells", spec := "encodeTells", unfollowed := true, recurses := true, named := ["ferryman/insn.rows", "ferryman/decode.single", "ferryman/decode.double", "ferryman/decode.groups"], apart := false, laid := [("ferryman/insn.rows", laid_ferryman_insn_rows), ("ferryman/decode.groups", laid_ferryman_decode_groups), ("ferryman/decode.single", laid_ferryman_decode_single), ("ferryman/decode.double", laid_ferryman_decode_double)] }
def EncodeTellsSaid : Prop := encodeTellsRow.holds Tryd.pinned (OpenSpec.ofChange encodeTellsSpec)

/-- ITS FALSE NEIGHBOUR: 'it returns false'. Refute it at one input. -/
def encodeTellsWrong : ChangeSpec := { name := "encodeTells", fn := fun _ => fun
  | [d] => { results := [.lit (.bool false)], args := [d] }
  | _ => none }
def EncodeTellsWrongFalsely : Prop := encodeTellsRow.holds Tryd.pinned (OpenSpec.ofChange encodeTellsWrong)

/-- 'ferrymanlaw11.EncodeBack': WHATEVER THE INPUT: true; the input reads as it did. -/
def encodeBackSpec : ChangeSpec := { name := "encodeBack", fn := fun _ => fun
  | [d1, d2] => { results := [.lit (.bool true)], args := [d1, d2] }
  | _ => none }
def encodeBackRow : OpenClaim := { program := "ytcgleggdochbeaadoor", sum := "ffd6bfff3c398167bf47c5e91716198722e95397bd8bfb33190f173a58b727ab", func := "ferryman/ferrymanlaw11.EncodeBack", spec := "encodeBack", unfollowed := true, recurses := true, named := ["ferryman/insn.rows", "ferryman/decode.single", "ferryman/decode.double", "ferryman/decode.groups"], apart := false, laid := [("ferryman/insn.rows", laid_ferryman_insn_rows), ("ferryman/decode.groups", laid_ferryman_decode_groups), ("ferryman/decode.single", laid_ferryman_decode_single), ("ferryman/decode.double", laid_ferryman_decode_double)] }
def EncodeBackSaid : Prop := encodeBackRow.holds Tryd.pinned (OpenSpec.ofChange encodeBackSpec)

/-- ITS FALSE NEIGHBOUR: 'it returns false'. Refute it at one input. -/
def encodeBackWrong : ChangeSpec := { name := "encodeBack", fn := fun _ => fun
  | [d1, d2] => { results := [.lit (.bool false)], args := [d1, d2] }
  | _ => none }
def EncodeBackWrongFalsely : Prop := encodeBackRow.holds Tryd.pinned (OpenSpec.ofChange encodeBackWrong)

/-- 'ferrymanlaw11.EncodeRows': WHATEVER THE INPUT: true; the input reads as it did. -/
def encodeRowsSpec : ChangeSpec := { name := "encodeRows", fn := fun _ => fun
  | [d] => { results := [.lit (.bool true)], args := [d] }
  | _ => none }
def encodeRowsRow : OpenClaim := { program := "ytcgleggdochbeaadoor", sum := "ffd6bfff3c398167bf47c5e91716198722e95397bd8bfb33190f173a58b727ab", func := "ferryman/ferrymanlaw11.EncodeRows", spec := "encodeRows", unfollowed := true, recurses := true, named := ["ferryman/insn.rows", "ferryman/decode.single", "ferryman/decode.double", "ferryman/decode.groups"], apart := false, laid := [("ferryman/insn.rows", laid_ferryman_insn_rows), ("ferryman/decode.groups", laid_ferryman_decode_groups), ("ferryman/decode.single", laid_ferryman_decode_single), ("ferryman/decode.double", laid_ferryman_decode_double)] }
def EncodeRowsSaid : Prop := encodeRowsRow.holds Tryd.pinned (OpenSpec.ofChange encodeRowsSpec)

/-- ITS FALSE NEIGHBOUR: 'it returns false'. Refute it at one input. -/
def encodeRowsWrong : ChangeSpec := { name := "encodeRows", fn := fun _ => fun
  | [d] => { results := [.lit (.bool false)], args := [d] }
  | _ => none }
def EncodeRowsWrongFalsely : Prop := encodeRowsRow.holds Tryd.pinned (OpenSpec.ofChange encodeRowsWrong)

/-- 'ferrymanlaw11.EncodeShort': WHATEVER THE INPUT: true; the input reads as it did. -/
def encodeShortSpec : ChangeSpec := { name := "encodeShort", fn := fun _ => fun
  | [d1, d2, d3] => { results := [.lit (.bool true)], args := [d1, d2, d3] }
  | _ => none }
def encodeShortRow : OpenClaim := { program := "ytcgleggdochbeaadoor", sum := "ffd6bfff3c398167bf47c5e91716198722e95397bd8bfb33190f173a58b727ab", func := "ferryman/ferrymanlaw11.EncodeShort", spec := "encodeShort", unfollowed := true, recurses := true, named := ["ferryman/insn.rows", "ferryman/decode.single", "ferryman/decode.double", "ferryman/decode.groups"], apart := false, laid := [("ferryman/insn.rows", laid_ferryman_insn_rows), ("ferryman/decode.groups", laid_ferryman_decode_groups), ("ferryman/decode.single", laid_ferryman_decode_single), ("ferryman/decode.double", laid_ferryman_decode_double)] }
def EncodeShortSaid : Prop := encodeShortRow.holds Tryd.pinned (OpenSpec.ofChange encodeShortSpec)

/-- ITS FALSE NEIGHBOUR: 'it returns false'. Refute it at one input. -/
def encodeShortWrong : ChangeSpec := { name := "encodeShort", fn := fun _ => fun
  | [d1, d2, d3] => { results := [.lit (.bool false)], args := [d1, d2, d3] }
  | _ => none }
def EncodeShortWrongFalsely : Prop := encodeShortRow.holds Tryd.pinned (OpenSpec.ofChange encodeShortWrong)

/-- 'ferrymanlaw11.EncodePlaces': WHATEVER THE INPUT: true; the input reads as it did. -/
def encodePlacesSpec : ChangeSpec := { name := "encodePlaces", fn := fun _ => fun
  | [d1, d2, d3, d4] => { results := [.lit (.bool true)], args := [d1, d2, d3, d4] }
  | _ => none }
def encodePlacesRow : OpenClaim := { program := "ytcgleggdochbeaadoor", sum := "ffd6bfff3c398167bf47c5e91716198722e95397bd8bfb33190f173a58b727ab", func := "ferryman/ferrymanlaw11.EncodePlaces", spec := "encodePlaces", unfollowed := true, recurses := true, named := ["ferryman/insn.rows", "ferryman/decode.single", "ferryman/decode.double", "ferryman/decode.groups"], apart := false, laid := [("ferryman/insn.rows", laid_ferryman_insn_rows), ("ferryman/decode.groups", laid_ferryman_decode_groups), ("ferryman/decode.single", laid_ferryman_decode_single), ("ferryman/decode.double", laid_ferryman_decode_double)] }
def EncodePlacesSaid : Prop := encodePlacesRow.holds Tryd.pinned (OpenSpec.ofChange encodePlacesSpec)

/-- ITS FALSE NEIGHBOUR: 'it returns false'. Refute it at one input. -/
def encodePlacesWrong : ChangeSpec := { name := "encodePlaces", fn := fun _ => fun
  | [d1, d2, d3, d4] => { results := [.lit (.bool false)], args := [d1, d2, d3, d4] }
  | _ => none }
def EncodePlacesWrongFalsely : Prop := encodePlacesRow.holds Tryd.pinned (OpenSpec.ofChange encodePlacesWrong)

/- THE SECOND FORM. 'bulk': how many values and letters a reading holds, each counted each time it is reached (what is shared counts as often as it is met; a slice's spare places count too). A statement '..UptoSaid' is the law's where the arguments, and the package variables that the reading takes, are together of bulk at most 1048576: NARROWER than '..Said'. Prove '..Said' where nothing that the law and all that it calls make is longer than what came in: it says more and counts as full. Else prove '..UptoSaid'. A law counts once. -/
mutual
def uptoBulk {H : Type} : DataW H → Nat
  | .lit (.string bytes) => bytes.length + 1
  | .lit _ => 1
  | .nil => 1
  | .ptr d => uptoBulk d + 1
  | .slice elems spare => uptoBulkAll elems + uptoBulkAll spare + 1
  | .agg parts => uptoBulkAll parts + 1
  | .iface _ d => uptoBulk d + 1
  | .map entries => uptoBulkEntries entries + 1
  | .held _ => 1
def uptoBulkAll {H : Type} : List (DataW H) → Nat
  | [] => 0
  | d :: r => uptoBulk d + uptoBulkAll r
def uptoBulkEntries {H : Type} : List (Lit × DataW H) → Nat
  | [] => 0
  | x :: r => uptoBulkEntry x + uptoBulkEntries r
def uptoBulkEntry {H : Type} : Lit × DataW H → Nat
  | (.string bytes, d) => bytes.length + uptoBulk d + 1
  | (_, d) => uptoBulk d + 1
 end
def uptoSmall : (H : Type) → List (DataW H) → Bool := fun _ ds => decide (uptoBulkAll ds ≤ 1048576)
def OpenSpec.upto (s : _root_.Go.ChangeSpec) : _root_.Go.OpenSpec := { _root_.Go.OpenSpec.ofChange s with cond := some uptoSmall }

/-- 'ferrymanlaw11.EncodeTells', WHERE WHAT IT READS IS OF BULK AT MOST 1048576: true; the input reads as it did. -/
def encodeTellsUptoRow : OpenClaim := { program := "ytcgleggdochbeaadoor", sum := "ffd6bfff3c398167bf47c5e91716198722e95397bd8bfb33190f173a58b727ab", func := "ferryman/ferrymanlaw11.EncodeTells", spec := "encodeTells", unfollowed := true, recurses := true, named := ["ferryman/insn.rows", "ferryman/decode.single", "ferryman/decode.double", "ferryman/decode.groups"], apart := false, laid := [("ferryman/insn.rows", laid_ferryman_insn_rows), ("ferryman/decode.groups", laid_ferryman_decode_groups), ("ferryman/decode.single", laid_ferryman_decode_single), ("ferryman/decode.double", laid_ferryman_decode_double)], narrowed := true }
def EncodeTellsUptoSaid : Prop := encodeTellsUptoRow.holds Tryd.pinned (OpenSpec.upto encodeTellsSpec)

/-- 'ferrymanlaw11.EncodeBack', WHERE WHAT IT READS IS OF BULK AT MOST 1048576: true; the input reads as it did. -/
def encodeBackUptoRow : OpenClaim := { program := "ytcgleggdochbeaadoor", sum := "ffd6bfff3c398167bf47c5e91716198722e95397bd8bfb33190f173a58b727ab", func := "ferryman/ferrymanlaw11.EncodeBack", spec := "encodeBack", unfollowed := true, recurses := true, named := ["ferryman/insn.rows", "ferryman/decode.single", "ferryman/decode.double", "ferryman/decode.groups"], apart := false, laid := [("ferryman/insn.rows", laid_ferryman_insn_rows), ("ferryman/decode.groups", laid_ferryman_decode_groups), ("ferryman/decode.single", laid_ferryman_decode_single), ("ferryman/decode.double", laid_ferryman_decode_double)], narrowed := true }
def EncodeBackUptoSaid : Prop := encodeBackUptoRow.holds Tryd.pinned (OpenSpec.upto encodeBackSpec)

/-- 'ferrymanlaw11.EncodeRows', WHERE WHAT IT READS IS OF BULK AT MOST 1048576: true; the input reads as it did. -/
def encodeRowsUptoRow : OpenClaim := { program := "ytcgleggdochbeaadoor", sum := "ffd6bfff3c398167bf47c5e91716198722e95397bd8bfb33190f173a58b727ab", func := "ferryman/ferrymanlaw11.EncodeRows", spec := "encodeRows", unfollowed := true, recurses := true, named := ["ferryman/insn.rows", "ferryman/decode.single", "ferryman/decode.double", "ferryman/decode.groups"], apart := false, laid := [("ferryman/insn.rows", laid_ferryman_insn_rows), ("ferryman/decode.groups", laid_ferryman_decode_groups), ("ferryman/decode.single", laid_ferryman_decode_single), ("ferryman/decode.double", laid_ferryman_decode_double)], narrowed := true }
def EncodeRowsUptoSaid : Prop := encodeRowsUptoRow.holds Tryd.pinned (OpenSpec.upto encodeRowsSpec)

/-- 'ferrymanlaw11.EncodeShort', WHERE WHAT IT READS IS OF BULK AT MOST 1048576: true; the input reads as it did. -/
def encodeShortUptoRow : OpenClaim := { program := "ytcgleggdochbeaadoor", sum := "ffd6bfff3c398167bf47c5e91716198722e95397bd8bfb33190f173a58b727ab", func := "ferryman/ferrymanlaw11.EncodeShort", spec := "encodeShort", unfollowed := true, recurses := true, named := ["ferryman/insn.rows", "ferryman/decode.single", "ferryman/decode.double", "ferryman/decode.groups"], apart := false, laid := [("ferryman/insn.rows", laid_ferryman_insn_rows), ("ferryman/decode.groups", laid_ferryman_decode_groups), ("ferryman/decode.single", laid_ferryman_decode_single), ("ferryman/decode.double", laid_ferryman_decode_double)], narrowed := true }
def EncodeShortUptoSaid : Prop := encodeShortUptoRow.holds Tryd.pinned (OpenSpec.upto encodeShortSpec)

/-- 'ferrymanlaw11.EncodePlaces', WHERE WHAT IT READS IS OF BULK AT MOST 1048576: true; the input reads as it did. -/
def encodePlacesUptoRow : OpenClaim := { program := "ytcgleggdochbeaadoor", sum := "ffd6bfff3c398167bf47c5e91716198722e95397bd8bfb33190f173a58b727ab", func := "ferryman/ferrymanlaw11.EncodePlaces", spec := "encodePlaces", unfollowed := true, recurses := true, named := ["ferryman/insn.rows", "ferryman/decode.single", "ferryman/decode.double", "ferryman/decode.groups"], apart := false, laid := [("ferryman/insn.rows", laid_ferryman_insn_rows), ("ferryman/decode.groups", laid_ferryman_decode_groups), ("ferryman/decode.single", laid_ferryman_decode_single), ("ferryman/decode.double", laid_ferryman_decode_double)], narrowed := true }
def EncodePlacesUptoSaid : Prop := encodePlacesUptoRow.holds Tryd.pinned (OpenSpec.upto encodePlacesSpec)

end Rows
end Go.Proofs.YtcgleggdochbeaaDoor
