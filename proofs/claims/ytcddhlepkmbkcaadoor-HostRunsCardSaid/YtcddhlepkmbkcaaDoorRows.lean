/-
  NARROWER THAN 'FOR EVERY INPUT', by the rows' own cells (each row's printed sentence says how): HostSteps: laid · HostRuns: laid · HostMemory: laid · HostDivides: laid · HostLoops: laid · HostStops: laid · HostZero: laid.
  DERIVED. THE GIVEN ROWS OF THIS SEAT. 7 by the template 'for every input the law returns true; each argument reads behind the call as it read before'; 0 by the template 'total and deterministic' (their statements: YtcddhlepkmbkcaaDoorTotals.lean).
  GIVEN WITH THE SEED: the statements are not yours to turn. If you find one false, say at which input.
  Laid BY PROGRAM, IN A SANDBOX (cutbox-rows.mjs): the forced cells as the released guide's own fill.sh prints them over the translation ae9f9edd7c73524a… (all of the seat's roots in one cut). By AI agents, Wed Nov 11 2026. No macro, syntax, notation, axiom, sorry.
-/
import Derived.Test.YtcddhlepkmbkcaaDoorChecked
import GoSem.Claim
import GoSem.ClaimJoined
import GoSem.ClaimMapViews
import Derived.JoinedTies
import Derived.KernelRfl
namespace Go.Proofs.YtcddhlepkmbkcaaDoor
/- THE CELL 'sum', in the pinned program and in every row, IS THE sha256 OF THE DUMP (.gsa) THAT YtcddhlepkmbkcaaDoorProg.lean LOADS. Nothing in Lean hashes anything: it is a label: what it is worth is what the hold of that sum in a sandbox is worth. -/
noncomputable def Tryd.pinned : Pinned := { name := "ytcddhlepkmbkcaadoor", sum := "ae9f9edd7c73524a7533c2a6e98b6d2c2ebc8d6785ff9c0e1225f896bf2363d2", checked := Tryd.checked }
namespace Rows
def none {H : Type} : Left H := { results := [], args := [] }

/- WHAT THE LISTED PACKAGE-LEVEL VARIABLES READ AS WHEN THE CALL BEGINS. Each datum BY PROGRAM (the guide's laid-datum.mjs) off the statement by which the dump's own 'gosem.cut.vars' lays the variable. In a bare row this is a premise. The card (YtcddhlepkmbkcaaDoorCards.lean) ties it to the program's text. -/
def laid_ferryman_rv_kinds {H : Type} : DataW H := .agg [.agg [.lit (.string []), .lit (.int .i64 0), .lit (.int .u32 0)], .agg [.lit (.string [108, 117, 105]), .lit (.int .i64 1), .lit (.int .u32 55)], .agg [.lit (.string [97, 117, 105, 112, 99]), .lit (.int .i64 1), .lit (.int .u32 23)], .agg [.lit (.string [106, 97, 108]), .lit (.int .i64 2), .lit (.int .u32 111)], .agg [.lit (.string [106, 97, 108, 114]), .lit (.int .i64 3), .lit (.int .u32 103)], .agg [.lit (.string [98, 101, 113]), .lit (.int .i64 6), .lit (.int .u32 99)], .agg [.lit (.string [98, 110, 101]), .lit (.int .i64 6), .lit (.int .u32 4195)], .agg [.lit (.string [98, 108, 116]), .lit (.int .i64 6), .lit (.int .u32 16483)], .agg [.lit (.string [98, 103, 101]), .lit (.int .i64 6), .lit (.int .u32 20579)], .agg [.lit (.string [98, 108, 116, 117]), .lit (.int .i64 6), .lit (.int .u32 24675)], .agg [.lit (.string [98, 103, 101, 117]), .lit (.int .i64 6), .lit (.int .u32 28771)], .agg [.lit (.string [108, 98]), .lit (.int .i64 4), .lit (.int .u32 3)], .agg [.lit (.string [108, 104]), .lit (.int .i64 4), .lit (.int .u32 4099)], .agg [.lit (.string [108, 119]), .lit (.int .i64 4), .lit (.int .u32 8195)], .agg [.lit (.string [108, 98, 117]), .lit (.int .i64 4), .lit (.int .u32 16387)], .agg [.lit (.string [108, 104, 117]), .lit (.int .i64 4), .lit (.int .u32 20483)], .agg [.lit (.string [115, 98]), .lit (.int .i64 5), .lit (.int .u32 35)], .agg [.lit (.string [115, 104]), .lit (.int .i64 5), .lit (.int .u32 4131)], .agg [.lit (.string [115, 119]), .lit (.int .i64 5), .lit (.int .u32 8227)], .agg [.lit (.string [97, 100, 100, 105]), .lit (.int .i64 3), .lit (.int .u32 19)], .agg [.lit (.string [115, 108, 116, 105]), .lit (.int .i64 3), .lit (.int .u32 8211)], .agg [.lit (.string [115, 108, 116, 105, 117]), .lit (.int .i64 3), .lit (.int .u32 12307)], .agg [.lit (.string [120, 111, 114, 105]), .lit (.int .i64 3), .lit (.int .u32 16403)], .agg [.lit (.string [111, 114, 105]), .lit (.int .i64 3), .lit (.int .u32 24595)], .agg [.lit (.string [97, 110, 100, 105]), .lit (.int .i64 3), .lit (.int .u32 28691)], .agg [.lit (.string [115, 108, 108, 105]), .lit (.int .i64 7), .lit (.int .u32 4115)], .agg [.lit (.string [115, 114, 108, 105]), .lit (.int .i64 7), .lit (.int .u32 20499)], .agg [.lit (.string [115, 114, 97, 105]), .lit (.int .i64 7), .lit (.int .u32 1073762323)], .agg [.lit (.string [97, 100, 100]), .lit (.int .i64 8), .lit (.int .u32 51)], .agg [.lit (.string [115, 117, 98]), .lit (.int .i64 8), .lit (.int .u32 1073741875)], .agg [.lit (.string [115, 108, 108]), .lit (.int .i64 8), .lit (.int .u32 4147)], .agg [.lit (.string [115, 108, 116]), .lit (.int .i64 8), .lit (.int .u32 8243)], .agg [.lit (.string [115, 108, 116, 117]), .lit (.int .i64 8), .lit (.int .u32 12339)], .agg [.lit (.string [120, 111, 114]), .lit (.int .i64 8), .lit (.int .u32 16435)], .agg [.lit (.string [115, 114, 108]), .lit (.int .i64 8), .lit (.int .u32 20531)], .agg [.lit (.string [115, 114, 97]), .lit (.int .i64 8), .lit (.int .u32 1073762355)], .agg [.lit (.string [111, 114]), .lit (.int .i64 8), .lit (.int .u32 24627)], .agg [.lit (.string [97, 110, 100]), .lit (.int .i64 8), .lit (.int .u32 28723)], .agg [.lit (.string [109, 117, 108]), .lit (.int .i64 8), .lit (.int .u32 33554483)], .agg [.lit (.string [109, 117, 108, 104]), .lit (.int .i64 8), .lit (.int .u32 33558579)], .agg [.lit (.string [109, 117, 108, 104, 115, 117]), .lit (.int .i64 8), .lit (.int .u32 33562675)], .agg [.lit (.string [109, 117, 108, 104, 117]), .lit (.int .i64 8), .lit (.int .u32 33566771)], .agg [.lit (.string [100, 105, 118]), .lit (.int .i64 8), .lit (.int .u32 33570867)], .agg [.lit (.string [100, 105, 118, 117]), .lit (.int .i64 8), .lit (.int .u32 33574963)], .agg [.lit (.string [114, 101, 109]), .lit (.int .i64 8), .lit (.int .u32 33579059)], .agg [.lit (.string [114, 101, 109, 117]), .lit (.int .i64 8), .lit (.int .u32 33583155)], .agg [.lit (.string [101, 99, 97, 108, 108]), .lit (.int .i64 9), .lit (.int .u32 115)], .agg [.lit (.string [101, 98, 114, 101, 97, 107]), .lit (.int .i64 9), .lit (.int .u32 1048691)]]
def laid_ferryman_rv_masks {H : Type} : DataW H := .agg [.lit (.int .u32 0), .lit (.int .u32 127), .lit (.int .u32 127), .lit (.int .u32 28799), .lit (.int .u32 28799), .lit (.int .u32 28799), .lit (.int .u32 28799), .lit (.int .u32 4261441663), .lit (.int .u32 4261441663), .lit (.int .u32 4294967295)]

/-- 'ferrymanlaw4.HostSteps': WHATEVER THE INPUT: true; the input reads as it did. -/
def hostStepsSpec : ChangeSpec := { name := "hostSteps", fn := fun _ => fun
  | [d1, d2, d3, d4, d5] => { results := [.lit (.bool true)], args := [d1, d2, d3, d4, d5] }
  | _ => none }
def hostStepsRow : OpenClaim := { program := "ytcddhlepkmbkcaadoor", sum := "ae9f9edd7c73524a7533c2a6e98b6d2c2ebc8d6785ff9c0e1225f896bf2363d2", func := "ferryman/ferrymanlaw4.HostSteps", spec := "hostSteps", unfollowed := true, recurses := true, named := ["ferryman/rv.kinds", "ferryman/rv.masks"], apart := false, laid := [("ferryman/rv.kinds", laid_ferryman_rv_kinds), ("ferryman/rv.masks", laid_ferryman_rv_masks)] }
def HostStepsSaid : Prop := hostStepsRow.holds Tryd.pinned (OpenSpec.ofChange hostStepsSpec)

/-- ITS FALSE NEIGHBOUR: 'it returns false'. Refute it at one input. -/
def hostStepsWrong : ChangeSpec := { name := "hostSteps", fn := fun _ => fun
  | [d1, d2, d3, d4, d5] => { results := [.lit (.bool false)], args := [d1, d2, d3, d4, d5] }
  | _ => none }
def HostStepsWrongFalsely : Prop := hostStepsRow.holds Tryd.pinned (OpenSpec.ofChange hostStepsWrong)

/-- 'ferrymanlaw4.HostRuns': WHATEVER THE INPUT: true; the input reads as it did. -/
def hostRunsSpec : ChangeSpec := { name := "hostRuns", fn := fun _ => fun
  | [d1, d2, d3, d4] => { results := [.lit (.bool true)], args := [d1, d2, d3, d4] }
  | _ => none }
def hostRunsRow : OpenClaim := { program := "ytcddhlepkmbkcaadoor", sum := "ae9f9edd7c73524a7533c2a6e98b6d2c2ebc8d6785ff9c0e1225f896bf2363d2", func := "ferryman/ferrymanlaw4.HostRuns", spec := "hostRuns", unfollowed := true, recurses := true, named := ["ferryman/rv.kinds", "ferryman/rv.masks"], apart := false, laid := [("ferryman/rv.kinds", laid_ferryman_rv_kinds), ("ferryman/rv.masks", laid_ferryman_rv_masks)] }
def HostRunsSaid : Prop := hostRunsRow.holds Tryd.pinned (OpenSpec.ofChange hostRunsSpec)

/-- ITS FALSE NEIGHBOUR: 'it returns false'. Refute it at one input. -/
def hostRunsWrong : ChangeSpec := { name := "hostRuns", fn := fun _ => fun
  | [d1, d2, d3, d4] => { results := [.lit (.bool false)], args := [d1, d2, d3, d4] }
  | _ => none }
def HostRunsWrongFalsely : Prop := hostRunsRow.holds Tryd.pinned (OpenSpec.ofChange hostRunsWrong)

/-- 'ferrymanlaw4.HostMemory': WHATEVER THE INPUT: true; the input reads as it did. -/
def hostMemorySpec : ChangeSpec := { name := "hostMemory", fn := fun _ => fun
  | [d] => { results := [.lit (.bool true)], args := [d] }
  | _ => none }
def hostMemoryRow : OpenClaim := { program := "ytcddhlepkmbkcaadoor", sum := "ae9f9edd7c73524a7533c2a6e98b6d2c2ebc8d6785ff9c0e1225f896bf2363d2", func := "ferryman/ferrymanlaw4.HostMemory", spec := "hostMemory", unfollowed := true, recurses := true, named := ["ferryman/rv.kinds", "ferryman/rv.masks"], apart := false, laid := [("ferryman/rv.kinds", laid_ferryman_rv_kinds), ("ferryman/rv.masks", laid_ferryman_rv_masks)] }
def HostMemorySaid : Prop := hostMemoryRow.holds Tryd.pinned (OpenSpec.ofChange hostMemorySpec)

/-- ITS FALSE NEIGHBOUR: 'it returns false'. Refute it at one input. -/
def hostMemoryWrong : ChangeSpec := { name := "hostMemory", fn := fun _ => fun
  | [d] => { results := [.lit (.bool false)], args := [d] }
  | _ => none }
def HostMemoryWrongFalsely : Prop := hostMemoryRow.holds Tryd.pinned (OpenSpec.ofChange hostMemoryWrong)

/-- 'ferrymanlaw4.HostDivides': WHATEVER THE INPUT: true; the input reads as it did. -/
def hostDividesSpec : ChangeSpec := { name := "hostDivides", fn := fun _ => fun
  | [d1, d2] => { results := [.lit (.bool true)], args := [d1, d2] }
  | _ => none }
def hostDividesRow : OpenClaim := { program := "ytcddhlepkmbkcaadoor", sum := "ae9f9edd7c73524a7533c2a6e98b6d2c2ebc8d6785ff9c0e1225f896bf2363d2", func := "ferryman/ferrymanlaw4.HostDivides", spec := "hostDivides", unfollowed := true, recurses := true, named := ["ferryman/rv.kinds", "ferryman/rv.masks"], apart := false, laid := [("ferryman/rv.kinds", laid_ferryman_rv_kinds), ("ferryman/rv.masks", laid_ferryman_rv_masks)] }
def HostDividesSaid : Prop := hostDividesRow.holds Tryd.pinned (OpenSpec.ofChange hostDividesSpec)

/-- ITS FALSE NEIGHBOUR: 'it returns false'. Refute it at one input. -/
def hostDividesWrong : ChangeSpec := { name := "hostDivides", fn := fun _ => fun
  | [d1, d2] => { results := [.lit (.bool false)], args := [d1, d2] }
  | _ => none }
def HostDividesWrongFalsely : Prop := hostDividesRow.holds Tryd.pinned (OpenSpec.ofChange hostDividesWrong)

/-- 'ferrymanlaw4.HostLoops': WHATEVER THE INPUT: true; the input reads as it did. -/
def hostLoopsSpec : ChangeSpec := { name := "hostLoops", fn := fun _ => fun
  | [d1, d2] => { results := [.lit (.bool true)], args := [d1, d2] }
  | _ => none }
def hostLoopsRow : OpenClaim := { program := "ytcddhlepkmbkcaadoor", sum := "ae9f9edd7c73524a7533c2a6e98b6d2c2ebc8d6785ff9c0e1225f896bf2363d2", func := "ferryman/ferrymanlaw4.HostLoops", spec := "hostLoops", unfollowed := true, recurses := true, named := ["ferryman/rv.kinds", "ferryman/rv.masks"], apart := false, laid := [("ferryman/rv.kinds", laid_ferryman_rv_kinds), ("ferryman/rv.masks", laid_ferryman_rv_masks)] }
def HostLoopsSaid : Prop := hostLoopsRow.holds Tryd.pinned (OpenSpec.ofChange hostLoopsSpec)

/-- ITS FALSE NEIGHBOUR: 'it returns false'. Refute it at one input. -/
def hostLoopsWrong : ChangeSpec := { name := "hostLoops", fn := fun _ => fun
  | [d1, d2] => { results := [.lit (.bool false)], args := [d1, d2] }
  | _ => none }
def HostLoopsWrongFalsely : Prop := hostLoopsRow.holds Tryd.pinned (OpenSpec.ofChange hostLoopsWrong)

/-- 'ferrymanlaw4.HostStops': WHATEVER THE INPUT: true; the input reads as it did. -/
def hostStopsSpec : ChangeSpec := { name := "hostStops", fn := fun _ => fun
  | [d1, d2, d3] => { results := [.lit (.bool true)], args := [d1, d2, d3] }
  | _ => none }
def hostStopsRow : OpenClaim := { program := "ytcddhlepkmbkcaadoor", sum := "ae9f9edd7c73524a7533c2a6e98b6d2c2ebc8d6785ff9c0e1225f896bf2363d2", func := "ferryman/ferrymanlaw4.HostStops", spec := "hostStops", unfollowed := true, recurses := true, named := ["ferryman/rv.kinds", "ferryman/rv.masks"], apart := false, laid := [("ferryman/rv.kinds", laid_ferryman_rv_kinds), ("ferryman/rv.masks", laid_ferryman_rv_masks)] }
def HostStopsSaid : Prop := hostStopsRow.holds Tryd.pinned (OpenSpec.ofChange hostStopsSpec)

/-- ITS FALSE NEIGHBOUR: 'it returns false'. Refute it at one input. -/
def hostStopsWrong : ChangeSpec := { name := "hostStops", fn := fun _ => fun
  | [d1, d2, d3] => { results := [.lit (.bool false)], args := [d1, d2, d3] }
  | _ => none }
def HostStopsWrongFalsely : Prop := hostStopsRow.holds Tryd.pinned (OpenSpec.ofChange hostStopsWrong)

/-- 'ferrymanlaw4.HostZero': WHATEVER THE INPUT: true; the input reads as it did. -/
def hostZeroSpec : ChangeSpec := { name := "hostZero", fn := fun _ => fun
  | [d1, d2, d3, d4] => { results := [.lit (.bool true)], args := [d1, d2, d3, d4] }
  | _ => none }
def hostZeroRow : OpenClaim := { program := "ytcddhlepkmbkcaadoor", sum := "ae9f9edd7c73524a7533c2a6e98b6d2c2ebc8d6785ff9c0e1225f896bf2363d2", func := "ferryman/ferrymanlaw4.HostZero", spec := "hostZero", unfollowed := true, recurses := true, named := ["ferryman/rv.kinds", "ferryman/rv.masks"], apart := false, laid := [("ferryman/rv.kinds", laid_ferryman_rv_kinds), ("ferryman/rv.masks", laid_ferryman_rv_masks)] }
def HostZeroSaid : Prop := hostZeroRow.holds Tryd.pinned (OpenSpec.ofChange hostZeroSpec)

/-- ITS FALSE NEIGHBOUR: 'it returns false'. Refute it at one input. -/
def hostZeroWrong : ChangeSpec := { name := "hostZero", fn := fun _ => fun
  | [d1, d2, d3, d4] => { results := [.lit (.bool false)], args := [d1, d2, d3, d4] }
  | _ => none }
def HostZeroWrongFalsely : Prop := hostZeroRow.holds Tryd.pinned (OpenSpec.ofChange hostZeroWrong)

/- THE SECOND FORM. 'bulk': how many values and letters a reading holds, each counted each time it is reached (what is shared counts as often as it is met; a slice's spare places count too). A statement '..UptoSaid' is the law's where the arguments, and the package variables that the reading takes, are together of bulk at most 1048576: NARROWER than '..Said'. Prove '..Said' where nothing that the law and all that it calls make is longer than what came in: it says more and counts as full. Else prove '..UptoSaid'. A law counts once. -/
mutual
def uptoBulk {H : Type} : DataW H → Nat
  | .lit (.string bytes) => bytes.length + 1
  | .lit _ => 1
  | .nil => 1
  | .ptr d => uptoBulk d + 1
  | .slice elems spare => uptoBulkAll elems + uptoBulkAll spare + 1
  | .agg parts => uptoBulkAll parts + 1
  | .iface _ d => uptoBulk d + 1
  | .map entries => uptoBulkEntries entries + 1
  | .held _ => 1
def uptoBulkAll {H : Type} : List (DataW H) → Nat
  | [] => 0
  | d :: r => uptoBulk d + uptoBulkAll r
def uptoBulkEntries {H : Type} : List (Lit × DataW H) → Nat
  | [] => 0
  | x :: r => uptoBulkEntry x + uptoBulkEntries r
def uptoBulkEntry {H : Type} : Lit × DataW H → Nat
  | (.string bytes, d) => bytes.length + uptoBulk d + 1
  | (_, d) => uptoBulk d + 1
 end
def uptoSmall : (H : Type) → List (DataW H) → Bool := fun _ ds => decide (uptoBulkAll ds ≤ 1048576)
def OpenSpec.upto (s : _root_.Go.ChangeSpec) : _root_.Go.OpenSpec := { _root_.Go.OpenSpec.ofChange s with cond := some uptoSmall }

/-- 'ferrymanlaw4.HostSteps', WHERE WHAT IT READS IS OF BULK AT MOST 1048576: true; the input reads as it did. -/
def hostStepsUptoRow : OpenClaim := { program := "ytcddhlepkmbkcaadoor", sum := "ae9f9edd7c73524a7533c2a6e98b6d2c2ebc8d6785ff9c0e1225f896bf2363d2", func := "ferryman/ferrymanlaw4.HostSteps", spec := "hostSteps", unfollowed := true, recurses := true, named := ["ferryman/rv.kinds", "ferryman/rv.masks"], apart := false, laid := [("ferryman/rv.kinds", laid_ferryman_rv_kinds), ("ferryman/rv.masks", laid_ferryman_rv_masks)], narrowed := true }
def HostStepsUptoSaid : Prop := hostStepsUptoRow.holds Tryd.pinned (OpenSpec.upto hostStepsSpec)

/-- 'ferrymanlaw4.HostRuns', WHERE WHAT IT READS IS OF BULK AT MOST 1048576: true; the input reads as it did. -/
def hostRunsUptoRow : OpenClaim := { program := "ytcddhlepkmbkcaadoor", sum := "ae9f9edd7c73524a7533c2a6e98b6d2c2ebc8d6785ff9c0e1225f896bf2363d2", func := "ferryman/ferrymanlaw4.HostRuns", spec := "hostRuns", unfollowed := true, recurses := true, named := ["ferryman/rv.kinds", "ferryman/rv.masks"], apart := false, laid := [("ferryman/rv.kinds", laid_ferryman_rv_kinds), ("ferryman/rv.masks", laid_ferryman_rv_masks)], narrowed := true }
def HostRunsUptoSaid : Prop := hostRunsUptoRow.holds Tryd.pinned (OpenSpec.upto hostRunsSpec)

/-- 'ferrymanlaw4.HostMemory', WHERE WHAT IT READS IS OF BULK AT MOST 1048576: true; the input reads as it did. -/
def hostMemoryUptoRow : OpenClaim := { program := "ytcddhlepkmbkcaadoor", sum := "ae9f9edd7c73524a7533c2a6e98b6d2c2ebc8d6785ff9c0e1225f896bf2363d2", func := "ferryman/ferrymanlaw4.HostMemory", spec := "hostMemory", unfollowed := true, recurses := true, named := ["ferryman/rv.kinds", "ferryman/rv.masks"], apart := false, laid := [("ferryman/rv.kinds", laid_ferryman_rv_kinds), ("ferryman/rv.masks", laid_ferryman_rv_masks)], narrowed := true }
def HostMemoryUptoSaid : Prop := hostMemoryUptoRow.holds Tryd.pinned (OpenSpec.upto hostMemorySpec)

/-- 'ferrymanlaw4.HostDivides', WHERE WHAT IT READS IS OF BULK AT MOST 1048576: true; the input reads as it did. -/
def hostDividesUptoRow : OpenClaim := { program := "ytcddhlepkmbkcaadoor", sum := "ae9f9edd7c73524a7533c2a6e98b6d2c2ebc8d6785ff9c0e1225f896bf2363d2", func := "ferryman/ferrymanlaw4.HostDivides", spec := "hostDivides", unfollowed := true, recurses := true, named := ["ferryman/rv.kinds", "ferryman/rv.masks"], apart := false, laid := [("ferryman/rv.kinds", laid_ferryman_rv_kinds), ("ferryman/rv.masks", laid_ferryman_rv_masks)], narrowed := true }
def HostDividesUptoSaid : Prop := hostDividesUptoRow.holds Tryd.pinned (OpenSpec.upto hostDividesSpec)

/-- 'ferrymanlaw4.HostLoops', WHERE WHAT IT READS IS OF BULK AT MOST 1048576: true; the input reads as it did. -/
def hostLoopsUptoRow : OpenClaim := { program := "ytcddhlepkmbkcaadoor", sum := "ae9f9edd7c73524a7533c2a6e98b6d2c2ebc8d6785ff9c0e1225f896bf2363d2", func := "ferryman/ferrymanlaw4.HostLoops", spec := "hostLoops", unfollowed := true, recurses := true, named := ["ferryman/rv.kinds", "ferryman/rv.masks"], apart := false, laid := [("ferryman/rv.kinds", laid_ferryman_rv_kinds), ("ferryman/rv.masks", laid_ferryman_rv_masks)], narrowed := true }
def HostLoopsUptoSaid : Prop := hostLoopsUptoRow.holds Tryd.pinned (OpenSpec.upto hostLoopsSpec)

/-- 'ferrymanlaw4.HostStops', WHERE WHAT IT READS IS OF BULK AT MOST 1048576: true; the input reads as it did. -/
def hostStopsUptoRow : OpenClaim := { program := "ytcddhlepkmbkcaadoor", sum := "ae9f9edd7c73524a7533c2a6e98b6d2c2ebc8d6785ff9c0e1225f896bf2363d2", func := "ferryman/ferrymanlaw4.HostStops", spec := "hostStops", unfollowed := true, recurses := true, named := ["ferryman/rv.kinds", "ferryman/rv.masks"], apart := false, laid := [("ferryman/rv.kinds", laid_ferryman_rv_kinds), ("ferryman/rv.masks", laid_ferryman_rv_masks)], narrowed := true }
def HostStopsUptoSaid : Prop := hostStopsUptoRow.holds Tryd.pinned (OpenSpec.upto hostStopsSpec)

/-- 'ferrymanlaw4.HostZero', WHERE WHAT IT READS IS OF BULK AT MOST 1048576: true; the input reads as it did. -/
def hostZeroUptoRow : OpenClaim := { program := "ytcddhlepkmbkcaadoor", sum := "ae9f9edd7c73524a7533c2a6e98b6d2c2ebc8d6785ff9c0e1225f896bf2363d2", func := "ferryman/ferrymanlaw4.HostZero", spec := "hostZero", unfollowed := true, recurses := true, named := ["ferryman/rv.kinds", "ferryman/rv.masks"], apart := false, laid := [("ferryman/rv.kinds", laid_ferryman_rv_kinds), ("ferryman/rv.masks", laid_ferryman_rv_masks)], narrowed := true }
def HostZeroUptoSaid : Prop := hostZeroUptoRow.holds Tryd.pinned (OpenSpec.upto hostZeroSpec)

end Rows
end Go.Proofs.YtcddhlepkmbkcaaDoor
