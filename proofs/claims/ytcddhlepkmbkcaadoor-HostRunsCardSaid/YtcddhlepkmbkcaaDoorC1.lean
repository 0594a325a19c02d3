import Derived.Test.YtcddhlepkmbkcaaDoorRows
import Derived.Test.YtcddhlepkmbkcaaDoorKit
import Derived.Test.YtcddhlepkmbkcaaDoorR1
import Derived.Test.YtcddhlepkmbkcaaDoorB3
import Derived.Test.YtcddhlepkmbkcaaDoorLaid

import Derived.Deep.RegionHeld3
import Derived.Handy
namespace Go.Proofs.YtcddhlepkmbkcaaDoor
open Go.RowKit
set_option linter.unusedVariables false
set_option linter.unusedSimpArgs false
set_option linter.unusedSectionVars false

/-- The operands of a form, as they are told. -/
def operT : List (List UInt8) := [[], [100, 44, 105], [100, 44, 105], [100, 44, 115, 44, 105], [100, 44, 105, 40, 115, 41], [116, 44, 105, 40, 115, 41], [115, 44, 116, 44, 105], [100, 44, 115, 44, 105], [100, 44, 115, 44, 116], []]
def operL (f : Nat) : List UInt8 := operT.getD f []
def partsV (f : Nat) : Value := .agg #[.bool (hasD f), .bool (hasS f), .bool (hasT f), .int .i32 (leastN f), .int .i32 (greatestN f), .int .i32 (lowN f), .string ⟨(operL f).toArray⟩]
theorem set_alloc (w : World) (o o' : Obj) : { (w.alloc o) with heap := (w.alloc o).heap.setIfInBounds w.heap.size o' } = w.alloc o' := by
  unfold World.alloc
  simp only [World.mk.injEq, and_true, true_and]
  apply Array.ext'
  simp
end Go.Proofs.YtcddhlepkmbkcaaDoor
