/- Flags stored into a block of their own; the calls at constants. -/
import Derived.Test.YtgeeecoclhomiaaDoorA4
import Derived.Test.YtgeeecoclhomiaaDoorA6
import Derived.Test.YtgeeecoclhomiaaDoorA7
import Derived.Test.YtgeeecoclhomiaaDoorA9
namespace Go.Proofs.YtgeeecoclhomiaaDoor
open Go.RowKit
set_option linter.unusedVariables false
set_option linter.unusedSimpArgs false
set_option linter.unusedSectionVars false

theorem store_as {ops : Array Oper} {rest : List Oper} {o : Oper} {a : Act} {w0 : World} {Q : Exit → Act → World → Prop} (hgd : o.guard = none) (x y : Operand) (ho : o.op = .store 24 x y)
    (g : Nat → Bool) (hx : a.eval x = .pointer (some ⟨w0.heap.size, 0, none⟩)) (hy : a.eval y = flV g)
    (h : ∀ W, Blk W w0.heap.size 24 (fl6 g) → Below w0.heap.size w0 W → wpList Tryd.prog ops Q rest (a.put o.dst undef) W) :
    wpList Tryd.prog ops Q (o :: rest) a (w0.alloc (.cells #[.bool false, .bool false, .bool false, .bool false, .bool false, .bool false] 24)) := by
  have k := Blk.new w0 24 (fl6 fun _ => false)
  refine store_fl hgd x y ho w0.heap.size g (fun _ => false) hx hy k (h _ (k.row _) ?_)
  exact below_rowNew ((Below.refl _ _).alloc (Nat.le_refl _) _) (Nat.le_refl _) _
theorem kDo (w : World) (tabs : Tabs w) : Calls Tryd.prog 18 #[.int .i64 3, .int .u32 4294967295, .int .u32 1, .agg #[.bool false, .bool false, .bool false, .bool false, .bool false, .bool false]] w fun e w' => e = .returned (.tuple #[.int .u32 0, .agg #[.bool true, .bool true, .bool true, .bool true, .bool false, .bool false]]) ∧ Below w.heap.size w w' :=
  (do_add 4294967295 1 (fun _ => false) (by decide) (by decide) w tabs).mono fun e w' h => ⟨h.1.trans (by kernel_rfl), h.2⟩
theorem kShift (w : World) (tabs : Tabs w) : Calls Tryd.prog 19 #[.int .i64 23, .int .u32 2147483649, .int .u32 1, .agg #[.bool false, .bool false, .bool false, .bool false, .bool false, .bool false]] w fun e w' => e = .returned (.tuple #[.int .u32 2, .agg #[.bool true, .bool false, .bool false, .bool false, .bool false, .bool true]]) ∧ Below w.heap.size w w' :=
  (shift_shl 2147483649 1 (fun _ => false) 1 (by decide) (by decide) (by decide) (by decide) (by decide) w tabs).mono fun e w' h => ⟨h.1.trans (by kernel_rfl), h.2⟩
theorem kMul (w : World) (tabs : Tabs w) : Calls Tryd.prog 14 #[.int .i64 16, .int .u32 2147483648, .int .u32 2, .agg #[.bool false, .bool false, .bool false, .bool false, .bool false, .bool false]] w fun e w' => e = .returned (.tuple #[.int .u32 0, .int .u32 1, .agg #[.bool true, .bool false, .bool false, .bool false, .bool false, .bool true]]) ∧ Below w.heap.size w w' :=
  (mul_u 2147483648 2 (fun _ => false) (by decide) (by decide) w tabs).mono fun e w' h => ⟨h.1.trans (by kernel_rfl), h.2⟩
theorem kDiv (w : World) : Calls Tryd.prog 16 #[.int .i64 19, .int .u32 7, .int .u32 0, .int .u32 2] w fun e w' => e = .returned (.tuple #[.int .u32 3, .int .u32 1, .bool true]) ∧ Below w.heap.size w w' :=
  div_u 7 0 2 3 1 true (by decide) (by decide) (by decide) (fun w => divided_yes 7 2 (by decide) (by decide) (by decide) w) w
theorem kDivNo (w : World) : Calls Tryd.prog 16 #[.int .i64 19, .int .u32 7, .int .u32 2, .int .u32 2] w fun e w' => e = .returned (.tuple #[.int .u32 0, .int .u32 0, .bool false]) ∧ Below w.heap.size w w' :=
  div_u 7 2 2 0 0 false (by decide) (by decide) (by decide) (fun w => divided_no 8589934599 2 (by decide) (by decide) (by decide) w) w
theorem kWrites (w : World) (tabs : Tabs w) : Calls Tryd.prog 20 #[.int .i64 3] w fun e w' => e = .returned (.int .i64 63) ∧ Below w.heap.size w w' :=
  (Writes_any 3 1 (by decide) classOf_3 w tabs).mono fun e w' h => ⟨h.1.trans (by kernel_rfl), h.2⟩
theorem kReads (w : World) (tabs : Tabs w) : Calls Tryd.prog 21 #[.int .i64 5] w fun e w' => e = .returned (.int .i64 1) ∧ Below w.heap.size w w' :=
  (Reads_any 5 2 (by decide) classOf_5 w tabs).mono fun e w' h => ⟨h.1.trans (by kernel_rfl), h.2⟩
end Go.Proofs.YtgeeecoclhomiaaDoor
