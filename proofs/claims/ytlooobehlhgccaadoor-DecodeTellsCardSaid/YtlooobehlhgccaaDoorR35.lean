/- The reference: arrays looked up. -/
import Derived.Test.YtlooobehlhgccaaDoorR3
namespace Go.Proofs.YtlooobehlhgccaaDoor
open Go.RowKit
set_option linter.unusedVariables false
set_option linter.unusedSimpArgs false
set_option linter.unusedSectionVars false

theorem ix_sh (n : Int) (h : 0 ≤ n ∧ n < 8) (W : World) : (Instr.index 40 (.agg sA) (.int .i64 n)).run Tryd.prog W = .ok (.int .i64 (shN n)) W := by
  rcases (by omega : n = 0 ∨ n = 1 ∨ n = 2 ∨ n = 3 ∨ n = 4 ∨ n = 5 ∨ n = 6 ∨ n = 7) with rfl | rfl | rfl | rfl | rfl | rfl | rfl | rfl <;> kernel_rfl
theorem ix_nu (n : Int) (h : 0 ≤ n ∧ n < 8) (W : World) : (Instr.index 40 (.agg nA) (.int .i64 n)).run Tryd.prog W = .ok (.int .i64 (nuN n)) W := by
  rcases (by omega : n = 0 ∨ n = 1 ∨ n = 2 ∨ n = 3 ∨ n = 4 ∨ n = 5 ∨ n = 6 ∨ n = 7) with rfl | rfl | rfl | rfl | rfl | rfl | rfl | rfl <;> kernel_rfl
theorem ix_gr (n : Int) (h : 0 ≤ n ∧ n < 8) (W : World) : (Instr.index 40 (.agg gA) (.int .i64 n)).run Tryd.prog W = .ok (.int .i64 (3 + n)) W := by
  rcases (by omega : n = 0 ∨ n = 1 ∨ n = 2 ∨ n = 3 ∨ n = 4 ∨ n = 5 ∨ n = 6 ∨ n = 7) with rfl | rfl | rfl | rfl | rfl | rfl | rfl | rfl <;> kernel_rfl
end Go.Proofs.YtlooobehlhgccaaDoor
