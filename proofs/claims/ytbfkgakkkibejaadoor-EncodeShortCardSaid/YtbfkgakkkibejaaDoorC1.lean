/- The small functions: registers, scales, indices; what operands count as. -/
import Derived.Test.YtbfkgakkkibejaaDoorC0
namespace Go.Proofs.YtbfkgakkkibejaaDoor
open Go.RowKit
set_option linter.unusedVariables false
set_option linter.unusedSimpArgs false

theorem isRegister_any (r : Int) (w : World) : Calls Tryd.prog 85 #[.int .i64 r] w fun e w' => e = .returned (.bool (isRegB r)) ∧ w = w' := by
  go_enter Tryd.func85, Tryd.ntmps85
  go_wp2
  all_goals go_ret
  all_goals refine ⟨ret_bool ?_, rfl⟩
  all_goals unfold isRegB
  all_goals (first | (simp_all [Bool.cond_eq_ite]; done) | (simp_all [Bool.cond_eq_ite]; omega))
theorem isScale_any (s : Int) (w : World) : Calls Tryd.prog 91 #[.int .u32 s] w fun e w' => e = .returned (.bool (isScaleB s)) ∧ w = w' := by
  go_enter Tryd.func91, Tryd.ntmps91
  go_wp2
  all_goals go_ret
  all_goals refine ⟨ret_bool ?_, rfl⟩
  all_goals unfold isScaleB
  all_goals (first | (simp_all [Bool.cond_eq_ite]; done) | (simp_all [Bool.cond_eq_ite]; omega))
theorem isIndex_any (x s : Int) (w : World) : Calls Tryd.prog 86 #[.int .i64 x, .int .u32 s] w fun e w' => e = .returned (.bool (isIndexB x s)) ∧ w = w' := by
  go_enter Tryd.func86, Tryd.ntmps86
  go_wp2_with (first | (go_at_call 85; refine (isRegister_any x _).mono ?_; rintro e w' ⟨rfl, rfl⟩) | (go_at_call 91; refine (isScale_any s _).mono ?_; rintro e w' ⟨rfl, rfl⟩))
  all_goals go_ret
  all_goals refine ⟨ret_bool ?_, rfl⟩
  all_goals unfold isIndexB
  all_goals (first | (simp_all [Bool.cond_eq_ite]; done) | (simp_all [Bool.cond_eq_ite]; omega))
theorem registerAs_any (r : Int) (w : World) : Calls Tryd.prog 77 #[.int .i64 r] w fun e w' => e = .returned (.int .i64 (regA r)) ∧ w = w' := by
  go_enter Tryd.func77, Tryd.ntmps77
  go_wp2_with (first | (go_at_call 85; refine (isRegister_any r _).mono ?_; rintro e w' ⟨rfl, rfl⟩))
  all_goals go_ret
  all_goals refine ⟨ret_int ?_, rfl⟩
  all_goals unfold regA
  all_goals (first | (simp_all [Bool.cond_eq_ite]; done) | (simp_all [Bool.cond_eq_ite]; omega))
theorem numberAs_any (n : Int) (w : World) : Calls Tryd.prog 78 #[.int .u32 n] w fun e w' => e = .returned (.int .i64 (numA n)) ∧ w = w' := by
  go_enter Tryd.func78, Tryd.ntmps78
  go_wp2
  all_goals go_ret
  all_goals refine ⟨ret_int ?_, rfl⟩
  all_goals unfold numA
  all_goals (first | (simp_all [Bool.cond_eq_ite]; done) | (simp_all [Bool.cond_eq_ite]; omega))
end Go.Proofs.YtbfkgakkkibejaaDoor
