/- The small functions: registers, scales, indices; what operands count as. -/
import Derived.Test.YtlooobehlhgccaaDoorC0
namespace Go.Proofs.YtlooobehlhgccaaDoor
open Go.RowKit
set_option linter.unusedVariables false
set_option linter.unusedSimpArgs false

theorem isRegister_any (r : Int) (w : World) : Calls Tryd.prog 68 #[.int .i64 r] w fun e w' => e = .returned (.bool (isRegB r)) ∧ w = w' := by
  go_enter Tryd.func68, Tryd.ntmps68
  go_wp2
  all_goals go_ret
  all_goals refine ⟨ret_bool ?_, rfl⟩
  all_goals unfold isRegB
  all_goals (first | (simp_all [Bool.cond_eq_ite]; done) | (simp_all [Bool.cond_eq_ite]; omega))
theorem isScale_any (s : Int) (w : World) : Calls Tryd.prog 70 #[.int .u32 s] w fun e w' => e = .returned (.bool (isScaleB s)) ∧ w = w' := by
  go_enter Tryd.func70, Tryd.ntmps70
  go_wp2
  all_goals go_ret
  all_goals refine ⟨ret_bool ?_, rfl⟩
  all_goals unfold isScaleB
  all_goals (first | (simp_all [Bool.cond_eq_ite]; done) | (simp_all [Bool.cond_eq_ite]; omega))
theorem isIndex_any (x s : Int) (w : World) : Calls Tryd.prog 69 #[.int .i64 x, .int .u32 s] w fun e w' => e = .returned (.bool (isIndexB x s)) ∧ w = w' := by
  go_enter Tryd.func69, Tryd.ntmps69
  go_wp2_with (first | (go_at_call 68; refine (isRegister_any x _).mono ?_; rintro e w' ⟨rfl, rfl⟩) | (go_at_call 70; refine (isScale_any s _).mono ?_; rintro e w' ⟨rfl, rfl⟩))
  all_goals go_ret
  all_goals refine ⟨ret_bool ?_, rfl⟩
  all_goals unfold isIndexB
  all_goals (first | (simp_all [Bool.cond_eq_ite]; done) | (simp_all [Bool.cond_eq_ite]; omega))
theorem registerAs_any (r : Int) (w : World) : Calls Tryd.prog 65 #[.int .i64 r] w fun e w' => e = .returned (.int .i64 (regA r)) ∧ w = w' := by
  go_enter Tryd.func65, Tryd.ntmps65
  go_wp2_with (first | (go_at_call 68; refine (isRegister_any r _).mono ?_; rintro e w' ⟨rfl, rfl⟩))
  all_goals go_ret
  all_goals refine ⟨ret_int ?_, rfl⟩
  all_goals unfold regA
  all_goals (first | (simp_all [Bool.cond_eq_ite]; done) | (simp_all [Bool.cond_eq_ite]; omega))
theorem numberAs_any (n : Int) (w : World) : Calls Tryd.prog 66 #[.int .u32 n] w fun e w' => e = .returned (.int .i64 (numA n)) ∧ w = w' := by
  go_enter Tryd.func66, Tryd.ntmps66
  go_wp2
  all_goals go_ret
  all_goals refine ⟨ret_int ?_, rfl⟩
  all_goals unfold numA
  all_goals (first | (simp_all [Bool.cond_eq_ite]; done) | (simp_all [Bool.cond_eq_ite]; omega))
end Go.Proofs.YtlooobehlhgccaaDoor
