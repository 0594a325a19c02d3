import Derived.Test.YtcdoidnfdkodoaaGreatDoorS14
namespace Go.Proofs.YtcdoidnfdkodoaaGreatDoor
open Go.RowKit
set_option linter.unusedVariables false
set_option linter.unusedSimpArgs false
theorem isRegister_any (r : Int) (w : World) : Calls Tryz.prog 194 #[.int .i64 r] w fun e w' => e = .returned (.bool (isRegB r)) ∧ w = w' := by
  go_enter Tryz.func194, Tryz.ntmps194
  go_wp2
  all_goals go_ret
  all_goals refine ⟨ret_bool ?_, rfl⟩
  all_goals unfold isRegB
  all_goals (first | (simp_all [Bool.cond_eq_ite]; done) | (simp_all [Bool.cond_eq_ite]; omega))
theorem isScale_any (s : Int) (w : World) : Calls Tryz.prog 225 #[.int .u32 s] w fun e w' => e = .returned (.bool (isScaleB s)) ∧ w = w' := by
  go_enter Tryz.func225, Tryz.ntmps225
  go_wp2
  all_goals go_ret
  all_goals refine ⟨ret_bool ?_, rfl⟩
  all_goals unfold isScaleB
  all_goals (first | (simp_all [Bool.cond_eq_ite]; done) | (simp_all [Bool.cond_eq_ite]; omega))
theorem isIndex_any (x s : Int) (w : World) : Calls Tryz.prog 195 #[.int .i64 x, .int .u32 s] w fun e w' => e = .returned (.bool (isIndexB x s)) ∧ w = w' := by
  go_enter Tryz.func195, Tryz.ntmps195
  go_wp2_with (first | (go_at_call 194; refine (isRegister_any x _).mono ?_; rintro e w' ⟨rfl, rfl⟩) | (go_at_call 225; refine (isScale_any s _).mono ?_; rintro e w' ⟨rfl, rfl⟩))
  all_goals go_ret
  all_goals refine ⟨ret_bool ?_, rfl⟩
  all_goals unfold isIndexB
  all_goals (first | (simp_all [Bool.cond_eq_ite]; done) | (simp_all [Bool.cond_eq_ite]; omega))
theorem registerAs_any (r : Int) (w : World) : Calls Tryz.prog 150 #[.int .i64 r] w fun e w' => e = .returned (.int .i64 (regA r)) ∧ w = w' := by
  go_enter Tryz.func150, Tryz.ntmps150
  go_wp2_with (first | (go_at_call 194; refine (isRegister_any r _).mono ?_; rintro e w' ⟨rfl, rfl⟩))
  all_goals go_ret
  all_goals refine ⟨ret_int ?_, rfl⟩
  all_goals unfold regA
  all_goals (first | (simp_all [Bool.cond_eq_ite]; done) | (simp_all [Bool.cond_eq_ite]; omega))
theorem numberAs_any (n : Int) (w : World) : Calls Tryz.prog 151 #[.int .u32 n] w fun e w' => e = .returned (.int .i64 (numA n)) ∧ w = w' := by
  go_enter Tryz.func151, Tryz.ntmps151
  go_wp2
  all_goals go_ret
  all_goals refine ⟨ret_int ?_, rfl⟩
  all_goals unfold numA
  all_goals (first | (simp_all [Bool.cond_eq_ite]; done) | (simp_all [Bool.cond_eq_ite]; omega))
end Go.Proofs.YtcdoidnfdkodoaaGreatDoor
namespace Go.Proofs.YtcdoidnfdkodoaaGreatDoor
open Go.RowKit
set_option linter.unusedVariables false
set_option linter.unusedSimpArgs false
theorem memoryAs_any (o : On) (w : World) : Calls Tryz.prog 152 #[opV o] w fun e w' => e = .returned (.int .i64 (memA o.b o.x o.s)) ∧ Below w.heap.size w w' := by
  go_enter Tryz.func152, Tryz.ntmps152
  go_wp2_with (first | (go_at_call 194; refine (isRegister_any o.b _).mono ?_; rintro e w' ⟨rfl, rfl⟩) | (go_at_call 195; refine (isIndex_any o.x o.s _).mono ?_; rintro e w' ⟨rfl, rfl⟩))
  all_goals go_ret
  all_goals refine ⟨ret_int ?_, (Below.refl _ _).alloc (Nat.le_refl _) _⟩
  all_goals unfold memA
  all_goals (first | (simp_all [Bool.cond_eq_ite]; done) | (simp_all [Bool.cond_eq_ite]; omega))
theorem countsAs_none (w : World) : Calls Tryz.prog 117 #[opV onZ] w fun e w' => e = .returned (.int .i64 (cA onZ)) ∧ Below w.heap.size w w' := by
  unfold onZ
  go_enter Tryz.func117, Tryz.ntmps117
  go_wp2
  go_ret
  exact ⟨rfl, (Below.refl _ _).alloc (Nat.le_refl _) _⟩
theorem countsAs_reg (r : Int) (w : World) : Calls Tryz.prog 117 #[opV (onReg r)] w fun e w' => e = .returned (.int .i64 (regA r)) ∧ Below w.heap.size w w' := by
  unfold onReg
  go_enter Tryz.func117, Tryz.ntmps117
  go_wp2_with (first | (go_at_call 150; refine (registerAs_any r _).mono ?_; rintro e w' ⟨rfl, rfl⟩))
  go_ret
  exact ⟨rfl, (Below.refl _ _).alloc (Nat.le_refl _) _⟩
theorem countsAs_imm (m : Int) (w : World) : Calls Tryz.prog 117 #[opV (onImm m)] w fun e w' => e = .returned (.int .i64 (numA m)) ∧ Below w.heap.size w w' := by
  unfold onImm
  go_enter Tryz.func117, Tryz.ntmps117
  go_wp2_with (first | (go_at_call 151; refine (numberAs_any m _).mono ?_; rintro e w' ⟨rfl, rfl⟩))
  go_ret
  exact ⟨rfl, (Below.refl _ _).alloc (Nat.le_refl _) _⟩
theorem countsAs_mem (m b x s : Int) (w : World) : Calls Tryz.prog 117 #[opV (onMem m b x s)] w fun e w' => e = .returned (.int .i64 (memA b x s)) ∧ Below w.heap.size w w' := by
  unfold onMem
  have hM := Lib.hid (fun W => memoryAs_any ⟨3, 0, m, b, x, s⟩ W)
  go_enter Tryz.func117, Tryz.ntmps117
  go_wp2_with (with_reducible refine (hM.out _).mono ?_; rintro e w1 ⟨rfl, bb⟩)
  go_ret
  exact ⟨rfl, ((Below.refl _ _).alloc (Nat.le_refl _) _).trans (bb.mono (by simp))⟩
end Go.Proofs.YtcdoidnfdkodoaaGreatDoor
