/- What places and operands count as. -/
import Derived.Test.YtbfkgakkkibejaaDoorC1
namespace Go.Proofs.YtbfkgakkkibejaaDoor
open Go.RowKit
set_option linter.unusedVariables false
set_option linter.unusedSimpArgs false

theorem memoryAs_any (o : On) (w : World) : Calls Tryd.prog 79 #[opV o] w fun e w' => e = .returned (.int .i64 (memA o.b o.x o.s)) ∧ Below w.heap.size w w' := by
  go_enter Tryd.func79, Tryd.ntmps79
  go_wp2_with (first | (go_at_call 85; refine (isRegister_any o.b _).mono ?_; rintro e w' ⟨rfl, rfl⟩) | (go_at_call 86; refine (isIndex_any o.x o.s _).mono ?_; rintro e w' ⟨rfl, rfl⟩))
  all_goals go_ret
  all_goals refine ⟨ret_int ?_, (Below.refl _ _).alloc (Nat.le_refl _) _⟩
  all_goals unfold memA
  all_goals (first | (simp_all [Bool.cond_eq_ite]; done) | (simp_all [Bool.cond_eq_ite]; omega))
theorem countsAs_none (w : World) : Calls Tryd.prog 57 #[opV onZ] w fun e w' => e = .returned (.int .i64 (cA onZ)) ∧ Below w.heap.size w w' := by
  unfold onZ
  go_enter Tryd.func57, Tryd.ntmps57
  go_wp2
  go_ret
  exact ⟨rfl, (Below.refl _ _).alloc (Nat.le_refl _) _⟩
theorem countsAs_reg (r : Int) (w : World) : Calls Tryd.prog 57 #[opV (onReg r)] w fun e w' => e = .returned (.int .i64 (regA r)) ∧ Below w.heap.size w w' := by
  unfold onReg
  go_enter Tryd.func57, Tryd.ntmps57
  go_wp2_with (first | (go_at_call 77; refine (registerAs_any r _).mono ?_; rintro e w' ⟨rfl, rfl⟩))
  go_ret
  exact ⟨rfl, (Below.refl _ _).alloc (Nat.le_refl _) _⟩
theorem countsAs_imm (m : Int) (w : World) : Calls Tryd.prog 57 #[opV (onImm m)] w fun e w' => e = .returned (.int .i64 (numA m)) ∧ Below w.heap.size w w' := by
  unfold onImm
  go_enter Tryd.func57, Tryd.ntmps57
  go_wp2_with (first | (go_at_call 78; refine (numberAs_any m _).mono ?_; rintro e w' ⟨rfl, rfl⟩))
  go_ret
  exact ⟨rfl, (Below.refl _ _).alloc (Nat.le_refl _) _⟩
theorem countsAs_mem (m b x s : Int) (w : World) : Calls Tryd.prog 57 #[opV (onMem m b x s)] w fun e w' => e = .returned (.int .i64 (memA b x s)) ∧ Below w.heap.size w w' := by
  unfold onMem
  have hM := Lib.hid (fun W => memoryAs_any ⟨3, 0, m, b, x, s⟩ W)
  go_enter Tryd.func57, Tryd.ntmps57
  go_wp2_with (with_reducible refine (hM.out _).mono ?_; rintro e w1 ⟨rfl, bb⟩)
  go_ret
  exact ⟨rfl, ((Below.refl _ _).alloc (Nat.le_refl _) _).trans (bb.mono (by simp))⟩
end Go.Proofs.YtbfkgakkkibejaaDoor
