import Derived.Test.YtcgleggdochbeaaDoorS27
namespace Go.Proofs.YtcgleggdochbeaaDoor
open Go.RowKit
set_option maxRecDepth 100000
set_option linter.unusedVariables false
set_option linter.unusedSimpArgs false
set_option linter.unusedSectionVars false
theorem summing_any (n : Int) (h : 0 ≤ n ∧ n ≤ 7) (w : World) : Calls Tryd.prog 59 #[.int .i64 n] w fun e w' => ∃ v, e = .returned v ∧ OwnR w' w.heap.size v (sumE n) ∧ Below w.heap.size w w' := by
 have h1 : IntKind.i64.wrap (8 * n) = 8 * n := by rw [IntKind.wrap_i64]; omega
 have h2 : IntKind.i64.wrap (8 * n + 1) = 8 * n + 1 := by rw [IntKind.wrap_i64]; omega
 have h3 : IntKind.i64.wrap (8 * n + 3) = 8 * n + 3 := by rw [IntKind.wrap_i64]; omega
 have h4 : IntKind.i64.wrap (8 * n + 5) = 8 * n + 5 := by rw [IntKind.wrap_i64]; omega
 go_enter Tryd.func59, Tryd.ntmps59
 go_wp2_with fail
 go_ret
 exact ⟨_, rfl, OwnR.new w w.heap.size (Nat.le_refl _) (sumE n) (by simp [sumE]) rfl, (Below.refl _ _).alloc (Nat.le_refl _) _⟩
theorem turning_any (n : Int) (w : World) : Calls Tryd.prog 60 #[.int .i64 n] w fun e w' => ∃ v, e = .returned v ∧ OwnR w' w.heap.size v (turE n) ∧ Below w.heap.size w w' := by
 go_enter Tryd.func60, Tryd.ntmps60
 go_wp2_with fail
 go_ret
 exact ⟨_, rfl, OwnR.new w w.heap.size (Nat.le_refl _) (turE n) (by simp [turE]) rfl, (Below.refl _ _).alloc (Nat.le_refl _) _⟩
theorem rk_3 (w : World) : Calls Tryd.prog 29 #[.int .i64 3] w fun e w' => ∃ v, e = .returned v ∧ OwnR w' w.heap.size v (sumE 0) ∧ Below w.heap.size w w' := by
 have hS := Lib.hid (summing_any 0 (by decide) w)
 go_enter Tryd.func29, Tryd.ntmps29
 go_wp2_with ((with_reducible refine hS.out.mono ?_); rintro e W1 ⟨v, rfl, O1, b1⟩)
 go_ret
 exact ⟨_, rfl, O1, b1⟩
theorem rk_4 (w : World) : Calls Tryd.prog 29 #[.int .i64 4] w fun e w' => ∃ v, e = .returned v ∧ OwnR w' w.heap.size v (sumE 1) ∧ Below w.heap.size w w' := by
 have hS := Lib.hid (summing_any 1 (by decide) w)
 go_enter Tryd.func29, Tryd.ntmps29
 go_wp2_with ((with_reducible refine hS.out.mono ?_); rintro e W1 ⟨v, rfl, O1, b1⟩)
 go_ret
 exact ⟨_, rfl, O1, b1⟩
theorem rk_5 (w : World) : Calls Tryd.prog 29 #[.int .i64 5] w fun e w' => ∃ v, e = .returned v ∧ OwnR w' w.heap.size v (sumE 2) ∧ Below w.heap.size w w' := by
 have hS := Lib.hid (summing_any 2 (by decide) w)
 go_enter Tryd.func29, Tryd.ntmps29
 go_wp2_with ((with_reducible refine hS.out.mono ?_); rintro e W1 ⟨v, rfl, O1, b1⟩)
 go_ret
 exact ⟨_, rfl, O1, b1⟩
theorem rk_6 (w : World) : Calls Tryd.prog 29 #[.int .i64 6] w fun e w' => ∃ v, e = .returned v ∧ OwnR w' w.heap.size v (sumE 3) ∧ Below w.heap.size w w' := by
 have hS := Lib.hid (summing_any 3 (by decide) w)
 go_enter Tryd.func29, Tryd.ntmps29
 go_wp2_with ((with_reducible refine hS.out.mono ?_); rintro e W1 ⟨v, rfl, O1, b1⟩)
 go_ret
 exact ⟨_, rfl, O1, b1⟩
theorem rk_7 (w : World) : Calls Tryd.prog 29 #[.int .i64 7] w fun e w' => ∃ v, e = .returned v ∧ OwnR w' w.heap.size v (sumE 4) ∧ Below w.heap.size w w' := by
 have hS := Lib.hid (summing_any 4 (by decide) w)
 go_enter Tryd.func29, Tryd.ntmps29
 go_wp2_with ((with_reducible refine hS.out.mono ?_); rintro e W1 ⟨v, rfl, O1, b1⟩)
 go_ret
 exact ⟨_, rfl, O1, b1⟩
theorem rk_8 (w : World) : Calls Tryd.prog 29 #[.int .i64 8] w fun e w' => ∃ v, e = .returned v ∧ OwnR w' w.heap.size v (sumE 5) ∧ Below w.heap.size w w' := by
 have hS := Lib.hid (summing_any 5 (by decide) w)
 go_enter Tryd.func29, Tryd.ntmps29
 go_wp2_with ((with_reducible refine hS.out.mono ?_); rintro e W1 ⟨v, rfl, O1, b1⟩)
 go_ret
 exact ⟨_, rfl, O1, b1⟩
theorem rk_9 (w : World) : Calls Tryd.prog 29 #[.int .i64 9] w fun e w' => ∃ v, e = .returned v ∧ OwnR w' w.heap.size v (sumE 6) ∧ Below w.heap.size w w' := by
 have hS := Lib.hid (summing_any 6 (by decide) w)
 go_enter Tryd.func29, Tryd.ntmps29
 go_wp2_with ((with_reducible refine hS.out.mono ?_); rintro e W1 ⟨v, rfl, O1, b1⟩)
 go_ret
 exact ⟨_, rfl, O1, b1⟩
theorem rk_10 (w : World) : Calls Tryd.prog 29 #[.int .i64 10] w fun e w' => ∃ v, e = .returned v ∧ OwnR w' w.heap.size v (sumE 7) ∧ Below w.heap.size w w' := by
 have hS := Lib.hid (summing_any 7 (by decide) w)
 go_enter Tryd.func29, Tryd.ntmps29
 go_wp2_with ((with_reducible refine hS.out.mono ?_); rintro e W1 ⟨v, rfl, O1, b1⟩)
 go_ret
 exact ⟨_, rfl, O1, b1⟩
theorem rk_11 (w : World) : Calls Tryd.prog 29 #[.int .i64 11] w fun e w' => ∃ v, e = .returned v ∧ OwnR w' w.heap.size v ([⟨133, 0, 3, 2⟩, ⟨169, 0, 0, 5⟩, ⟨247, 0, 3, 5⟩]) ∧ Below w.heap.size w w' := by
 go_enter Tryd.func29, Tryd.ntmps29
 go_wp2_with fail
 go_ret
 exact ⟨_, rfl, OwnR.new w w.heap.size (Nat.le_refl _) [⟨133, 0, 3, 2⟩, ⟨169, 0, 0, 5⟩, ⟨247, 0, 3, 5⟩] (by decide) rfl, (Below.refl _ _).alloc (Nat.le_refl _) _⟩
theorem rk_12 (w : World) : Calls Tryd.prog 29 #[.int .i64 12] w fun e w' => ∃ v, e = .returned v ∧ OwnR w' w.heap.size v ([⟨64, 0, 1, 0⟩, ⟨255, 0, 3, 0⟩]) ∧ Below w.heap.size w w' := by
 go_enter Tryd.func29, Tryd.ntmps29
 go_wp2_with fail
 go_ret
 exact ⟨_, rfl, OwnR.new w w.heap.size (Nat.le_refl _) [⟨64, 0, 1, 0⟩, ⟨255, 0, 3, 0⟩] (by decide) rfl, (Below.refl _ _).alloc (Nat.le_refl _) _⟩
theorem rk_13 (w : World) : Calls Tryd.prog 29 #[.int .i64 13] w fun e w' => ∃ v, e = .returned v ∧ OwnR w' w.heap.size v ([⟨72, 0, 1, 0⟩, ⟨255, 1, 3, 0⟩]) ∧ Below w.heap.size w w' := by
 go_enter Tryd.func29, Tryd.ntmps29
 go_wp2_with fail
 go_ret
 exact ⟨_, rfl, OwnR.new w w.heap.size (Nat.le_refl _) [⟨72, 0, 1, 0⟩, ⟨255, 1, 3, 0⟩] (by decide) rfl, (Below.refl _ _).alloc (Nat.le_refl _) _⟩
theorem rk_14 (w : World) : Calls Tryd.prog 29 #[.int .i64 14] w fun e w' => ∃ v, e = .returned v ∧ OwnR w' w.heap.size v ([⟨247, 2, 3, 0⟩]) ∧ Below w.heap.size w w' := by
 go_enter Tryd.func29, Tryd.ntmps29
 go_wp2_with fail
 go_ret
 exact ⟨_, rfl, OwnR.new w w.heap.size (Nat.le_refl _) [⟨247, 2, 3, 0⟩] (by decide) rfl, (Below.refl _ _).alloc (Nat.le_refl _) _⟩
theorem rk_15 (w : World) : Calls Tryd.prog 29 #[.int .i64 15] w fun e w' => ∃ v, e = .returned v ∧ OwnR w' w.heap.size v ([⟨247, 3, 3, 0⟩]) ∧ Below w.heap.size w w' := by
 go_enter Tryd.func29, Tryd.ntmps29
 go_wp2_with fail
 go_ret
 exact ⟨_, rfl, OwnR.new w w.heap.size (Nat.le_refl _) [⟨247, 3, 3, 0⟩] (by decide) rfl, (Below.refl _ _).alloc (Nat.le_refl _) _⟩
theorem rk_16 (w : World) : Calls Tryd.prog 29 #[.int .i64 16] w fun e w' => ∃ v, e = .returned v ∧ OwnR w' w.heap.size v ([⟨247, 4, 3, 0⟩]) ∧ Below w.heap.size w w' := by
 go_enter Tryd.func29, Tryd.ntmps29
 go_wp2_with fail
 go_ret
 exact ⟨_, rfl, OwnR.new w w.heap.size (Nat.le_refl _) [⟨247, 4, 3, 0⟩] (by decide) rfl, (Below.refl _ _).alloc (Nat.le_refl _) _⟩
theorem rk_17 (w : World) : Calls Tryd.prog 29 #[.int .i64 17] w fun e w' => ∃ v, e = .returned v ∧ OwnR w' w.heap.size v ([⟨247, 5, 3, 0⟩]) ∧ Below w.heap.size w w' := by
 go_enter Tryd.func29, Tryd.ntmps29
 go_wp2_with fail
 go_ret
 exact ⟨_, rfl, OwnR.new w w.heap.size (Nat.le_refl _) [⟨247, 5, 3, 0⟩] (by decide) rfl, (Below.refl _ _).alloc (Nat.le_refl _) _⟩
theorem rk_18 (w : World) : Calls Tryd.prog 29 #[.int .i64 18] w fun e w' => ∃ v, e = .returned v ∧ OwnR w' w.heap.size v ([⟨4015, 0, 2, 3⟩]) ∧ Below w.heap.size w w' := by
 go_enter Tryd.func29, Tryd.ntmps29
 go_wp2_with fail
 go_ret
 exact ⟨_, rfl, OwnR.new w w.heap.size (Nat.le_refl _) [⟨4015, 0, 2, 3⟩] (by decide) rfl, (Below.refl _ _).alloc (Nat.le_refl _) _⟩
theorem rk_19 (w : World) : Calls Tryd.prog 29 #[.int .i64 19] w fun e w' => ∃ v, e = .returned v ∧ OwnR w' w.heap.size v ([⟨247, 6, 3, 0⟩]) ∧ Below w.heap.size w w' := by
 go_enter Tryd.func29, Tryd.ntmps29
 go_wp2_with fail
 go_ret
 exact ⟨_, rfl, OwnR.new w w.heap.size (Nat.le_refl _) [⟨247, 6, 3, 0⟩] (by decide) rfl, (Below.refl _ _).alloc (Nat.le_refl _) _⟩
theorem rk_20 (w : World) : Calls Tryd.prog 29 #[.int .i64 20] w fun e w' => ∃ v, e = .returned v ∧ OwnR w' w.heap.size v ([⟨247, 7, 3, 0⟩]) ∧ Below w.heap.size w w' := by
 go_enter Tryd.func29, Tryd.ntmps29
 go_wp2_with fail
 go_ret
 exact ⟨_, rfl, OwnR.new w w.heap.size (Nat.le_refl _) [⟨247, 7, 3, 0⟩] (by decide) rfl, (Below.refl _ _).alloc (Nat.le_refl _) _⟩
theorem rk_21 (w : World) : Calls Tryd.prog 29 #[.int .i64 21] w fun e w' => ∃ v, e = .returned v ∧ OwnR w' w.heap.size v (turE 0) ∧ Below w.heap.size w w' := by
 have hS := Lib.hid (turning_any 0 w)
 go_enter Tryd.func29, Tryd.ntmps29
 go_wp2_with ((with_reducible refine hS.out.mono ?_); rintro e W1 ⟨v, rfl, O1, b1⟩)
 go_ret
 exact ⟨_, rfl, O1, b1⟩
theorem rk_22 (w : World) : Calls Tryd.prog 29 #[.int .i64 22] w fun e w' => ∃ v, e = .returned v ∧ OwnR w' w.heap.size v (turE 1) ∧ Below w.heap.size w w' := by
 have hS := Lib.hid (turning_any 1 w)
 go_enter Tryd.func29, Tryd.ntmps29
 go_wp2_with ((with_reducible refine hS.out.mono ?_); rintro e W1 ⟨v, rfl, O1, b1⟩)
 go_ret
 exact ⟨_, rfl, O1, b1⟩
theorem rk_23 (w : World) : Calls Tryd.prog 29 #[.int .i64 23] w fun e w' => ∃ v, e = .returned v ∧ OwnR w' w.heap.size v (turE 4) ∧ Below w.heap.size w w' := by
 have hS := Lib.hid (turning_any 4 w)
 go_enter Tryd.func29, Tryd.ntmps29
 go_wp2_with ((with_reducible refine hS.out.mono ?_); rintro e W1 ⟨v, rfl, O1, b1⟩)
 go_ret
 exact ⟨_, rfl, O1, b1⟩
theorem rk_24 (w : World) : Calls Tryd.prog 29 #[.int .i64 24] w fun e w' => ∃ v, e = .returned v ∧ OwnR w' w.heap.size v (turE 5) ∧ Below w.heap.size w w' := by
 have hS := Lib.hid (turning_any 5 w)
 go_enter Tryd.func29, Tryd.ntmps29
 go_wp2_with ((with_reducible refine hS.out.mono ?_); rintro e W1 ⟨v, rfl, O1, b1⟩)
 go_ret
 exact ⟨_, rfl, O1, b1⟩
theorem rk_25 (w : World) : Calls Tryd.prog 29 #[.int .i64 25] w fun e w' => ∃ v, e = .returned v ∧ OwnR w' w.heap.size v (turE 7) ∧ Below w.heap.size w w' := by
 have hS := Lib.hid (turning_any 7 w)
 go_enter Tryd.func29, Tryd.ntmps29
 go_wp2_with ((with_reducible refine hS.out.mono ?_); rintro e W1 ⟨v, rfl, O1, b1⟩)
 go_ret
 exact ⟨_, rfl, O1, b1⟩
theorem rk_none (op : Int) (h3 : (op == 3) = false) (h4 : (op == 4) = false) (h5 : (op == 5) = false) (h6 : (op == 6) = false) (h7 : (op == 7) = false) (h8 : (op == 8) = false) (h9 : (op == 9) = false) (h10 : (op == 10) = false) (h11 : (op == 11) = false) (h12 : (op == 12) = false) (h13 : (op == 13) = false) (h14 : (op == 14) = false) (h15 : (op == 15) = false) (h16 : (op == 16) = false) (h17 : (op == 17) = false) (h18 : (op == 18) = false) (h19 : (op == 19) = false) (h20 : (op == 20) = false) (h21 : (op == 21) = false) (h22 : (op == 22) = false) (h23 : (op == 23) = false) (h24 : (op == 24) = false) (h25 : (op == 25) = false) (w : World) : Calls Tryd.prog 29 #[.int .i64 op] w fun e w' => ∃ v, e = .returned v ∧ OwnR w' w.heap.size v [] ∧ Below w.heap.size w w' := by
 go_enter Tryd.func29, Tryd.ntmps29
 go_wp2_with fail
 go_ret
 exact ⟨_, rfl, OwnR.nil _ _, Below.refl _ _⟩
theorem rk_any (n : Nat) (hn : n < 54) (w : World) : Calls Tryd.prog 29 #[.int .i64 (n : Int)] w fun e w' => ∃ v, e = .returned v ∧ OwnR w' w.heap.size v (rkE (n : Int)) ∧ Below w.heap.size w w' := by
 rcases (by omega : n = 0 ∨ n = 1 ∨ n = 2 ∨ n = 3 ∨ n = 4 ∨ n = 5 ∨ n = 6 ∨ n = 7 ∨ n = 8 ∨ n = 9 ∨ n = 10 ∨ n = 11 ∨ n = 12 ∨ n = 13 ∨ n = 14 ∨ n = 15 ∨ n = 16 ∨ n = 17 ∨ n = 18 ∨ n = 19 ∨ n = 20 ∨ n = 21 ∨ n = 22 ∨ n = 23 ∨ n = 24 ∨ n = 25 ∨ n = 26 ∨ n = 27 ∨ n = 28 ∨ n = 29 ∨ n = 30 ∨ n = 31 ∨ n = 32 ∨ n = 33 ∨ n = 34 ∨ n = 35 ∨ n = 36 ∨ n = 37 ∨ n = 38 ∨ n = 39 ∨ n = 40 ∨ n = 41 ∨ n = 42 ∨ n = 43 ∨ n = 44 ∨ n = 45 ∨ n = 46 ∨ n = 47 ∨ n = 48 ∨ n = 49 ∨ n = 50 ∨ n = 51 ∨ n = 52 ∨ n = 53) with rfl | rfl | rfl | rfl | rfl | rfl | rfl | rfl | rfl | rfl | rfl | rfl | rfl | rfl | rfl | rfl | rfl | rfl | rfl | rfl | rfl | rfl | rfl | rfl | rfl | rfl | rfl | rfl | rfl | rfl | rfl | rfl | rfl | rfl | rfl | rfl | rfl | rfl | rfl | rfl | rfl | rfl | rfl | rfl | rfl | rfl | rfl | rfl | rfl | rfl | rfl | rfl | rfl | rfl
 ·exact rk_none 0 rfl rfl rfl rfl rfl rfl rfl rfl rfl rfl rfl rfl rfl rfl rfl rfl rfl rfl rfl rfl rfl rfl rfl w
 ·exact rk_none 1 rfl rfl rfl rfl rfl rfl rfl rfl rfl rfl rfl rfl rfl rfl rfl rfl rfl rfl rfl rfl rfl rfl rfl w
 ·exact rk_none 2 rfl rfl rfl rfl rfl rfl rfl rfl rfl rfl rfl rfl rfl rfl rfl rfl rfl rfl rfl rfl rfl rfl rfl w
 ·exact rk_3 w
 ·exact rk_4 w
 ·exact rk_5 w
 ·exact rk_6 w
 ·exact rk_7 w
 ·exact rk_8 w
 ·exact rk_9 w
 ·exact rk_10 w
 ·exact rk_11 w
 ·exact rk_12 w
 ·exact rk_13 w
 ·exact rk_14 w
 ·exact rk_15 w
 ·exact rk_16 w
 ·exact rk_17 w
 ·exact rk_18 w
 ·exact rk_19 w
 ·exact rk_20 w
 ·exact rk_21 w
 ·exact rk_22 w
 ·exact rk_23 w
 ·exact rk_24 w
 ·exact rk_25 w
 ·exact rk_none 26 rfl rfl rfl rfl rfl rfl rfl rfl rfl rfl rfl rfl rfl rfl rfl rfl rfl rfl rfl rfl rfl rfl rfl w
 ·exact rk_none 27 rfl rfl rfl rfl rfl rfl rfl rfl rfl rfl rfl rfl rfl rfl rfl rfl rfl rfl rfl rfl rfl rfl rfl w
 ·exact rk_none 28 rfl rfl rfl rfl rfl rfl rfl rfl rfl rfl rfl rfl rfl rfl rfl rfl rfl rfl rfl rfl rfl rfl rfl w
 ·exact rk_none 29 rfl rfl rfl rfl rfl rfl rfl rfl rfl rfl rfl rfl rfl rfl rfl rfl rfl rfl rfl rfl rfl rfl rfl w
 ·exact rk_none 30 rfl rfl rfl rfl rfl rfl rfl rfl rfl rfl rfl rfl rfl rfl rfl rfl rfl rfl rfl rfl rfl rfl rfl w
 ·exact rk_none 31 rfl rfl rfl rfl rfl rfl rfl rfl rfl rfl rfl rfl rfl rfl rfl rfl rfl rfl rfl rfl rfl rfl rfl w
 ·exact rk_none 32 rfl rfl rfl rfl rfl rfl rfl rfl rfl rfl rfl rfl rfl rfl rfl rfl rfl rfl rfl rfl rfl rfl rfl w
 ·exact rk_none 33 rfl rfl rfl rfl rfl rfl rfl rfl rfl rfl rfl rfl rfl rfl rfl rfl rfl rfl rfl rfl rfl rfl rfl w
 ·exact rk_none 34 rfl rfl rfl rfl rfl rfl rfl rfl rfl rfl rfl rfl rfl rfl rfl rfl rfl rfl rfl rfl rfl rfl rfl w
 ·exact rk_none 35 rfl rfl rfl rfl rfl rfl rfl rfl rfl rfl rfl rfl rfl rfl rfl rfl rfl rfl rfl rfl rfl rfl rfl w
 ·exact rk_none 36 rfl rfl rfl rfl rfl rfl rfl rfl rfl rfl rfl rfl rfl rfl rfl rfl rfl rfl rfl rfl rfl rfl rfl w
 ·exact rk_none 37 rfl rfl rfl rfl rfl rfl rfl rfl rfl rfl rfl rfl rfl rfl rfl rfl rfl rfl rfl rfl rfl rfl rfl w
 ·exact rk_none 38 rfl rfl rfl rfl rfl rfl rfl rfl rfl rfl rfl rfl rfl rfl rfl rfl rfl rfl rfl rfl rfl rfl rfl w
 ·exact rk_none 39 rfl rfl rfl rfl rfl rfl rfl rfl rfl rfl rfl rfl rfl rfl rfl rfl rfl rfl rfl rfl rfl rfl rfl w
 ·exact rk_none 40 rfl rfl rfl rfl rfl rfl rfl rfl rfl rfl rfl rfl rfl rfl rfl rfl rfl rfl rfl rfl rfl rfl rfl w
 ·exact rk_none 41 rfl rfl rfl rfl rfl rfl rfl rfl rfl rfl rfl rfl rfl rfl rfl rfl rfl rfl rfl rfl rfl rfl rfl w
 ·exact rk_none 42 rfl rfl rfl rfl rfl rfl rfl rfl rfl rfl rfl rfl rfl rfl rfl rfl rfl rfl rfl rfl rfl rfl rfl w
 ·exact rk_none 43 rfl rfl rfl rfl rfl rfl rfl rfl rfl rfl rfl rfl rfl rfl rfl rfl rfl rfl rfl rfl rfl rfl rfl w
 ·exact rk_none 44 rfl rfl rfl rfl rfl rfl rfl rfl rfl rfl rfl rfl rfl rfl rfl rfl rfl rfl rfl rfl rfl rfl rfl w
 ·exact rk_none 45 rfl rfl rfl rfl rfl rfl rfl rfl rfl rfl rfl rfl rfl rfl rfl rfl rfl rfl rfl rfl rfl rfl rfl w
 ·exact rk_none 46 rfl rfl rfl rfl rfl rfl rfl rfl rfl rfl rfl rfl rfl rfl rfl rfl rfl rfl rfl rfl rfl rfl rfl w
 ·exact rk_none 47 rfl rfl rfl rfl rfl rfl rfl rfl rfl rfl rfl rfl rfl rfl rfl rfl rfl rfl rfl rfl rfl rfl rfl w
 ·exact rk_none 48 rfl rfl rfl rfl rfl rfl rfl rfl rfl rfl rfl rfl rfl rfl rfl rfl rfl rfl rfl rfl rfl rfl rfl w
 ·exact rk_none 49 rfl rfl rfl rfl rfl rfl rfl rfl rfl rfl rfl rfl rfl rfl rfl rfl rfl rfl rfl rfl rfl rfl rfl w
 ·exact rk_none 50 rfl rfl rfl rfl rfl rfl rfl rfl rfl rfl rfl rfl rfl rfl rfl rfl rfl rfl rfl rfl rfl rfl rfl w
 ·exact rk_none 51 rfl rfl rfl rfl rfl rfl rfl rfl rfl rfl rfl rfl rfl rfl rfl rfl rfl rfl rfl rfl rfl rfl rfl w
 ·exact rk_none 52 rfl rfl rfl rfl rfl rfl rfl rfl rfl rfl rfl rfl rfl rfl rfl rfl rfl rfl rfl rfl rfl rfl rfl w
 ·exact rk_none 53 rfl rfl rfl rfl rfl rfl rfl rfl rfl rfl rfl rfl rfl rfl rfl rfl rfl rfl rfl rfl rfl rfl rfl w
theorem mv_1 (w : World) : Calls Tryd.prog 30 #[.int .i64 1] w fun e w' => ∃ v, e = .returned v ∧ OwnR w' w.heap.size v ([⟨137, 0, 3, 2⟩, ⟨139, 0, 2, 3⟩, ⟨184, 0, 1, 5⟩, ⟨199, 0, 3, 5⟩]) ∧ Below w.heap.size w w' := by
 go_enter Tryd.func30, Tryd.ntmps30
 go_wp2_with fail
 go_ret
 exact ⟨_, rfl, OwnR.new w w.heap.size (Nat.le_refl _) [⟨137, 0, 3, 2⟩, ⟨139, 0, 2, 3⟩, ⟨184, 0, 1, 5⟩, ⟨199, 0, 3, 5⟩] (by decide) rfl, (Below.refl _ _).alloc (Nat.le_refl _) _⟩
theorem mv_2 (w : World) : Calls Tryd.prog 30 #[.int .i64 2] w fun e w' => ∃ v, e = .returned v ∧ OwnR w' w.heap.size v ([⟨136, 0, 3, 2⟩, ⟨138, 0, 2, 3⟩, ⟨176, 0, 1, 4⟩, ⟨198, 0, 3, 4⟩]) ∧ Below w.heap.size w w' := by
 go_enter Tryd.func30, Tryd.ntmps30
 go_wp2_with fail
 go_ret
 exact ⟨_, rfl, OwnR.new w w.heap.size (Nat.le_refl _) [⟨136, 0, 3, 2⟩, ⟨138, 0, 2, 3⟩, ⟨176, 0, 1, 4⟩, ⟨198, 0, 3, 4⟩] (by decide) rfl, (Below.refl _ _).alloc (Nat.le_refl _) _⟩
theorem mv_26 (w : World) : Calls Tryd.prog 30 #[.int .i64 26] w fun e w' => ∃ v, e = .returned v ∧ OwnR w' w.heap.size v ([⟨141, 0, 2, 3⟩]) ∧ Below w.heap.size w w' := by
 go_enter Tryd.func30, Tryd.ntmps30
 go_wp2_with fail
 go_ret
 exact ⟨_, rfl, OwnR.new w w.heap.size (Nat.le_refl _) [⟨141, 0, 2, 3⟩] (by decide) rfl, (Below.refl _ _).alloc (Nat.le_refl _) _⟩
theorem mv_27 (w : World) : Calls Tryd.prog 30 #[.int .i64 27] w fun e w' => ∃ v, e = .returned v ∧ OwnR w' w.heap.size v ([⟨135, 0, 3, 2⟩]) ∧ Below w.heap.size w w' := by
 go_enter Tryd.func30, Tryd.ntmps30
 go_wp2_with fail
 go_ret
 exact ⟨_, rfl, OwnR.new w w.heap.size (Nat.le_refl _) [⟨135, 0, 3, 2⟩] (by decide) rfl, (Below.refl _ _).alloc (Nat.le_refl _) _⟩
theorem mv_28 (w : World) : Calls Tryd.prog 30 #[.int .i64 28] w fun e w' => ∃ v, e = .returned v ∧ OwnR w' w.heap.size v ([⟨80, 0, 1, 0⟩, ⟨104, 0, 5, 0⟩, ⟨106, 0, 4, 0⟩, ⟨255, 6, 3, 0⟩]) ∧ Below w.heap.size w w' := by
 go_enter Tryd.func30, Tryd.ntmps30
 go_wp2_with fail
 go_ret
 exact ⟨_, rfl, OwnR.new w w.heap.size (Nat.le_refl _) [⟨80, 0, 1, 0⟩, ⟨104, 0, 5, 0⟩, ⟨106, 0, 4, 0⟩, ⟨255, 6, 3, 0⟩] (by decide) rfl, (Below.refl _ _).alloc (Nat.le_refl _) _⟩
theorem mv_29 (w : World) : Calls Tryd.prog 30 #[.int .i64 29] w fun e w' => ∃ v, e = .returned v ∧ OwnR w' w.heap.size v ([⟨88, 0, 1, 0⟩]) ∧ Below w.heap.size w w' := by
 go_enter Tryd.func30, Tryd.ntmps30
 go_wp2_with fail
 go_ret
 exact ⟨_, rfl, OwnR.new w w.heap.size (Nat.le_refl _) [⟨88, 0, 1, 0⟩] (by decide) rfl, (Below.refl _ _).alloc (Nat.le_refl _) _⟩
theorem mv_34 (w : World) : Calls Tryd.prog 30 #[.int .i64 34] w fun e w' => ∃ v, e = .returned v ∧ OwnR w' w.heap.size v ([⟨3984, 0, 3, 0⟩]) ∧ Below w.heap.size w w' := by
 go_enter Tryd.func30, Tryd.ntmps30
 go_wp2_with fail
 go_ret
 exact ⟨_, rfl, OwnR.new w w.heap.size (Nat.le_refl _) [⟨3984, 0, 3, 0⟩] (by decide) rfl, (Below.refl _ _).alloc (Nat.le_refl _) _⟩
theorem mv_35 (w : World) : Calls Tryd.prog 30 #[.int .i64 35] w fun e w' => ∃ v, e = .returned v ∧ OwnR w' w.heap.size v ([⟨3904, 0, 2, 3⟩]) ∧ Below w.heap.size w w' := by
 go_enter Tryd.func30, Tryd.ntmps30
 go_wp2_with fail
 go_ret
 exact ⟨_, rfl, OwnR.new w w.heap.size (Nat.le_refl _) [⟨3904, 0, 2, 3⟩] (by decide) rfl, (Below.refl _ _).alloc (Nat.le_refl _) _⟩
theorem mv_36 (w : World) : Calls Tryd.prog 30 #[.int .i64 36] w fun e w' => ∃ v, e = .returned v ∧ OwnR w' w.heap.size v ([⟨4022, 0, 2, 3⟩]) ∧ Below w.heap.size w w' := by
 go_enter Tryd.func30, Tryd.ntmps30
 go_wp2_with fail
 go_ret
 exact ⟨_, rfl, OwnR.new w w.heap.size (Nat.le_refl _) [⟨4022, 0, 2, 3⟩] (by decide) rfl, (Below.refl _ _).alloc (Nat.le_refl _) _⟩
theorem mv_37 (w : World) : Calls Tryd.prog 30 #[.int .i64 37] w fun e w' => ∃ v, e = .returned v ∧ OwnR w' w.heap.size v ([⟨4030, 0, 2, 3⟩]) ∧ Below w.heap.size w w' := by
 go_enter Tryd.func30, Tryd.ntmps30
 go_wp2_with fail
 go_ret
 exact ⟨_, rfl, OwnR.new w w.heap.size (Nat.le_refl _) [⟨4030, 0, 2, 3⟩] (by decide) rfl, (Below.refl _ _).alloc (Nat.le_refl _) _⟩
theorem mv_none (op : Int) (h1 : (op == 1) = false) (h2 : (op == 2) = false) (h26 : (op == 26) = false) (h27 : (op == 27) = false) (h28 : (op == 28) = false) (h29 : (op == 29) = false) (h34 : (op == 34) = false) (h35 : (op == 35) = false) (h36 : (op == 36) = false) (h37 : (op == 37) = false) (w : World) : Calls Tryd.prog 30 #[.int .i64 op] w fun e w' => ∃ v, e = .returned v ∧ OwnR w' w.heap.size v [] ∧ Below w.heap.size w w' := by
 go_enter Tryd.func30, Tryd.ntmps30
 go_wp2_with fail
 go_ret
 exact ⟨_, rfl, OwnR.nil _ _, Below.refl _ _⟩
theorem mv_any (n : Nat) (hn : n < 54) (w : World) : Calls Tryd.prog 30 #[.int .i64 (n : Int)] w fun e w' => ∃ v, e = .returned v ∧ OwnR w' w.heap.size v (mvE (n : Int)) ∧ Below w.heap.size w w' := by
 rcases (by omega : n = 0 ∨ n = 1 ∨ n = 2 ∨ n = 3 ∨ n = 4 ∨ n = 5 ∨ n = 6 ∨ n = 7 ∨ n = 8 ∨ n = 9 ∨ n = 10 ∨ n = 11 ∨ n = 12 ∨ n = 13 ∨ n = 14 ∨ n = 15 ∨ n = 16 ∨ n = 17 ∨ n = 18 ∨ n = 19 ∨ n = 20 ∨ n = 21 ∨ n = 22 ∨ n = 23 ∨ n = 24 ∨ n = 25 ∨ n = 26 ∨ n = 27 ∨ n = 28 ∨ n = 29 ∨ n = 30 ∨ n = 31 ∨ n = 32 ∨ n = 33 ∨ n = 34 ∨ n = 35 ∨ n = 36 ∨ n = 37 ∨ n = 38 ∨ n = 39 ∨ n = 40 ∨ n = 41 ∨ n = 42 ∨ n = 43 ∨ n = 44 ∨ n = 45 ∨ n = 46 ∨ n = 47 ∨ n = 48 ∨ n = 49 ∨ n = 50 ∨ n = 51 ∨ n = 52 ∨ n = 53) with rfl | rfl | rfl | rfl | rfl | rfl | rfl | rfl | rfl | rfl | rfl | rfl | rfl | rfl | rfl | rfl | rfl | rfl | rfl | rfl | rfl | rfl | rfl | rfl | rfl | rfl | rfl | rfl | rfl | rfl | rfl | rfl | rfl | rfl | rfl | rfl | rfl | rfl | rfl | rfl | rfl | rfl | rfl | rfl | rfl | rfl | rfl | rfl | rfl | rfl | rfl | rfl | rfl | rfl
 ·exact mv_none 0 rfl rfl rfl rfl rfl rfl rfl rfl rfl rfl w
 ·exact mv_1 w
 ·exact mv_2 w
 ·exact mv_none 3 rfl rfl rfl rfl rfl rfl rfl rfl rfl rfl w
 ·exact mv_none 4 rfl rfl rfl rfl rfl rfl rfl rfl rfl rfl w
 ·exact mv_none 5 rfl rfl rfl rfl rfl rfl rfl rfl rfl rfl w
 ·exact mv_none 6 rfl rfl rfl rfl rfl rfl rfl rfl rfl rfl w
 ·exact mv_none 7 rfl rfl rfl rfl rfl rfl rfl rfl rfl rfl w
 ·exact mv_none 8 rfl rfl rfl rfl rfl rfl rfl rfl rfl rfl w
 ·exact mv_none 9 rfl rfl rfl rfl rfl rfl rfl rfl rfl rfl w
 ·exact mv_none 10 rfl rfl rfl rfl rfl rfl rfl rfl rfl rfl w
 ·exact mv_none 11 rfl rfl rfl rfl rfl rfl rfl rfl rfl rfl w
 ·exact mv_none 12 rfl rfl rfl rfl rfl rfl rfl rfl rfl rfl w
 ·exact mv_none 13 rfl rfl rfl rfl rfl rfl rfl rfl rfl rfl w
 ·exact mv_none 14 rfl rfl rfl rfl rfl rfl rfl rfl rfl rfl w
 ·exact mv_none 15 rfl rfl rfl rfl rfl rfl rfl rfl rfl rfl w
 ·exact mv_none 16 rfl rfl rfl rfl rfl rfl rfl rfl rfl rfl w
 ·exact mv_none 17 rfl rfl rfl rfl rfl rfl rfl rfl rfl rfl w
 ·exact mv_none 18 rfl rfl rfl rfl rfl rfl rfl rfl rfl rfl w
 ·exact mv_none 19 rfl rfl rfl rfl rfl rfl rfl rfl rfl rfl w
 ·exact mv_none 20 rfl rfl rfl rfl rfl rfl rfl rfl rfl rfl w
 ·exact mv_none 21 rfl rfl rfl rfl rfl rfl rfl rfl rfl rfl w
 ·exact mv_none 22 rfl rfl rfl rfl rfl rfl rfl rfl rfl rfl w
 ·exact mv_none 23 rfl rfl rfl rfl rfl rfl rfl rfl rfl rfl w
 ·exact mv_none 24 rfl rfl rfl rfl rfl rfl rfl rfl rfl rfl w
 ·exact mv_none 25 rfl rfl rfl rfl rfl rfl rfl rfl rfl rfl w
 ·exact mv_26 w
 ·exact mv_27 w
 ·exact mv_28 w
 ·exact mv_29 w
 ·exact mv_none 30 rfl rfl rfl rfl rfl rfl rfl rfl rfl rfl w
 ·exact mv_none 31 rfl rfl rfl rfl rfl rfl rfl rfl rfl rfl w
 ·exact mv_none 32 rfl rfl rfl rfl rfl rfl rfl rfl rfl rfl w
 ·exact mv_none 33 rfl rfl rfl rfl rfl rfl rfl rfl rfl rfl w
 ·exact mv_34 w
 ·exact mv_35 w
 ·exact mv_36 w
 ·exact mv_37 w
 ·exact mv_none 38 rfl rfl rfl rfl rfl rfl rfl rfl rfl rfl w
 ·exact mv_none 39 rfl rfl rfl rfl rfl rfl rfl rfl rfl rfl w
 ·exact mv_none 40 rfl rfl rfl rfl rfl rfl rfl rfl rfl rfl w
 ·exact mv_none 41 rfl rfl rfl rfl rfl rfl rfl rfl rfl rfl w
 ·exact mv_none 42 rfl rfl rfl rfl rfl rfl rfl rfl rfl rfl w
 ·exact mv_none 43 rfl rfl rfl rfl rfl rfl rfl rfl rfl rfl w
 ·exact mv_none 44 rfl rfl rfl rfl rfl rfl rfl rfl rfl rfl w
 ·exact mv_none 45 rfl rfl rfl rfl rfl rfl rfl rfl rfl rfl w
 ·exact mv_none 46 rfl rfl rfl rfl rfl rfl rfl rfl rfl rfl w
 ·exact mv_none 47 rfl rfl rfl rfl rfl rfl rfl rfl rfl rfl w
 ·exact mv_none 48 rfl rfl rfl rfl rfl rfl rfl rfl rfl rfl w
 ·exact mv_none 49 rfl rfl rfl rfl rfl rfl rfl rfl rfl rfl w
 ·exact mv_none 50 rfl rfl rfl rfl rfl rfl rfl rfl rfl rfl w
 ·exact mv_none 51 rfl rfl rfl rfl rfl rfl rfl rfl rfl rfl w
 ·exact mv_none 52 rfl rfl rfl rfl rfl rfl rfl rfl rfl rfl w
 ·exact mv_none 53 rfl rfl rfl rfl rfl rfl rfl rfl rfl rfl w
theorem go'_30 (w : World) : Calls Tryd.prog 31 #[.int .i64 30] w fun e w' => ∃ v, e = .returned v ∧ OwnR w' w.heap.size v ([⟨232, 0, 5, 0⟩, ⟨255, 2, 3, 0⟩]) ∧ Below w.heap.size w w' := by
 go_enter Tryd.func31, Tryd.ntmps31
 go_wp2_with fail
 go_ret
 exact ⟨_, rfl, OwnR.new w w.heap.size (Nat.le_refl _) [⟨232, 0, 5, 0⟩, ⟨255, 2, 3, 0⟩] (by decide) rfl, (Below.refl _ _).alloc (Nat.le_refl _) _⟩
theorem go'_31 (w : World) : Calls Tryd.prog 31 #[.int .i64 31] w fun e w' => ∃ v, e = .returned v ∧ OwnR w' w.heap.size v ([⟨195, 0, 0, 0⟩]) ∧ Below w.heap.size w w' := by
 go_enter Tryd.func31, Tryd.ntmps31
 go_wp2_with fail
 go_ret
 exact ⟨_, rfl, OwnR.new w w.heap.size (Nat.le_refl _) [⟨195, 0, 0, 0⟩] (by decide) rfl, (Below.refl _ _).alloc (Nat.le_refl _) _⟩
theorem go'_32 (w : World) : Calls Tryd.prog 31 #[.int .i64 32] w fun e w' => ∃ v, e = .returned v ∧ OwnR w' w.heap.size v ([⟨233, 0, 5, 0⟩, ⟨235, 0, 4, 0⟩, ⟨255, 4, 3, 0⟩]) ∧ Below w.heap.size w w' := by
 go_enter Tryd.func31, Tryd.ntmps31
 go_wp2_with fail
 go_ret
 exact ⟨_, rfl, OwnR.new w w.heap.size (Nat.le_refl _) [⟨233, 0, 5, 0⟩, ⟨235, 0, 4, 0⟩, ⟨255, 4, 3, 0⟩] (by decide) rfl, (Below.refl _ _).alloc (Nat.le_refl _) _⟩
theorem go'_33 (w : World) : Calls Tryd.prog 31 #[.int .i64 33] w fun e w' => ∃ v, e = .returned v ∧ OwnR w' w.heap.size v ([⟨112, 0, 4, 0⟩, ⟨3968, 0, 5, 0⟩]) ∧ Below w.heap.size w w' := by
 go_enter Tryd.func31, Tryd.ntmps31
 go_wp2_with fail
 go_ret
 exact ⟨_, rfl, OwnR.new w w.heap.size (Nat.le_refl _) [⟨112, 0, 4, 0⟩, ⟨3968, 0, 5, 0⟩] (by decide) rfl, (Below.refl _ _).alloc (Nat.le_refl _) _⟩
theorem go'_43 (w : World) : Calls Tryd.prog 31 #[.int .i64 43] w fun e w' => ∃ v, e = .returned v ∧ OwnR w' w.heap.size v ([⟨205, 0, 4, 0⟩]) ∧ Below w.heap.size w w' := by
 go_enter Tryd.func31, Tryd.ntmps31
 go_wp2_with fail
 go_ret
 exact ⟨_, rfl, OwnR.new w w.heap.size (Nat.le_refl _) [⟨205, 0, 4, 0⟩] (by decide) rfl, (Below.refl _ _).alloc (Nat.le_refl _) _⟩
theorem go'_none (op : Int) (h30 : (op == 30) = false) (h31 : (op == 31) = false) (h32 : (op == 32) = false) (h33 : (op == 33) = false) (h43 : (op == 43) = false) (w : World) : Calls Tryd.prog 31 #[.int .i64 op] w fun e w' => ∃ v, e = .returned v ∧ OwnR w' w.heap.size v [] ∧ Below w.heap.size w w' := by
 go_enter Tryd.func31, Tryd.ntmps31
 go_wp2_with fail
 go_ret
 exact ⟨_, rfl, OwnR.nil _ _, Below.refl _ _⟩
theorem go'_any (n : Nat) (hn : n < 54) (w : World) : Calls Tryd.prog 31 #[.int .i64 (n : Int)] w fun e w' => ∃ v, e = .returned v ∧ OwnR w' w.heap.size v (goE (n : Int)) ∧ Below w.heap.size w w' := by
 rcases (by omega : n = 0 ∨ n = 1 ∨ n = 2 ∨ n = 3 ∨ n = 4 ∨ n = 5 ∨ n = 6 ∨ n = 7 ∨ n = 8 ∨ n = 9 ∨ n = 10 ∨ n = 11 ∨ n = 12 ∨ n = 13 ∨ n = 14 ∨ n = 15 ∨ n = 16 ∨ n = 17 ∨ n = 18 ∨ n = 19 ∨ n = 20 ∨ n = 21 ∨ n = 22 ∨ n = 23 ∨ n = 24 ∨ n = 25 ∨ n = 26 ∨ n = 27 ∨ n = 28 ∨ n = 29 ∨ n = 30 ∨ n = 31 ∨ n = 32 ∨ n = 33 ∨ n = 34 ∨ n = 35 ∨ n = 36 ∨ n = 37 ∨ n = 38 ∨ n = 39 ∨ n = 40 ∨ n = 41 ∨ n = 42 ∨ n = 43 ∨ n = 44 ∨ n = 45 ∨ n = 46 ∨ n = 47 ∨ n = 48 ∨ n = 49 ∨ n = 50 ∨ n = 51 ∨ n = 52 ∨ n = 53) with rfl | rfl | rfl | rfl | rfl | rfl | rfl | rfl | rfl | rfl | rfl | rfl | rfl | rfl | rfl | rfl | rfl | rfl | rfl | rfl | rfl | rfl | rfl | rfl | rfl | rfl | rfl | rfl | rfl | rfl | rfl | rfl | rfl | rfl | rfl | rfl | rfl | rfl | rfl | rfl | rfl | rfl | rfl | rfl | rfl | rfl | rfl | rfl | rfl | rfl | rfl | rfl | rfl | rfl
 ·exact go'_none 0 rfl rfl rfl rfl rfl w
 ·exact go'_none 1 rfl rfl rfl rfl rfl w
 ·exact go'_none 2 rfl rfl rfl rfl rfl w
 ·exact go'_none 3 rfl rfl rfl rfl rfl w
 ·exact go'_none 4 rfl rfl rfl rfl rfl w
 ·exact go'_none 5 rfl rfl rfl rfl rfl w
 ·exact go'_none 6 rfl rfl rfl rfl rfl w
 ·exact go'_none 7 rfl rfl rfl rfl rfl w
 ·exact go'_none 8 rfl rfl rfl rfl rfl w
 ·exact go'_none 9 rfl rfl rfl rfl rfl w
 ·exact go'_none 10 rfl rfl rfl rfl rfl w
 ·exact go'_none 11 rfl rfl rfl rfl rfl w
 ·exact go'_none 12 rfl rfl rfl rfl rfl w
 ·exact go'_none 13 rfl rfl rfl rfl rfl w
 ·exact go'_none 14 rfl rfl rfl rfl rfl w
 ·exact go'_none 15 rfl rfl rfl rfl rfl w
 ·exact go'_none 16 rfl rfl rfl rfl rfl w
 ·exact go'_none 17 rfl rfl rfl rfl rfl w
 ·exact go'_none 18 rfl rfl rfl rfl rfl w
 ·exact go'_none 19 rfl rfl rfl rfl rfl w
 ·exact go'_none 20 rfl rfl rfl rfl rfl w
 ·exact go'_none 21 rfl rfl rfl rfl rfl w
 ·exact go'_none 22 rfl rfl rfl rfl rfl w
 ·exact go'_none 23 rfl rfl rfl rfl rfl w
 ·exact go'_none 24 rfl rfl rfl rfl rfl w
 ·exact go'_none 25 rfl rfl rfl rfl rfl w
 ·exact go'_none 26 rfl rfl rfl rfl rfl w
 ·exact go'_none 27 rfl rfl rfl rfl rfl w
 ·exact go'_none 28 rfl rfl rfl rfl rfl w
 ·exact go'_none 29 rfl rfl rfl rfl rfl w
 ·exact go'_30 w
 ·exact go'_31 w
 ·exact go'_32 w
 ·exact go'_33 w
 ·exact go'_none 34 rfl rfl rfl rfl rfl w
 ·exact go'_none 35 rfl rfl rfl rfl rfl w
 ·exact go'_none 36 rfl rfl rfl rfl rfl w
 ·exact go'_none 37 rfl rfl rfl rfl rfl w
 ·exact go'_none 38 rfl rfl rfl rfl rfl w
 ·exact go'_none 39 rfl rfl rfl rfl rfl w
 ·exact go'_none 40 rfl rfl rfl rfl rfl w
 ·exact go'_none 41 rfl rfl rfl rfl rfl w
 ·exact go'_none 42 rfl rfl rfl rfl rfl w
 ·exact go'_43 w
 ·exact go'_none 44 rfl rfl rfl rfl rfl w
 ·exact go'_none 45 rfl rfl rfl rfl rfl w
 ·exact go'_none 46 rfl rfl rfl rfl rfl w
 ·exact go'_none 47 rfl rfl rfl rfl rfl w
 ·exact go'_none 48 rfl rfl rfl rfl rfl w
 ·exact go'_none 49 rfl rfl rfl rfl rfl w
 ·exact go'_none 50 rfl rfl rfl rfl rfl w
 ·exact go'_none 51 rfl rfl rfl rfl rfl w
 ·exact go'_none 52 rfl rfl rfl rfl rfl w
 ·exact go'_none 53 rfl rfl rfl rfl rfl w
theorem nu_45 (w : World) : Calls Tryd.prog 32 #[.int .i64 45] w fun e w' => ∃ v, e = .returned v ∧ OwnR w' w.heap.size v ([⟨221, 0, 3, 0⟩]) ∧ Below w.heap.size w w' := by
 go_enter Tryd.func32, Tryd.ntmps32
 go_wp2_with fail
 go_ret
 exact ⟨_, rfl, OwnR.new w w.heap.size (Nat.le_refl _) [⟨221, 0, 3, 0⟩] (by decide) rfl, (Below.refl _ _).alloc (Nat.le_refl _) _⟩
theorem nu_46 (w : World) : Calls Tryd.prog 32 #[.int .i64 46] w fun e w' => ∃ v, e = .returned v ∧ OwnR w' w.heap.size v ([⟨221, 3, 3, 0⟩]) ∧ Below w.heap.size w w' := by
 go_enter Tryd.func32, Tryd.ntmps32
 go_wp2_with fail
 go_ret
 exact ⟨_, rfl, OwnR.new w w.heap.size (Nat.le_refl _) [⟨221, 3, 3, 0⟩] (by decide) rfl, (Below.refl _ _).alloc (Nat.le_refl _) _⟩
theorem nu_47 (w : World) : Calls Tryd.prog 32 #[.int .i64 47] w fun e w' => ∃ v, e = .returned v ∧ OwnR w' w.heap.size v ([⟨220, 0, 3, 0⟩]) ∧ Below w.heap.size w w' := by
 go_enter Tryd.func32, Tryd.ntmps32
 go_wp2_with fail
 go_ret
 exact ⟨_, rfl, OwnR.new w w.heap.size (Nat.le_refl _) [⟨220, 0, 3, 0⟩] (by decide) rfl, (Below.refl _ _).alloc (Nat.le_refl _) _⟩
theorem nu_48 (w : World) : Calls Tryd.prog 32 #[.int .i64 48] w fun e w' => ∃ v, e = .returned v ∧ OwnR w' w.heap.size v ([⟨220, 1, 3, 0⟩]) ∧ Below w.heap.size w w' := by
 go_enter Tryd.func32, Tryd.ntmps32
 go_wp2_with fail
 go_ret
 exact ⟨_, rfl, OwnR.new w w.heap.size (Nat.le_refl _) [⟨220, 1, 3, 0⟩] (by decide) rfl, (Below.refl _ _).alloc (Nat.le_refl _) _⟩
theorem nu_49 (w : World) : Calls Tryd.prog 32 #[.int .i64 49] w fun e w' => ∃ v, e = .returned v ∧ OwnR w' w.heap.size v ([⟨220, 4, 3, 0⟩]) ∧ Below w.heap.size w w' := by
 go_enter Tryd.func32, Tryd.ntmps32
 go_wp2_with fail
 go_ret
 exact ⟨_, rfl, OwnR.new w w.heap.size (Nat.le_refl _) [⟨220, 4, 3, 0⟩] (by decide) rfl, (Below.refl _ _).alloc (Nat.le_refl _) _⟩
theorem nu_50 (w : World) : Calls Tryd.prog 32 #[.int .i64 50] w fun e w' => ∃ v, e = .returned v ∧ OwnR w' w.heap.size v ([⟨220, 6, 3, 0⟩]) ∧ Below w.heap.size w w' := by
 go_enter Tryd.func32, Tryd.ntmps32
 go_wp2_with fail
 go_ret
 exact ⟨_, rfl, OwnR.new w w.heap.size (Nat.le_refl _) [⟨220, 6, 3, 0⟩] (by decide) rfl, (Below.refl _ _).alloc (Nat.le_refl _) _⟩
theorem nu_53 (w : World) : Calls Tryd.prog 32 #[.int .i64 53] w fun e w' => ∃ v, e = .returned v ∧ OwnR w' w.heap.size v ([⟨220, 2, 3, 0⟩]) ∧ Below w.heap.size w w' := by
 go_enter Tryd.func32, Tryd.ntmps32
 go_wp2_with fail
 go_ret
 exact ⟨_, rfl, OwnR.new w w.heap.size (Nat.le_refl _) [⟨220, 2, 3, 0⟩] (by decide) rfl, (Below.refl _ _).alloc (Nat.le_refl _) _⟩
theorem nu_none (op : Int) (h45 : (op == 45) = false) (h46 : (op == 46) = false) (h47 : (op == 47) = false) (h48 : (op == 48) = false) (h49 : (op == 49) = false) (h50 : (op == 50) = false) (h53 : (op == 53) = false) (w : World) : Calls Tryd.prog 32 #[.int .i64 op] w fun e w' => ∃ v, e = .returned v ∧ OwnR w' w.heap.size v [] ∧ Below w.heap.size w w' := by
 go_enter Tryd.func32, Tryd.ntmps32
 go_wp2_with fail
 go_ret
 exact ⟨_, rfl, OwnR.nil _ _, Below.refl _ _⟩
theorem nu_any (n : Nat) (hn : n < 54) (w : World) : Calls Tryd.prog 32 #[.int .i64 (n : Int)] w fun e w' => ∃ v, e = .returned v ∧ OwnR w' w.heap.size v (nuE (n : Int)) ∧ Below w.heap.size w w' := by
 rcases (by omega : n = 0 ∨ n = 1 ∨ n = 2 ∨ n = 3 ∨ n = 4 ∨ n = 5 ∨ n = 6 ∨ n = 7 ∨ n = 8 ∨ n = 9 ∨ n = 10 ∨ n = 11 ∨ n = 12 ∨ n = 13 ∨ n = 14 ∨ n = 15 ∨ n = 16 ∨ n = 17 ∨ n = 18 ∨ n = 19 ∨ n = 20 ∨ n = 21 ∨ n = 22 ∨ n = 23 ∨ n = 24 ∨ n = 25 ∨ n = 26 ∨ n = 27 ∨ n = 28 ∨ n = 29 ∨ n = 30 ∨ n = 31 ∨ n = 32 ∨ n = 33 ∨ n = 34 ∨ n = 35 ∨ n = 36 ∨ n = 37 ∨ n = 38 ∨ n = 39 ∨ n = 40 ∨ n = 41 ∨ n = 42 ∨ n = 43 ∨ n = 44 ∨ n = 45 ∨ n = 46 ∨ n = 47 ∨ n = 48 ∨ n = 49 ∨ n = 50 ∨ n = 51 ∨ n = 52 ∨ n = 53) with rfl | rfl | rfl | rfl | rfl | rfl | rfl | rfl | rfl | rfl | rfl | rfl | rfl | rfl | rfl | rfl | rfl | rfl | rfl | rfl | rfl | rfl | rfl | rfl | rfl | rfl | rfl | rfl | rfl | rfl | rfl | rfl | rfl | rfl | rfl | rfl | rfl | rfl | rfl | rfl | rfl | rfl | rfl | rfl | rfl | rfl | rfl | rfl | rfl | rfl | rfl | rfl | rfl | rfl
 ·exact nu_none 0 rfl rfl rfl rfl rfl rfl rfl w
 ·exact nu_none 1 rfl rfl rfl rfl rfl rfl rfl w
 ·exact nu_none 2 rfl rfl rfl rfl rfl rfl rfl w
 ·exact nu_none 3 rfl rfl rfl rfl rfl rfl rfl w
 ·exact nu_none 4 rfl rfl rfl rfl rfl rfl rfl w
 ·exact nu_none 5 rfl rfl rfl rfl rfl rfl rfl w
 ·exact nu_none 6 rfl rfl rfl rfl rfl rfl rfl w
 ·exact nu_none 7 rfl rfl rfl rfl rfl rfl rfl w
 ·exact nu_none 8 rfl rfl rfl rfl rfl rfl rfl w
 ·exact nu_none 9 rfl rfl rfl rfl rfl rfl rfl w
 ·exact nu_none 10 rfl rfl rfl rfl rfl rfl rfl w
 ·exact nu_none 11 rfl rfl rfl rfl rfl rfl rfl w
 ·exact nu_none 12 rfl rfl rfl rfl rfl rfl rfl w
 ·exact nu_none 13 rfl rfl rfl rfl rfl rfl rfl w
 ·exact nu_none 14 rfl rfl rfl rfl rfl rfl rfl w
 ·exact nu_none 15 rfl rfl rfl rfl rfl rfl rfl w
 ·exact nu_none 16 rfl rfl rfl rfl rfl rfl rfl w
 ·exact nu_none 17 rfl rfl rfl rfl rfl rfl rfl w
 ·exact nu_none 18 rfl rfl rfl rfl rfl rfl rfl w
 ·exact nu_none 19 rfl rfl rfl rfl rfl rfl rfl w
 ·exact nu_none 20 rfl rfl rfl rfl rfl rfl rfl w
 ·exact nu_none 21 rfl rfl rfl rfl rfl rfl rfl w
 ·exact nu_none 22 rfl rfl rfl rfl rfl rfl rfl w
 ·exact nu_none 23 rfl rfl rfl rfl rfl rfl rfl w
 ·exact nu_none 24 rfl rfl rfl rfl rfl rfl rfl w
 ·exact nu_none 25 rfl rfl rfl rfl rfl rfl rfl w
 ·exact nu_none 26 rfl rfl rfl rfl rfl rfl rfl w
 ·exact nu_none 27 rfl rfl rfl rfl rfl rfl rfl w
 ·exact nu_none 28 rfl rfl rfl rfl rfl rfl rfl w
 ·exact nu_none 29 rfl rfl rfl rfl rfl rfl rfl w
 ·exact nu_none 30 rfl rfl rfl rfl rfl rfl rfl w
 ·exact nu_none 31 rfl rfl rfl rfl rfl rfl rfl w
 ·exact nu_none 32 rfl rfl rfl rfl rfl rfl rfl w
 ·exact nu_none 33 rfl rfl rfl rfl rfl rfl rfl w
 ·exact nu_none 34 rfl rfl rfl rfl rfl rfl rfl w
 ·exact nu_none 35 rfl rfl rfl rfl rfl rfl rfl w
 ·exact nu_none 36 rfl rfl rfl rfl rfl rfl rfl w
 ·exact nu_none 37 rfl rfl rfl rfl rfl rfl rfl w
 ·exact nu_none 38 rfl rfl rfl rfl rfl rfl rfl w
 ·exact nu_none 39 rfl rfl rfl rfl rfl rfl rfl w
 ·exact nu_none 40 rfl rfl rfl rfl rfl rfl rfl w
 ·exact nu_none 41 rfl rfl rfl rfl rfl rfl rfl w
 ·exact nu_none 42 rfl rfl rfl rfl rfl rfl rfl w
 ·exact nu_none 43 rfl rfl rfl rfl rfl rfl rfl w
 ·exact nu_none 44 rfl rfl rfl rfl rfl rfl rfl w
 ·exact nu_45 w
 ·exact nu_46 w
 ·exact nu_47 w
 ·exact nu_48 w
 ·exact nu_49 w
 ·exact nu_50 w
 ·exact nu_none 51 rfl rfl rfl rfl rfl rfl rfl w
 ·exact nu_none 52 rfl rfl rfl rfl rfl rfl rfl w
 ·exact nu_53 w
theorem al_38 (w : World) : Calls Tryd.prog 33 #[.int .i64 38] w fun e w' => ∃ v, e = .returned v ∧ OwnR w' w.heap.size v ([⟨153, 0, 0, 0⟩]) ∧ Below w.heap.size w w' := by
 go_enter Tryd.func33, Tryd.ntmps33
 go_wp2_with fail
 go_ret
 exact ⟨_, rfl, OwnR.new w w.heap.size (Nat.le_refl _) [⟨153, 0, 0, 0⟩] (by decide) rfl, (Below.refl _ _).alloc (Nat.le_refl _) _⟩
theorem al_39 (w : World) : Calls Tryd.prog 33 #[.int .i64 39] w fun e w' => ∃ v, e = .returned v ∧ OwnR w' w.heap.size v ([⟨252, 0, 0, 0⟩]) ∧ Below w.heap.size w w' := by
 go_enter Tryd.func33, Tryd.ntmps33
 go_wp2_with fail
 go_ret
 exact ⟨_, rfl, OwnR.new w w.heap.size (Nat.le_refl _) [⟨252, 0, 0, 0⟩] (by decide) rfl, (Below.refl _ _).alloc (Nat.le_refl _) _⟩
theorem al_40 (w : World) : Calls Tryd.prog 33 #[.int .i64 40] w fun e w' => ∃ v, e = .returned v ∧ OwnR w' w.heap.size v ([⟨253, 0, 0, 0⟩]) ∧ Below w.heap.size w w' := by
 go_enter Tryd.func33, Tryd.ntmps33
 go_wp2_with fail
 go_ret
 exact ⟨_, rfl, OwnR.new w w.heap.size (Nat.le_refl _) [⟨253, 0, 0, 0⟩] (by decide) rfl, (Below.refl _ _).alloc (Nat.le_refl _) _⟩
theorem al_41 (w : World) : Calls Tryd.prog 33 #[.int .i64 41] w fun e w' => ∃ v, e = .returned v ∧ OwnR w' w.heap.size v ([⟨165, 0, 0, 0⟩]) ∧ Below w.heap.size w w' := by
 go_enter Tryd.func33, Tryd.ntmps33
 go_wp2_with fail
 go_ret
 exact ⟨_, rfl, OwnR.new w w.heap.size (Nat.le_refl _) [⟨165, 0, 0, 0⟩] (by decide) rfl, (Below.refl _ _).alloc (Nat.le_refl _) _⟩
theorem al_42 (w : World) : Calls Tryd.prog 33 #[.int .i64 42] w fun e w' => ∃ v, e = .returned v ∧ OwnR w' w.heap.size v ([⟨171, 0, 0, 0⟩]) ∧ Below w.heap.size w w' := by
 go_enter Tryd.func33, Tryd.ntmps33
 go_wp2_with fail
 go_ret
 exact ⟨_, rfl, OwnR.new w w.heap.size (Nat.le_refl _) [⟨171, 0, 0, 0⟩] (by decide) rfl, (Below.refl _ _).alloc (Nat.le_refl _) _⟩
theorem al_44 (w : World) : Calls Tryd.prog 33 #[.int .i64 44] w fun e w' => ∃ v, e = .returned v ∧ OwnR w' w.heap.size v ([⟨144, 0, 0, 0⟩]) ∧ Below w.heap.size w w' := by
 go_enter Tryd.func33, Tryd.ntmps33
 go_wp2_with fail
 go_ret
 exact ⟨_, rfl, OwnR.new w w.heap.size (Nat.le_refl _) [⟨144, 0, 0, 0⟩] (by decide) rfl, (Below.refl _ _).alloc (Nat.le_refl _) _⟩
theorem al_51 (w : World) : Calls Tryd.prog 33 #[.int .i64 51] w fun e w' => ∃ v, e = .returned v ∧ OwnR w' w.heap.size v ([⟨55776, 0, 0, 0⟩]) ∧ Below w.heap.size w w' := by
 go_enter Tryd.func33, Tryd.ntmps33
 go_wp2_with fail
 go_ret
 exact ⟨_, rfl, OwnR.new w w.heap.size (Nat.le_refl _) [⟨55776, 0, 0, 0⟩] (by decide) rfl, (Below.refl _ _).alloc (Nat.le_refl _) _⟩
theorem al_52 (w : World) : Calls Tryd.prog 33 #[.int .i64 52] w fun e w' => ∃ v, e = .returned v ∧ OwnR w' w.heap.size v ([⟨55777, 0, 0, 0⟩]) ∧ Below w.heap.size w w' := by
 go_enter Tryd.func33, Tryd.ntmps33
 go_wp2_with fail
 go_ret
 exact ⟨_, rfl, OwnR.new w w.heap.size (Nat.le_refl _) [⟨55777, 0, 0, 0⟩] (by decide) rfl, (Below.refl _ _).alloc (Nat.le_refl _) _⟩
theorem al_none (op : Int) (h38 : (op == 38) = false) (h39 : (op == 39) = false) (h40 : (op == 40) = false) (h41 : (op == 41) = false) (h42 : (op == 42) = false) (h44 : (op == 44) = false) (h51 : (op == 51) = false) (h52 : (op == 52) = false) (w : World) : Calls Tryd.prog 33 #[.int .i64 op] w fun e w' => ∃ v, e = .returned v ∧ OwnR w' w.heap.size v [] ∧ Below w.heap.size w w' := by
 go_enter Tryd.func33, Tryd.ntmps33
 go_wp2_with fail
 go_ret
 exact ⟨_, rfl, OwnR.nil _ _, Below.refl _ _⟩
theorem al_any (n : Nat) (hn : n < 54) (w : World) : Calls Tryd.prog 33 #[.int .i64 (n : Int)] w fun e w' => ∃ v, e = .returned v ∧ OwnR w' w.heap.size v (alE (n : Int)) ∧ Below w.heap.size w w' := by
 rcases (by omega : n = 0 ∨ n = 1 ∨ n = 2 ∨ n = 3 ∨ n = 4 ∨ n = 5 ∨ n = 6 ∨ n = 7 ∨ n = 8 ∨ n = 9 ∨ n = 10 ∨ n = 11 ∨ n = 12 ∨ n = 13 ∨ n = 14 ∨ n = 15 ∨ n = 16 ∨ n = 17 ∨ n = 18 ∨ n = 19 ∨ n = 20 ∨ n = 21 ∨ n = 22 ∨ n = 23 ∨ n = 24 ∨ n = 25 ∨ n = 26 ∨ n = 27 ∨ n = 28 ∨ n = 29 ∨ n = 30 ∨ n = 31 ∨ n = 32 ∨ n = 33 ∨ n = 34 ∨ n = 35 ∨ n = 36 ∨ n = 37 ∨ n = 38 ∨ n = 39 ∨ n = 40 ∨ n = 41 ∨ n = 42 ∨ n = 43 ∨ n = 44 ∨ n = 45 ∨ n = 46 ∨ n = 47 ∨ n = 48 ∨ n = 49 ∨ n = 50 ∨ n = 51 ∨ n = 52 ∨ n = 53) with rfl | rfl | rfl | rfl | rfl | rfl | rfl | rfl | rfl | rfl | rfl | rfl | rfl | rfl | rfl | rfl | rfl | rfl | rfl | rfl | rfl | rfl | rfl | rfl | rfl | rfl | rfl | rfl | rfl | rfl | rfl | rfl | rfl | rfl | rfl | rfl | rfl | rfl | rfl | rfl | rfl | rfl | rfl | rfl | rfl | rfl | rfl | rfl | rfl | rfl | rfl | rfl | rfl | rfl
 ·exact al_none 0 rfl rfl rfl rfl rfl rfl rfl rfl w
 ·exact al_none 1 rfl rfl rfl rfl rfl rfl rfl rfl w
 ·exact al_none 2 rfl rfl rfl rfl rfl rfl rfl rfl w
 ·exact al_none 3 rfl rfl rfl rfl rfl rfl rfl rfl w
 ·exact al_none 4 rfl rfl rfl rfl rfl rfl rfl rfl w
 ·exact al_none 5 rfl rfl rfl rfl rfl rfl rfl rfl w
 ·exact al_none 6 rfl rfl rfl rfl rfl rfl rfl rfl w
 ·exact al_none 7 rfl rfl rfl rfl rfl rfl rfl rfl w
 ·exact al_none 8 rfl rfl rfl rfl rfl rfl rfl rfl w
 ·exact al_none 9 rfl rfl rfl rfl rfl rfl rfl rfl w
 ·exact al_none 10 rfl rfl rfl rfl rfl rfl rfl rfl w
 ·exact al_none 11 rfl rfl rfl rfl rfl rfl rfl rfl w
 ·exact al_none 12 rfl rfl rfl rfl rfl rfl rfl rfl w
 ·exact al_none 13 rfl rfl rfl rfl rfl rfl rfl rfl w
 ·exact al_none 14 rfl rfl rfl rfl rfl rfl rfl rfl w
 ·exact al_none 15 rfl rfl rfl rfl rfl rfl rfl rfl w
 ·exact al_none 16 rfl rfl rfl rfl rfl rfl rfl rfl w
 ·exact al_none 17 rfl rfl rfl rfl rfl rfl rfl rfl w
 ·exact al_none 18 rfl rfl rfl rfl rfl rfl rfl rfl w
 ·exact al_none 19 rfl rfl rfl rfl rfl rfl rfl rfl w
 ·exact al_none 20 rfl rfl rfl rfl rfl rfl rfl rfl w
 ·exact al_none 21 rfl rfl rfl rfl rfl rfl rfl rfl w
 ·exact al_none 22 rfl rfl rfl rfl rfl rfl rfl rfl w
 ·exact al_none 23 rfl rfl rfl rfl rfl rfl rfl rfl w
 ·exact al_none 24 rfl rfl rfl rfl rfl rfl rfl rfl w
 ·exact al_none 25 rfl rfl rfl rfl rfl rfl rfl rfl w
 ·exact al_none 26 rfl rfl rfl rfl rfl rfl rfl rfl w
 ·exact al_none 27 rfl rfl rfl rfl rfl rfl rfl rfl w
 ·exact al_none 28 rfl rfl rfl rfl rfl rfl rfl rfl w
 ·exact al_none 29 rfl rfl rfl rfl rfl rfl rfl rfl w
 ·exact al_none 30 rfl rfl rfl rfl rfl rfl rfl rfl w
 ·exact al_none 31 rfl rfl rfl rfl rfl rfl rfl rfl w
 ·exact al_none 32 rfl rfl rfl rfl rfl rfl rfl rfl w
 ·exact al_none 33 rfl rfl rfl rfl rfl rfl rfl rfl w
 ·exact al_none 34 rfl rfl rfl rfl rfl rfl rfl rfl w
 ·exact al_none 35 rfl rfl rfl rfl rfl rfl rfl rfl w
 ·exact al_none 36 rfl rfl rfl rfl rfl rfl rfl rfl w
 ·exact al_none 37 rfl rfl rfl rfl rfl rfl rfl rfl w
 ·exact al_38 w
 ·exact al_39 w
 ·exact al_40 w
 ·exact al_41 w
 ·exact al_42 w
 ·exact al_none 43 rfl rfl rfl rfl rfl rfl rfl rfl w
 ·exact al_44 w
 ·exact al_none 45 rfl rfl rfl rfl rfl rfl rfl rfl w
 ·exact al_none 46 rfl rfl rfl rfl rfl rfl rfl rfl w
 ·exact al_none 47 rfl rfl rfl rfl rfl rfl rfl rfl w
 ·exact al_none 48 rfl rfl rfl rfl rfl rfl rfl rfl w
 ·exact al_none 49 rfl rfl rfl rfl rfl rfl rfl rfl w
 ·exact al_none 50 rfl rfl rfl rfl rfl rfl rfl rfl w
 ·exact al_51 w
 ·exact al_52 w
 ·exact al_none 53 rfl rfl rfl rfl rfl rfl rfl rfl w
theorem Lr.new5 (w : World) {N1 N2 N3 N4 N5 : Nat} {v1 v2 v3 v4 v5 : Value} {l1 l2 l3 l4 l5 : List En} (o1 : OwnR w N1 v1 l1) (o2 : OwnR w N2 v2 l2) (o3 : OwnR w N3 v3 l3) (o4 : OwnR w N4 v4 l4) (o5 : OwnR w N5 v5 l5) :
  Lr (w.alloc (.cells #[v1, v2, v3, v4, v5] 49)) w.heap.size [v1, v2, v3, v4, v5] [l1, l2, l3, l4, l5] := by
 have k := (Below.refl w.heap.size w).alloc (Nat.le_refl _) (.cells #[v1, v2, v3, v4, v5] 49)
 refine ⟨Blk.new w 49 _, rfl, fun i hi => ?_⟩
 match i, hi with
 | 0, _ => exact (o1.base (Nat.zero_le _)).below k
 | 1, _ => exact (o2.base (Nat.zero_le _)).below k
 | 2, _ => exact (o3.base (Nat.zero_le _)).below k
 | 3, _ => exact (o4.base (Nat.zero_le _)).below k
 | 4, _ => exact (o5.base (Nat.zero_le _)).below k
 | (n + 5), h => exact absurd h (by simp)
theorem rowsOf_any (n : Nat) (hn : n < 54) (w : World) : Calls Tryd.prog 18 #[.int .i64 (n : Int)] w fun e w' => ∃ v, e = .returned v ∧ OwnR w' w.heap.size v (rowsE (n : Int)) ∧ Below w.heap.size w w' := by
 have c1 := Lib.hid (fun W => rk_any n hn W)
 have c2 := Lib.hid (fun W => mv_any n hn W)
 have c3 := Lib.hid (fun W => go'_any n hn W)
 have c4 := Lib.hid (fun W => nu_any n hn W)
 have c5 := Lib.hid (fun W => al_any n hn W)
 have hlen : (rowsE (n : Int)).length ≤ 100 := by
  have : ∀ n : Nat, n < 54 → (rowsE (n : Int)).length ≤ 100 := of_decide_eq_true (by kernel_rfl)
  exact this n hn
 have hrow : rowsE (n : Int) = [rkE (n : Int), mvE (n : Int), goE (n : Int), nuE (n : Int), alE (n : Int)].flatten := by unfold rowsE; simp [List.append_assoc]
 rw [hrow] at hlen ⊢
 clear hrow
 generalize rkE (n : Int) = l1 at *
 generalize mvE (n : Int) = l2 at *
 generalize goE (n : Int) = l3 at *
 generalize nuE (n : Int) = l4 at *
 generalize alE (n : Int) = l5 at *
 generalize (n : Int) = op at *
 have HL := Lib.hid hlen
 clear hlen
 go_enter Tryd.func18, Tryd.ntmps18
 go_wp2_with (first | ((with_reducible refine (c1.out _).mono ?_); rintro e w1 ⟨v1, rfl, o1, b1⟩; obtain ⟨a1, q1, rfl, -⟩ := o1.lens) | ((with_reducible refine (c2.out _).mono ?_); rintro e w2 ⟨v2, rfl, o2, b2⟩; obtain ⟨a2, q2, rfl, -⟩ := o2.lens) | ((with_reducible refine (c3.out _).mono ?_); rintro e w3 ⟨v3, rfl, o3, b3⟩; obtain ⟨a3, q3, rfl, -⟩ := o3.lens) | ((with_reducible refine (c4.out _).mono ?_); rintro e w4 ⟨v4, rfl, o4, b4⟩; obtain ⟨a4, q4, rfl, -⟩ := o4.lens) | ((with_reducible refine (c5.out _).mono ?_); rintro e w5 ⟨v5, rfl, o5, b5⟩; obtain ⟨a5, q5, rfl, -⟩ := o5.lens))
 have p1 := (((o1.below b2).below b3).below b4).below b5
 have p2 := ((o2.below b3).below b4).below b5
 have p3 := (o3.below b4).below b5
 have p4 := o4.below b5
 have k5 := (((b1.trans (b2.mono b1.size)).trans (b3.mono (Nat.le_trans b1.size b2.size))).trans (b4.mono (Nat.le_trans (Nat.le_trans b1.size b2.size) b3.size))).trans (b5.mono (Nat.le_trans (Nat.le_trans (Nat.le_trans b1.size b2.size) b3.size) b4.size))
 have hL := Lr.new5 w5 p1 p2 p3 p4 o5
 have k6 := k5.alloc k5.size (.cells #[Value.slice a1 l1.length q1, Value.slice a2 l2.length q2, Value.slice a3 l3.length q3, Value.slice a4 l4.length q4, Value.slice a5 l5.length q5] 49)
 refine (concatr_any hL rfl (by simp) HL.out).mono ?_
 rintro e w7 ⟨v, rfl, o7, b7⟩
 go_wp2_with fail
 go_ret
 exact ⟨v, rfl, o7.base k6.size, k6.trans (b7.mono k6.size)⟩
end Go.Proofs.YtcgleggdochbeaaDoor
