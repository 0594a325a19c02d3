import Derived.Test.YtcdoidnfdkodoaaGreatDoorS14
namespace Go.Proofs.YtcdoidnfdkodoaaGreatDoor
open Go.RowKit
set_option linter.unusedVariables false
set_option linter.unusedSimpArgs false
theorem rowOf_0 (w : World) : Calls Tryz.prog 72 #[.int .i64 0] w fun e w' => e = .returned (.int .i64 ((rowN 0 : Nat) : Int)) ∧ w = w' := by
  go_enter Tryz.func72, Tryz.ntmps72
  go_wp2
  go_ret
  exact ⟨rfl, rfl⟩
theorem rowOf_1 (w : World) : Calls Tryz.prog 72 #[.int .i64 1] w fun e w' => e = .returned (.int .i64 ((rowN 1 : Nat) : Int)) ∧ w = w' := by
  go_enter Tryz.func72, Tryz.ntmps72
  go_wp2
  go_ret
  exact ⟨rfl, rfl⟩
theorem rowOf_2 (w : World) : Calls Tryz.prog 72 #[.int .i64 2] w fun e w' => e = .returned (.int .i64 ((rowN 2 : Nat) : Int)) ∧ w = w' := by
  go_enter Tryz.func72, Tryz.ntmps72
  go_wp2
  go_ret
  exact ⟨rfl, rfl⟩
theorem rowOf_3 (w : World) : Calls Tryz.prog 72 #[.int .i64 3] w fun e w' => e = .returned (.int .i64 ((rowN 3 : Nat) : Int)) ∧ w = w' := by
  go_enter Tryz.func72, Tryz.ntmps72
  go_wp2
  go_ret
  exact ⟨rfl, rfl⟩
theorem rowOf_4 (w : World) : Calls Tryz.prog 72 #[.int .i64 4] w fun e w' => e = .returned (.int .i64 ((rowN 4 : Nat) : Int)) ∧ w = w' := by
  go_enter Tryz.func72, Tryz.ntmps72
  go_wp2
  go_ret
  exact ⟨rfl, rfl⟩
theorem rowOf_5 (w : World) : Calls Tryz.prog 72 #[.int .i64 5] w fun e w' => e = .returned (.int .i64 ((rowN 5 : Nat) : Int)) ∧ w = w' := by
  go_enter Tryz.func72, Tryz.ntmps72
  go_wp2
  go_ret
  exact ⟨rfl, rfl⟩
theorem rowOf_6 (w : World) : Calls Tryz.prog 72 #[.int .i64 6] w fun e w' => e = .returned (.int .i64 ((rowN 6 : Nat) : Int)) ∧ w = w' := by
  go_enter Tryz.func72, Tryz.ntmps72
  go_wp2
  go_ret
  exact ⟨rfl, rfl⟩
theorem rowOf_7 (w : World) : Calls Tryz.prog 72 #[.int .i64 7] w fun e w' => e = .returned (.int .i64 ((rowN 7 : Nat) : Int)) ∧ w = w' := by
  go_enter Tryz.func72, Tryz.ntmps72
  go_wp2
  go_ret
  exact ⟨rfl, rfl⟩
theorem rowOf_8 (w : World) : Calls Tryz.prog 72 #[.int .i64 8] w fun e w' => e = .returned (.int .i64 ((rowN 8 : Nat) : Int)) ∧ w = w' := by
  go_enter Tryz.func72, Tryz.ntmps72
  go_wp2
  go_ret
  exact ⟨rfl, rfl⟩
theorem rowOf_9 (w : World) : Calls Tryz.prog 72 #[.int .i64 9] w fun e w' => e = .returned (.int .i64 ((rowN 9 : Nat) : Int)) ∧ w = w' := by
  go_enter Tryz.func72, Tryz.ntmps72
  go_wp2
  go_ret
  exact ⟨rfl, rfl⟩
theorem rowOf_10 (w : World) : Calls Tryz.prog 72 #[.int .i64 10] w fun e w' => e = .returned (.int .i64 ((rowN 10 : Nat) : Int)) ∧ w = w' := by
  go_enter Tryz.func72, Tryz.ntmps72
  go_wp2
  go_ret
  exact ⟨rfl, rfl⟩
theorem rowOf_11 (w : World) : Calls Tryz.prog 72 #[.int .i64 11] w fun e w' => e = .returned (.int .i64 ((rowN 11 : Nat) : Int)) ∧ w = w' := by
  go_enter Tryz.func72, Tryz.ntmps72
  go_wp2
  go_ret
  exact ⟨rfl, rfl⟩
theorem rowOf_12 (w : World) : Calls Tryz.prog 72 #[.int .i64 12] w fun e w' => e = .returned (.int .i64 ((rowN 12 : Nat) : Int)) ∧ w = w' := by
  go_enter Tryz.func72, Tryz.ntmps72
  go_wp2
  go_ret
  exact ⟨rfl, rfl⟩
theorem rowOf_13 (w : World) : Calls Tryz.prog 72 #[.int .i64 13] w fun e w' => e = .returned (.int .i64 ((rowN 13 : Nat) : Int)) ∧ w = w' := by
  go_enter Tryz.func72, Tryz.ntmps72
  go_wp2
  go_ret
  exact ⟨rfl, rfl⟩
theorem rowOf_14 (w : World) : Calls Tryz.prog 72 #[.int .i64 14] w fun e w' => e = .returned (.int .i64 ((rowN 14 : Nat) : Int)) ∧ w = w' := by
  go_enter Tryz.func72, Tryz.ntmps72
  go_wp2
  go_ret
  exact ⟨rfl, rfl⟩
theorem rowOf_15 (w : World) : Calls Tryz.prog 72 #[.int .i64 15] w fun e w' => e = .returned (.int .i64 ((rowN 15 : Nat) : Int)) ∧ w = w' := by
  go_enter Tryz.func72, Tryz.ntmps72
  go_wp2
  go_ret
  exact ⟨rfl, rfl⟩
theorem rowOf_16 (w : World) : Calls Tryz.prog 72 #[.int .i64 16] w fun e w' => e = .returned (.int .i64 ((rowN 16 : Nat) : Int)) ∧ w = w' := by
  go_enter Tryz.func72, Tryz.ntmps72
  go_wp2
  go_ret
  exact ⟨rfl, rfl⟩
theorem rowOf_17 (w : World) : Calls Tryz.prog 72 #[.int .i64 17] w fun e w' => e = .returned (.int .i64 ((rowN 17 : Nat) : Int)) ∧ w = w' := by
  go_enter Tryz.func72, Tryz.ntmps72
  go_wp2
  go_ret
  exact ⟨rfl, rfl⟩
theorem rowOf_18 (w : World) : Calls Tryz.prog 72 #[.int .i64 18] w fun e w' => e = .returned (.int .i64 ((rowN 18 : Nat) : Int)) ∧ w = w' := by
  go_enter Tryz.func72, Tryz.ntmps72
  go_wp2
  go_ret
  exact ⟨rfl, rfl⟩
theorem rowOf_19 (w : World) : Calls Tryz.prog 72 #[.int .i64 19] w fun e w' => e = .returned (.int .i64 ((rowN 19 : Nat) : Int)) ∧ w = w' := by
  go_enter Tryz.func72, Tryz.ntmps72
  go_wp2
  go_ret
  exact ⟨rfl, rfl⟩
theorem rowOf_20 (w : World) : Calls Tryz.prog 72 #[.int .i64 20] w fun e w' => e = .returned (.int .i64 ((rowN 20 : Nat) : Int)) ∧ w = w' := by
  go_enter Tryz.func72, Tryz.ntmps72
  go_wp2
  go_ret
  exact ⟨rfl, rfl⟩
theorem rowOf_21 (w : World) : Calls Tryz.prog 72 #[.int .i64 21] w fun e w' => e = .returned (.int .i64 ((rowN 21 : Nat) : Int)) ∧ w = w' := by
  go_enter Tryz.func72, Tryz.ntmps72
  go_wp2
  go_ret
  exact ⟨rfl, rfl⟩
theorem rowOf_22 (w : World) : Calls Tryz.prog 72 #[.int .i64 22] w fun e w' => e = .returned (.int .i64 ((rowN 22 : Nat) : Int)) ∧ w = w' := by
  go_enter Tryz.func72, Tryz.ntmps72
  go_wp2
  go_ret
  exact ⟨rfl, rfl⟩
theorem rowOf_23 (w : World) : Calls Tryz.prog 72 #[.int .i64 23] w fun e w' => e = .returned (.int .i64 ((rowN 23 : Nat) : Int)) ∧ w = w' := by
  go_enter Tryz.func72, Tryz.ntmps72
  go_wp2
  go_ret
  exact ⟨rfl, rfl⟩
theorem rowOf_24 (w : World) : Calls Tryz.prog 72 #[.int .i64 24] w fun e w' => e = .returned (.int .i64 ((rowN 24 : Nat) : Int)) ∧ w = w' := by
  go_enter Tryz.func72, Tryz.ntmps72
  go_wp2
  go_ret
  exact ⟨rfl, rfl⟩
theorem rowOf_25 (w : World) : Calls Tryz.prog 72 #[.int .i64 25] w fun e w' => e = .returned (.int .i64 ((rowN 25 : Nat) : Int)) ∧ w = w' := by
  go_enter Tryz.func72, Tryz.ntmps72
  go_wp2
  go_ret
  exact ⟨rfl, rfl⟩
theorem rowOf_26 (w : World) : Calls Tryz.prog 72 #[.int .i64 26] w fun e w' => e = .returned (.int .i64 ((rowN 26 : Nat) : Int)) ∧ w = w' := by
  go_enter Tryz.func72, Tryz.ntmps72
  go_wp2
  go_ret
  exact ⟨rfl, rfl⟩
theorem rowOf_27 (w : World) : Calls Tryz.prog 72 #[.int .i64 27] w fun e w' => e = .returned (.int .i64 ((rowN 27 : Nat) : Int)) ∧ w = w' := by
  go_enter Tryz.func72, Tryz.ntmps72
  go_wp2
  go_ret
  exact ⟨rfl, rfl⟩
theorem rowOf_28 (w : World) : Calls Tryz.prog 72 #[.int .i64 28] w fun e w' => e = .returned (.int .i64 ((rowN 28 : Nat) : Int)) ∧ w = w' := by
  go_enter Tryz.func72, Tryz.ntmps72
  go_wp2
  go_ret
  exact ⟨rfl, rfl⟩
theorem rowOf_29 (w : World) : Calls Tryz.prog 72 #[.int .i64 29] w fun e w' => e = .returned (.int .i64 ((rowN 29 : Nat) : Int)) ∧ w = w' := by
  go_enter Tryz.func72, Tryz.ntmps72
  go_wp2
  go_ret
  exact ⟨rfl, rfl⟩
theorem rowOf_30 (w : World) : Calls Tryz.prog 72 #[.int .i64 30] w fun e w' => e = .returned (.int .i64 ((rowN 30 : Nat) : Int)) ∧ w = w' := by
  go_enter Tryz.func72, Tryz.ntmps72
  go_wp2
  go_ret
  exact ⟨rfl, rfl⟩
theorem rowOf_31 (w : World) : Calls Tryz.prog 72 #[.int .i64 31] w fun e w' => e = .returned (.int .i64 ((rowN 31 : Nat) : Int)) ∧ w = w' := by
  go_enter Tryz.func72, Tryz.ntmps72
  go_wp2
  go_ret
  exact ⟨rfl, rfl⟩
theorem rowOf_32 (w : World) : Calls Tryz.prog 72 #[.int .i64 32] w fun e w' => e = .returned (.int .i64 ((rowN 32 : Nat) : Int)) ∧ w = w' := by
  go_enter Tryz.func72, Tryz.ntmps72
  go_wp2
  go_ret
  exact ⟨rfl, rfl⟩
theorem rowOf_33 (w : World) : Calls Tryz.prog 72 #[.int .i64 33] w fun e w' => e = .returned (.int .i64 ((rowN 33 : Nat) : Int)) ∧ w = w' := by
  go_enter Tryz.func72, Tryz.ntmps72
  go_wp2
  go_ret
  exact ⟨rfl, rfl⟩
theorem rowOf_34 (w : World) : Calls Tryz.prog 72 #[.int .i64 34] w fun e w' => e = .returned (.int .i64 ((rowN 34 : Nat) : Int)) ∧ w = w' := by
  go_enter Tryz.func72, Tryz.ntmps72
  go_wp2
  go_ret
  exact ⟨rfl, rfl⟩
theorem rowOf_35 (w : World) : Calls Tryz.prog 72 #[.int .i64 35] w fun e w' => e = .returned (.int .i64 ((rowN 35 : Nat) : Int)) ∧ w = w' := by
  go_enter Tryz.func72, Tryz.ntmps72
  go_wp2
  go_ret
  exact ⟨rfl, rfl⟩
theorem rowOf_36 (w : World) : Calls Tryz.prog 72 #[.int .i64 36] w fun e w' => e = .returned (.int .i64 ((rowN 36 : Nat) : Int)) ∧ w = w' := by
  go_enter Tryz.func72, Tryz.ntmps72
  go_wp2
  go_ret
  exact ⟨rfl, rfl⟩
theorem rowOf_37 (w : World) : Calls Tryz.prog 72 #[.int .i64 37] w fun e w' => e = .returned (.int .i64 ((rowN 37 : Nat) : Int)) ∧ w = w' := by
  go_enter Tryz.func72, Tryz.ntmps72
  go_wp2
  go_ret
  exact ⟨rfl, rfl⟩
theorem rowOf_38 (w : World) : Calls Tryz.prog 72 #[.int .i64 38] w fun e w' => e = .returned (.int .i64 ((rowN 38 : Nat) : Int)) ∧ w = w' := by
  go_enter Tryz.func72, Tryz.ntmps72
  go_wp2
  go_ret
  exact ⟨rfl, rfl⟩
theorem rowOf_39 (w : World) : Calls Tryz.prog 72 #[.int .i64 39] w fun e w' => e = .returned (.int .i64 ((rowN 39 : Nat) : Int)) ∧ w = w' := by
  go_enter Tryz.func72, Tryz.ntmps72
  go_wp2
  go_ret
  exact ⟨rfl, rfl⟩
theorem rowOf_40 (w : World) : Calls Tryz.prog 72 #[.int .i64 40] w fun e w' => e = .returned (.int .i64 ((rowN 40 : Nat) : Int)) ∧ w = w' := by
  go_enter Tryz.func72, Tryz.ntmps72
  go_wp2
  go_ret
  exact ⟨rfl, rfl⟩
theorem rowOf_41 (w : World) : Calls Tryz.prog 72 #[.int .i64 41] w fun e w' => e = .returned (.int .i64 ((rowN 41 : Nat) : Int)) ∧ w = w' := by
  go_enter Tryz.func72, Tryz.ntmps72
  go_wp2
  go_ret
  exact ⟨rfl, rfl⟩
theorem rowOf_42 (w : World) : Calls Tryz.prog 72 #[.int .i64 42] w fun e w' => e = .returned (.int .i64 ((rowN 42 : Nat) : Int)) ∧ w = w' := by
  go_enter Tryz.func72, Tryz.ntmps72
  go_wp2
  go_ret
  exact ⟨rfl, rfl⟩
theorem rowOf_43 (w : World) : Calls Tryz.prog 72 #[.int .i64 43] w fun e w' => e = .returned (.int .i64 ((rowN 43 : Nat) : Int)) ∧ w = w' := by
  go_enter Tryz.func72, Tryz.ntmps72
  go_wp2
  go_ret
  exact ⟨rfl, rfl⟩
theorem rowOf_44 (w : World) : Calls Tryz.prog 72 #[.int .i64 44] w fun e w' => e = .returned (.int .i64 ((rowN 44 : Nat) : Int)) ∧ w = w' := by
  go_enter Tryz.func72, Tryz.ntmps72
  go_wp2
  go_ret
  exact ⟨rfl, rfl⟩
theorem rowOf_45 (w : World) : Calls Tryz.prog 72 #[.int .i64 45] w fun e w' => e = .returned (.int .i64 ((rowN 45 : Nat) : Int)) ∧ w = w' := by
  go_enter Tryz.func72, Tryz.ntmps72
  go_wp2
  go_ret
  exact ⟨rfl, rfl⟩
theorem rowOf_46 (w : World) : Calls Tryz.prog 72 #[.int .i64 46] w fun e w' => e = .returned (.int .i64 ((rowN 46 : Nat) : Int)) ∧ w = w' := by
  go_enter Tryz.func72, Tryz.ntmps72
  go_wp2
  go_ret
  exact ⟨rfl, rfl⟩
theorem rowOf_47 (w : World) : Calls Tryz.prog 72 #[.int .i64 47] w fun e w' => e = .returned (.int .i64 ((rowN 47 : Nat) : Int)) ∧ w = w' := by
  go_enter Tryz.func72, Tryz.ntmps72
  go_wp2
  go_ret
  exact ⟨rfl, rfl⟩
theorem rowOf_48 (w : World) : Calls Tryz.prog 72 #[.int .i64 48] w fun e w' => e = .returned (.int .i64 ((rowN 48 : Nat) : Int)) ∧ w = w' := by
  go_enter Tryz.func72, Tryz.ntmps72
  go_wp2
  go_ret
  exact ⟨rfl, rfl⟩
theorem rowOf_49 (w : World) : Calls Tryz.prog 72 #[.int .i64 49] w fun e w' => e = .returned (.int .i64 ((rowN 49 : Nat) : Int)) ∧ w = w' := by
  go_enter Tryz.func72, Tryz.ntmps72
  go_wp2
  go_ret
  exact ⟨rfl, rfl⟩
theorem rowOf_50 (w : World) : Calls Tryz.prog 72 #[.int .i64 50] w fun e w' => e = .returned (.int .i64 ((rowN 50 : Nat) : Int)) ∧ w = w' := by
  go_enter Tryz.func72, Tryz.ntmps72
  go_wp2
  go_ret
  exact ⟨rfl, rfl⟩
theorem rowOf_51 (w : World) : Calls Tryz.prog 72 #[.int .i64 51] w fun e w' => e = .returned (.int .i64 ((rowN 51 : Nat) : Int)) ∧ w = w' := by
  go_enter Tryz.func72, Tryz.ntmps72
  go_wp2
  go_ret
  exact ⟨rfl, rfl⟩
theorem rowOf_52 (w : World) : Calls Tryz.prog 72 #[.int .i64 52] w fun e w' => e = .returned (.int .i64 ((rowN 52 : Nat) : Int)) ∧ w = w' := by
  go_enter Tryz.func72, Tryz.ntmps72
  go_wp2
  go_ret
  exact ⟨rfl, rfl⟩
theorem rowOf_53 (w : World) : Calls Tryz.prog 72 #[.int .i64 53] w fun e w' => e = .returned (.int .i64 ((rowN 53 : Nat) : Int)) ∧ w = w' := by
  go_enter Tryz.func72, Tryz.ntmps72
  go_wp2
  go_ret
  exact ⟨rfl, rfl⟩
set_option maxHeartbeats 2000000 in
theorem rowOf_out (op : Int) (h : ¬(0 ≤ op ∧ op < 54)) (w : World) : Calls Tryz.prog 72 #[.int .i64 op] w fun e w' => e = .returned (.int .i64 ((rowN op : Nat) : Int)) ∧ w = w' := by
  rw [rowN_out h]
  have h1 : (op == 1) = false := by rw [beq_eq_false_iff_ne]; omega
  have h2 : (op == 2) = false := by rw [beq_eq_false_iff_ne]; omega
  have h3 : (op == 3) = false := by rw [beq_eq_false_iff_ne]; omega
  have h4 : (op == 4) = false := by rw [beq_eq_false_iff_ne]; omega
  have h5 : (op == 5) = false := by rw [beq_eq_false_iff_ne]; omega
  have h6 : (op == 6) = false := by rw [beq_eq_false_iff_ne]; omega
  have h7 : (op == 7) = false := by rw [beq_eq_false_iff_ne]; omega
  have h8 : (op == 8) = false := by rw [beq_eq_false_iff_ne]; omega
  have h9 : (op == 9) = false := by rw [beq_eq_false_iff_ne]; omega
  have h10 : (op == 10) = false := by rw [beq_eq_false_iff_ne]; omega
  have h11 : (op == 11) = false := by rw [beq_eq_false_iff_ne]; omega
  have h12 : (op == 12) = false := by rw [beq_eq_false_iff_ne]; omega
  have h13 : (op == 13) = false := by rw [beq_eq_false_iff_ne]; omega
  have h14 : (op == 14) = false := by rw [beq_eq_false_iff_ne]; omega
  have h15 : (op == 15) = false := by rw [beq_eq_false_iff_ne]; omega
  have h16 : (op == 16) = false := by rw [beq_eq_false_iff_ne]; omega
  have h17 : (op == 17) = false := by rw [beq_eq_false_iff_ne]; omega
  have h18 : (op == 18) = false := by rw [beq_eq_false_iff_ne]; omega
  have h19 : (op == 19) = false := by rw [beq_eq_false_iff_ne]; omega
  have h20 : (op == 20) = false := by rw [beq_eq_false_iff_ne]; omega
  have h21 : (op == 21) = false := by rw [beq_eq_false_iff_ne]; omega
  have h22 : (op == 22) = false := by rw [beq_eq_false_iff_ne]; omega
  have h23 : (op == 23) = false := by rw [beq_eq_false_iff_ne]; omega
  have h24 : (op == 24) = false := by rw [beq_eq_false_iff_ne]; omega
  have h25 : (op == 25) = false := by rw [beq_eq_false_iff_ne]; omega
  have h26 : (op == 26) = false := by rw [beq_eq_false_iff_ne]; omega
  have h27 : (op == 27) = false := by rw [beq_eq_false_iff_ne]; omega
  have h28 : (op == 28) = false := by rw [beq_eq_false_iff_ne]; omega
  have h29 : (op == 29) = false := by rw [beq_eq_false_iff_ne]; omega
  have h30 : (op == 30) = false := by rw [beq_eq_false_iff_ne]; omega
  have h31 : (op == 31) = false := by rw [beq_eq_false_iff_ne]; omega
  have h32 : (op == 32) = false := by rw [beq_eq_false_iff_ne]; omega
  have h33 : (op == 33) = false := by rw [beq_eq_false_iff_ne]; omega
  have h34 : (op == 34) = false := by rw [beq_eq_false_iff_ne]; omega
  have h35 : (op == 35) = false := by rw [beq_eq_false_iff_ne]; omega
  have h36 : (op == 36) = false := by rw [beq_eq_false_iff_ne]; omega
  have h37 : (op == 37) = false := by rw [beq_eq_false_iff_ne]; omega
  have h38 : (op == 38) = false := by rw [beq_eq_false_iff_ne]; omega
  have h39 : (op == 39) = false := by rw [beq_eq_false_iff_ne]; omega
  have h40 : (op == 40) = false := by rw [beq_eq_false_iff_ne]; omega
  have h41 : (op == 41) = false := by rw [beq_eq_false_iff_ne]; omega
  have h42 : (op == 42) = false := by rw [beq_eq_false_iff_ne]; omega
  have h43 : (op == 43) = false := by rw [beq_eq_false_iff_ne]; omega
  have h44 : (op == 44) = false := by rw [beq_eq_false_iff_ne]; omega
  have h45 : (op == 45) = false := by rw [beq_eq_false_iff_ne]; omega
  have h46 : (op == 46) = false := by rw [beq_eq_false_iff_ne]; omega
  have h47 : (op == 47) = false := by rw [beq_eq_false_iff_ne]; omega
  have h48 : (op == 48) = false := by rw [beq_eq_false_iff_ne]; omega
  have h49 : (op == 49) = false := by rw [beq_eq_false_iff_ne]; omega
  have h50 : (op == 50) = false := by rw [beq_eq_false_iff_ne]; omega
  have h51 : (op == 51) = false := by rw [beq_eq_false_iff_ne]; omega
  have h52 : (op == 52) = false := by rw [beq_eq_false_iff_ne]; omega
  have h53 : (op == 53) = false := by rw [beq_eq_false_iff_ne]; omega
  clear h
  go_enter Tryz.func72, Tryz.ntmps72
  go_wp2
  go_ret
  exact ⟨rfl, rfl⟩
theorem rowOf_any (op : Int) (w : World) : Calls Tryz.prog 72 #[.int .i64 op] w fun e w' => e = .returned (.int .i64 ((rowN op : Nat) : Int)) ∧ w = w' := by
  refine rowN_cases (fun op => ∀ w, Calls Tryz.prog 72 #[.int .i64 op] w fun e w' => e = .returned (.int .i64 ((rowN op : Nat) : Int)) ∧ w = w') ?_ (fun op h w => rowOf_out op h w) op w
  intro n hn
  match n, hn with
  | 0, _ => exact rowOf_0
  | 1, _ => exact rowOf_1
  | 2, _ => exact rowOf_2
  | 3, _ => exact rowOf_3
  | 4, _ => exact rowOf_4
  | 5, _ => exact rowOf_5
  | 6, _ => exact rowOf_6
  | 7, _ => exact rowOf_7
  | 8, _ => exact rowOf_8
  | 9, _ => exact rowOf_9
  | 10, _ => exact rowOf_10
  | 11, _ => exact rowOf_11
  | 12, _ => exact rowOf_12
  | 13, _ => exact rowOf_13
  | 14, _ => exact rowOf_14
  | 15, _ => exact rowOf_15
  | 16, _ => exact rowOf_16
  | 17, _ => exact rowOf_17
  | 18, _ => exact rowOf_18
  | 19, _ => exact rowOf_19
  | 20, _ => exact rowOf_20
  | 21, _ => exact rowOf_21
  | 22, _ => exact rowOf_22
  | 23, _ => exact rowOf_23
  | 24, _ => exact rowOf_24
  | 25, _ => exact rowOf_25
  | 26, _ => exact rowOf_26
  | 27, _ => exact rowOf_27
  | 28, _ => exact rowOf_28
  | 29, _ => exact rowOf_29
  | 30, _ => exact rowOf_30
  | 31, _ => exact rowOf_31
  | 32, _ => exact rowOf_32
  | 33, _ => exact rowOf_33
  | 34, _ => exact rowOf_34
  | 35, _ => exact rowOf_35
  | 36, _ => exact rowOf_36
  | 37, _ => exact rowOf_37
  | 38, _ => exact rowOf_38
  | 39, _ => exact rowOf_39
  | 40, _ => exact rowOf_40
  | 41, _ => exact rowOf_41
  | 42, _ => exact rowOf_42
  | 43, _ => exact rowOf_43
  | 44, _ => exact rowOf_44
  | 45, _ => exact rowOf_45
  | 46, _ => exact rowOf_46
  | 47, _ => exact rowOf_47
  | 48, _ => exact rowOf_48
  | 49, _ => exact rowOf_49
  | 50, _ => exact rowOf_50
  | 51, _ => exact rowOf_51
  | 52, _ => exact rowOf_52
  | 53, _ => exact rowOf_53
  | n + 54, hn => omega
end Go.Proofs.YtcdoidnfdkodoaaGreatDoor
