import Derived.Test.YtbalnlodkiejcaaDoorC5
namespace Go.Proofs.YtbalnlodkiejcaaDoor
open Go.RowKit
set_option linter.unusedVariables false
set_option linter.unusedSimpArgs false
set_option linter.unusedSectionVars false

theorem rreg_any (r : Int) (w : World) : Calls Tryd.prog 43 #[.int .i64 r] w fun e w' => e = .returned (.bool (regL r true)) ∧ w = w' := by
  go_enter Tryd.func43, Tryd.ntmps43
  go_wp2
  all_goals go_ret
  all_goals refine ⟨ret_bool ?_, rfl⟩
  all_goals rw [Bool.eq_iff_iff, regL_iff]
  all_goals simp
  all_goals omega
theorem rg_g (x : Int) (N : Int) (n : Nat) (hN : N = n) (h : 0 ≤ x ∧ x ≤ 4294967295) (w : World) :
    Calls Tryd.prog 30 #[.int .u32 x, .int .i64 N] w fun e w' => e = .returned (.int .i32 (sgn (held N) x)) ∧ w = w' := by
  subst hN
  exact rsigned_any x n h w
theorem is12 (i : Int) (hi : -2147483648 ≤ i ∧ i ≤ 2147483647) : (sgn (held 12) (i % 4294967296) == i) = (decide (-2048 ≤ i) && decide (i ≤ 2047)) := by
  rw [Bool.eq_iff_iff]
  simp only [beq_iff_eq, Bool.and_eq_true, decide_eq_true_eq]
  unfold sgn wrap32
  simp [held]
  omega
theorem is13 (i : Int) (hi : -2147483648 ≤ i ∧ i ≤ 2147483647) : (sgn (held 13) (i % 4294967296) == i) = (decide (-4096 ≤ i) && decide (i ≤ 4095)) := by
  rw [Bool.eq_iff_iff]
  simp only [beq_iff_eq, Bool.and_eq_true, decide_eq_true_eq]
  unfold sgn wrap32
  simp [held]
  omega
theorem is21 (i : Int) (hi : -2147483648 ≤ i ∧ i ≤ 2147483647) : (sgn (held 21) (i % 4294967296) == i) = (decide (-1048576 ≤ i) && decide (i ≤ 1048575)) := by
  rw [Bool.eq_iff_iff]
  simp only [beq_iff_eq, Bool.and_eq_true, decide_eq_true_eq]
  unfold sgn wrap32
  simp [held]
  omega
theorem rsd12 (i : Int) (hi : -2147483648 ≤ i ∧ i ≤ 2147483647) (w : World) : Calls Tryd.prog 44 #[.int .i32 i, .int .i64 12] w fun e w' => e = .returned (.bool (decide (-2048 ≤ i) && decide (i ≤ 2047))) ∧ w = w' := by
  rw [← is12 i hi]
  go_enter Tryd.func44, Tryd.ntmps44
  go_wp2_with fail
  refine (rg_g (i % 4294967296) 12 12 rfl (by omega) _).mono ?_
  rintro e w1 ⟨rfl, rfl⟩
  go_wp2_with fail
  go_ret
  exact ⟨rfl, rfl⟩
theorem rsd13 (i : Int) (hi : -2147483648 ≤ i ∧ i ≤ 2147483647) (w : World) : Calls Tryd.prog 44 #[.int .i32 i, .int .i64 13] w fun e w' => e = .returned (.bool (decide (-4096 ≤ i) && decide (i ≤ 4095))) ∧ w = w' := by
  rw [← is13 i hi]
  go_enter Tryd.func44, Tryd.ntmps44
  go_wp2_with fail
  refine (rg_g (i % 4294967296) 13 13 rfl (by omega) _).mono ?_
  rintro e w1 ⟨rfl, rfl⟩
  go_wp2_with fail
  go_ret
  exact ⟨rfl, rfl⟩
theorem rsd21 (i : Int) (hi : -2147483648 ≤ i ∧ i ≤ 2147483647) (w : World) : Calls Tryd.prog 44 #[.int .i32 i, .int .i64 21] w fun e w' => e = .returned (.bool (decide (-1048576 ≤ i) && decide (i ≤ 1048575))) ∧ w = w' := by
  rw [← is21 i hi]
  go_enter Tryd.func44, Tryd.ntmps44
  go_wp2_with fail
  refine (rg_g (i % 4294967296) 21 21 rfl (by omega) _).mono ?_
  rintro e w1 ⟨rfl, rfl⟩
  go_wp2_with fail
  go_ret
  exact ⟨rfl, rfl⟩

theorem u32_low12 (i : Int) : bits .and .u32 (i % 4294967296) 4095 = i % 4096 := by
  have h : 0 ≤ i % 4294967296 ∧ i % 4294967296 ≤ 4294967295 := by omega
  have := and_mask (i % 4294967296) 12 h (by decide)
  have e : ((2 : Int) ^ 12 - 1) = 4095 := by decide
  rw [e] at this
  rw [this]
  omega
theorem i32_low1 (i : Int) : bits .and .i32 i 1 = i % 2 := i32_mask i 1 (by decide) 1 (by decide)
set_option maxRecDepth 10000 in
set_option maxHeartbeats 4000000 in
theorem rIs1 (k : Nat) (h1 : 1 ≤ k) (h2 : k ≤ 47) (hf : formN k = 1) (d s t i : Int) (hi : -2147483648 ≤ i ∧ i ≤ 2147483647) (w : World) :
    Calls Tryd.prog 33 #[wordV k d s t i] w fun e w' => e = .returned (.bool (okF 1 d s t i)) ∧ Below w.heap.size w w' := by
  have ho := fun w => of_any k h1 h2 w
  unfold shapeV at ho
  rw [hf] at ho
  have a1 := u32_low12 i
  have a2 := i32_low1 i
  go_enter Tryd.func33, Tryd.ntmps33
  go_wp2_with fail
  go_region
  go_wp2_with fail
  refine (ho _).mono ?_
  rintro e w1 ⟨rfl, b1⟩
  have b1' : Below (w.drew.alloc (.cells #[.int .i64 k, .int .i64 d, .int .i64 s, .int .i64 t, .int .i32 i] 37)).heap.size (w.drew.alloc (.cells #[.int .i64 k, .int .i64 d, .int .i64 s, .int .i64 t, .int .i32 i] 37)) w1 := b1
  have q1 : ∀ o, (w1.alloc o).cell? ⟨w.heap.size, 1, none⟩ = some (.int .i64 d) := own_cell2 b1' 1 _ rfl
  have q2 : ∀ o, (w1.alloc o).cell? ⟨w.heap.size, 2, none⟩ = some (.int .i64 s) := own_cell2 b1' 2 _ rfl
  have q3 : ∀ o, (w1.alloc o).cell? ⟨w.heap.size, 3, none⟩ = some (.int .i64 t) := own_cell2 b1' 3 _ rfl
  have q4 : ∀ o, (w1.alloc o).cell? ⟨w.heap.size, 4, none⟩ = some (.int .i32 i) := own_cell2 b1' 4 _ rfl
  have hb := fun o => (((Below.refl w.heap.size w).drew.alloc (Nat.le_refl _) _).trans (b1'.mono (by simp))).alloc (Nat.le_trans (by simp) b1'.size) o
  go_wp2_with ((go_at_call 43; refine (rreg_any _ _).mono ?_; rintro e w2 ⟨rfl, rfl⟩))
  all_goals go_ret
  all_goals refine ⟨ret_bool ?_, hb _⟩
  all_goals clear q1 q2 q3 q4 hb b1 b1' ho a1 a2
  all_goals rw [Bool.eq_iff_iff]
  all_goals simp only [okF, Bool.and_eq_true, regL_iff, decide_eq_true_eq, beq_iff_eq] at *
  all_goals simp [hasD, hasS, hasT, leastN, greatestN, lowN] at *
  all_goals omega
set_option maxRecDepth 10000 in
set_option maxHeartbeats 4000000 in
theorem rIs2 (k : Nat) (h1 : 1 ≤ k) (h2 : k ≤ 47) (hf : formN k = 2) (d s t i : Int) (hi : -2147483648 ≤ i ∧ i ≤ 2147483647) (w : World) :
    Calls Tryd.prog 33 #[wordV k d s t i] w fun e w' => e = .returned (.bool (okF 2 d s t i)) ∧ Below w.heap.size w w' := by
  have ho := fun w => of_any k h1 h2 w
  unfold shapeV at ho
  rw [hf] at ho
  have a1 := u32_low12 i
  have a2 := i32_low1 i
  go_enter Tryd.func33, Tryd.ntmps33
  go_wp2_with fail
  go_region
  go_wp2_with fail
  refine (ho _).mono ?_
  rintro e w1 ⟨rfl, b1⟩
  have b1' : Below (w.drew.alloc (.cells #[.int .i64 k, .int .i64 d, .int .i64 s, .int .i64 t, .int .i32 i] 37)).heap.size (w.drew.alloc (.cells #[.int .i64 k, .int .i64 d, .int .i64 s, .int .i64 t, .int .i32 i] 37)) w1 := b1
  have q1 : ∀ o, (w1.alloc o).cell? ⟨w.heap.size, 1, none⟩ = some (.int .i64 d) := own_cell2 b1' 1 _ rfl
  have q2 : ∀ o, (w1.alloc o).cell? ⟨w.heap.size, 2, none⟩ = some (.int .i64 s) := own_cell2 b1' 2 _ rfl
  have q3 : ∀ o, (w1.alloc o).cell? ⟨w.heap.size, 3, none⟩ = some (.int .i64 t) := own_cell2 b1' 3 _ rfl
  have q4 : ∀ o, (w1.alloc o).cell? ⟨w.heap.size, 4, none⟩ = some (.int .i32 i) := own_cell2 b1' 4 _ rfl
  have hb := fun o => (((Below.refl w.heap.size w).drew.alloc (Nat.le_refl _) _).trans (b1'.mono (by simp))).alloc (Nat.le_trans (by simp) b1'.size) o
  go_wp2_with (first | (go_at_call 43; refine (rreg_any _ _).mono ?_; rintro e w2 ⟨rfl, rfl⟩) | (go_at_call 44; refine (rsd21 i hi _).mono ?_; rintro e w2 ⟨rfl, rfl⟩))
  all_goals go_ret
  all_goals refine ⟨ret_bool ?_, hb _⟩
  all_goals clear q1 q2 q3 q4 hb b1 b1' ho a1 a2
  all_goals rw [Bool.eq_iff_iff]
  all_goals simp only [okF, Bool.and_eq_true, regL_iff, decide_eq_true_eq, beq_iff_eq] at *
  all_goals simp [hasD, hasS, hasT, leastN, greatestN, lowN] at *
  all_goals omega
set_option maxRecDepth 10000 in
set_option maxHeartbeats 4000000 in
theorem rIs3 (k : Nat) (h1 : 1 ≤ k) (h2 : k ≤ 47) (hf : formN k = 3) (d s t i : Int) (hi : -2147483648 ≤ i ∧ i ≤ 2147483647) (w : World) :
    Calls Tryd.prog 33 #[wordV k d s t i] w fun e w' => e = .returned (.bool (okF 3 d s t i)) ∧ Below w.heap.size w w' := by
  have ho := fun w => of_any k h1 h2 w
  unfold shapeV at ho
  rw [hf] at ho
  have a1 := u32_low12 i
  have a2 := i32_low1 i
  go_enter Tryd.func33, Tryd.ntmps33
  go_wp2_with fail
  go_region
  go_wp2_with fail
  refine (ho _).mono ?_
  rintro e w1 ⟨rfl, b1⟩
  have b1' : Below (w.drew.alloc (.cells #[.int .i64 k, .int .i64 d, .int .i64 s, .int .i64 t, .int .i32 i] 37)).heap.size (w.drew.alloc (.cells #[.int .i64 k, .int .i64 d, .int .i64 s, .int .i64 t, .int .i32 i] 37)) w1 := b1
  have q1 : ∀ o, (w1.alloc o).cell? ⟨w.heap.size, 1, none⟩ = some (.int .i64 d) := own_cell2 b1' 1 _ rfl
  have q2 : ∀ o, (w1.alloc o).cell? ⟨w.heap.size, 2, none⟩ = some (.int .i64 s) := own_cell2 b1' 2 _ rfl
  have q3 : ∀ o, (w1.alloc o).cell? ⟨w.heap.size, 3, none⟩ = some (.int .i64 t) := own_cell2 b1' 3 _ rfl
  have q4 : ∀ o, (w1.alloc o).cell? ⟨w.heap.size, 4, none⟩ = some (.int .i32 i) := own_cell2 b1' 4 _ rfl
  have hb := fun o => (((Below.refl w.heap.size w).drew.alloc (Nat.le_refl _) _).trans (b1'.mono (by simp))).alloc (Nat.le_trans (by simp) b1'.size) o
  go_wp2_with (first | (go_at_call 43; refine (rreg_any _ _).mono ?_; rintro e w2 ⟨rfl, rfl⟩) | (go_at_call 44; refine (rsd12 i hi _).mono ?_; rintro e w2 ⟨rfl, rfl⟩))
  all_goals go_ret
  all_goals refine ⟨ret_bool ?_, hb _⟩
  all_goals clear q1 q2 q3 q4 hb b1 b1' ho a1 a2
  all_goals rw [Bool.eq_iff_iff]
  all_goals simp only [okF, Bool.and_eq_true, regL_iff, decide_eq_true_eq, beq_iff_eq] at *
  all_goals simp [hasD, hasS, hasT, leastN, greatestN, lowN] at *
  all_goals omega
set_option maxRecDepth 10000 in
set_option maxHeartbeats 4000000 in
theorem rIs4 (k : Nat) (h1 : 1 ≤ k) (h2 : k ≤ 47) (hf : formN k = 4) (d s t i : Int) (hi : -2147483648 ≤ i ∧ i ≤ 2147483647) (w : World) :
    Calls Tryd.prog 33 #[wordV k d s t i] w fun e w' => e = .returned (.bool (okF 4 d s t i)) ∧ Below w.heap.size w w' := by
  have ho := fun w => of_any k h1 h2 w
  unfold shapeV at ho
  rw [hf] at ho
  have a1 := u32_low12 i
  have a2 := i32_low1 i
  go_enter Tryd.func33, Tryd.ntmps33
  go_wp2_with fail
  go_region
  go_wp2_with fail
  refine (ho _).mono ?_
  rintro e w1 ⟨rfl, b1⟩
  have b1' : Below (w.drew.alloc (.cells #[.int .i64 k, .int .i64 d, .int .i64 s, .int .i64 t, .int .i32 i] 37)).heap.size (w.drew.alloc (.cells #[.int .i64 k, .int .i64 d, .int .i64 s, .int .i64 t, .int .i32 i] 37)) w1 := b1
  have q1 : ∀ o, (w1.alloc o).cell? ⟨w.heap.size, 1, none⟩ = some (.int .i64 d) := own_cell2 b1' 1 _ rfl
  have q2 : ∀ o, (w1.alloc o).cell? ⟨w.heap.size, 2, none⟩ = some (.int .i64 s) := own_cell2 b1' 2 _ rfl
  have q3 : ∀ o, (w1.alloc o).cell? ⟨w.heap.size, 3, none⟩ = some (.int .i64 t) := own_cell2 b1' 3 _ rfl
  have q4 : ∀ o, (w1.alloc o).cell? ⟨w.heap.size, 4, none⟩ = some (.int .i32 i) := own_cell2 b1' 4 _ rfl
  have hb := fun o => (((Below.refl w.heap.size w).drew.alloc (Nat.le_refl _) _).trans (b1'.mono (by simp))).alloc (Nat.le_trans (by simp) b1'.size) o
  go_wp2_with (first | (go_at_call 43; refine (rreg_any _ _).mono ?_; rintro e w2 ⟨rfl, rfl⟩) | (go_at_call 44; refine (rsd12 i hi _).mono ?_; rintro e w2 ⟨rfl, rfl⟩))
  all_goals go_ret
  all_goals refine ⟨ret_bool ?_, hb _⟩
  all_goals clear q1 q2 q3 q4 hb b1 b1' ho a1 a2
  all_goals rw [Bool.eq_iff_iff]
  all_goals simp only [okF, Bool.and_eq_true, regL_iff, decide_eq_true_eq, beq_iff_eq] at *
  all_goals simp [hasD, hasS, hasT, leastN, greatestN, lowN] at *
  all_goals omega
set_option maxRecDepth 10000 in
set_option maxHeartbeats 4000000 in
theorem rIs5 (k : Nat) (h1 : 1 ≤ k) (h2 : k ≤ 47) (hf : formN k = 5) (d s t i : Int) (hi : -2147483648 ≤ i ∧ i ≤ 2147483647) (w : World) :
    Calls Tryd.prog 33 #[wordV k d s t i] w fun e w' => e = .returned (.bool (okF 5 d s t i)) ∧ Below w.heap.size w w' := by
  have ho := fun w => of_any k h1 h2 w
  unfold shapeV at ho
  rw [hf] at ho
  have a1 := u32_low12 i
  have a2 := i32_low1 i
  go_enter Tryd.func33, Tryd.ntmps33
  go_wp2_with fail
  go_region
  go_wp2_with fail
  refine (ho _).mono ?_
  rintro e w1 ⟨rfl, b1⟩
  have b1' : Below (w.drew.alloc (.cells #[.int .i64 k, .int .i64 d, .int .i64 s, .int .i64 t, .int .i32 i] 37)).heap.size (w.drew.alloc (.cells #[.int .i64 k, .int .i64 d, .int .i64 s, .int .i64 t, .int .i32 i] 37)) w1 := b1
  have q1 : ∀ o, (w1.alloc o).cell? ⟨w.heap.size, 1, none⟩ = some (.int .i64 d) := own_cell2 b1' 1 _ rfl
  have q2 : ∀ o, (w1.alloc o).cell? ⟨w.heap.size, 2, none⟩ = some (.int .i64 s) := own_cell2 b1' 2 _ rfl
  have q3 : ∀ o, (w1.alloc o).cell? ⟨w.heap.size, 3, none⟩ = some (.int .i64 t) := own_cell2 b1' 3 _ rfl
  have q4 : ∀ o, (w1.alloc o).cell? ⟨w.heap.size, 4, none⟩ = some (.int .i32 i) := own_cell2 b1' 4 _ rfl
  have hb := fun o => (((Below.refl w.heap.size w).drew.alloc (Nat.le_refl _) _).trans (b1'.mono (by simp))).alloc (Nat.le_trans (by simp) b1'.size) o
  go_wp2_with (first | (go_at_call 43; refine (rreg_any _ _).mono ?_; rintro e w2 ⟨rfl, rfl⟩) | (go_at_call 44; refine (rsd12 i hi _).mono ?_; rintro e w2 ⟨rfl, rfl⟩))
  all_goals go_ret
  all_goals refine ⟨ret_bool ?_, hb _⟩
  all_goals clear q1 q2 q3 q4 hb b1 b1' ho a1 a2
  all_goals rw [Bool.eq_iff_iff]
  all_goals simp only [okF, Bool.and_eq_true, regL_iff, decide_eq_true_eq, beq_iff_eq] at *
  all_goals simp [hasD, hasS, hasT, leastN, greatestN, lowN] at *
  all_goals omega
set_option maxRecDepth 10000 in
set_option maxHeartbeats 4000000 in
theorem rIs6 (k : Nat) (h1 : 1 ≤ k) (h2 : k ≤ 47) (hf : formN k = 6) (d s t i : Int) (hi : -2147483648 ≤ i ∧ i ≤ 2147483647) (w : World) :
    Calls Tryd.prog 33 #[wordV k d s t i] w fun e w' => e = .returned (.bool (okF 6 d s t i)) ∧ Below w.heap.size w w' := by
  have ho := fun w => of_any k h1 h2 w
  unfold shapeV at ho
  rw [hf] at ho
  have a1 := u32_low12 i
  have a2 := i32_low1 i
  go_enter Tryd.func33, Tryd.ntmps33
  go_wp2_with fail
  go_region
  go_wp2_with fail
  refine (ho _).mono ?_
  rintro e w1 ⟨rfl, b1⟩
  have b1' : Below (w.drew.alloc (.cells #[.int .i64 k, .int .i64 d, .int .i64 s, .int .i64 t, .int .i32 i] 37)).heap.size (w.drew.alloc (.cells #[.int .i64 k, .int .i64 d, .int .i64 s, .int .i64 t, .int .i32 i] 37)) w1 := b1
  have q1 : ∀ o, (w1.alloc o).cell? ⟨w.heap.size, 1, none⟩ = some (.int .i64 d) := own_cell2 b1' 1 _ rfl
  have q2 : ∀ o, (w1.alloc o).cell? ⟨w.heap.size, 2, none⟩ = some (.int .i64 s) := own_cell2 b1' 2 _ rfl
  have q3 : ∀ o, (w1.alloc o).cell? ⟨w.heap.size, 3, none⟩ = some (.int .i64 t) := own_cell2 b1' 3 _ rfl
  have q4 : ∀ o, (w1.alloc o).cell? ⟨w.heap.size, 4, none⟩ = some (.int .i32 i) := own_cell2 b1' 4 _ rfl
  have hb := fun o => (((Below.refl w.heap.size w).drew.alloc (Nat.le_refl _) _).trans (b1'.mono (by simp))).alloc (Nat.le_trans (by simp) b1'.size) o
  go_wp2_with (first | (go_at_call 43; refine (rreg_any _ _).mono ?_; rintro e w2 ⟨rfl, rfl⟩) | (go_at_call 44; refine (rsd13 i hi _).mono ?_; rintro e w2 ⟨rfl, rfl⟩))
  all_goals go_ret
  all_goals refine ⟨ret_bool ?_, hb _⟩
  all_goals clear q1 q2 q3 q4 hb b1 b1' ho a1 a2
  all_goals rw [Bool.eq_iff_iff]
  all_goals simp only [okF, Bool.and_eq_true, regL_iff, decide_eq_true_eq, beq_iff_eq] at *
  all_goals simp [hasD, hasS, hasT, leastN, greatestN, lowN] at *
  all_goals omega
set_option maxRecDepth 10000 in
set_option maxHeartbeats 4000000 in
theorem rIs7 (k : Nat) (h1 : 1 ≤ k) (h2 : k ≤ 47) (hf : formN k = 7) (d s t i : Int) (hi : -2147483648 ≤ i ∧ i ≤ 2147483647) (w : World) :
    Calls Tryd.prog 33 #[wordV k d s t i] w fun e w' => e = .returned (.bool (okF 7 d s t i)) ∧ Below w.heap.size w w' := by
  have ho := fun w => of_any k h1 h2 w
  unfold shapeV at ho
  rw [hf] at ho
  have a1 := u32_low12 i
  have a2 := i32_low1 i
  go_enter Tryd.func33, Tryd.ntmps33
  go_wp2_with fail
  go_region
  go_wp2_with fail
  refine (ho _).mono ?_
  rintro e w1 ⟨rfl, b1⟩
  have b1' : Below (w.drew.alloc (.cells #[.int .i64 k, .int .i64 d, .int .i64 s, .int .i64 t, .int .i32 i] 37)).heap.size (w.drew.alloc (.cells #[.int .i64 k, .int .i64 d, .int .i64 s, .int .i64 t, .int .i32 i] 37)) w1 := b1
  have q1 : ∀ o, (w1.alloc o).cell? ⟨w.heap.size, 1, none⟩ = some (.int .i64 d) := own_cell2 b1' 1 _ rfl
  have q2 : ∀ o, (w1.alloc o).cell? ⟨w.heap.size, 2, none⟩ = some (.int .i64 s) := own_cell2 b1' 2 _ rfl
  have q3 : ∀ o, (w1.alloc o).cell? ⟨w.heap.size, 3, none⟩ = some (.int .i64 t) := own_cell2 b1' 3 _ rfl
  have q4 : ∀ o, (w1.alloc o).cell? ⟨w.heap.size, 4, none⟩ = some (.int .i32 i) := own_cell2 b1' 4 _ rfl
  have hb := fun o => (((Below.refl w.heap.size w).drew.alloc (Nat.le_refl _) _).trans (b1'.mono (by simp))).alloc (Nat.le_trans (by simp) b1'.size) o
  go_wp2_with ((go_at_call 43; refine (rreg_any _ _).mono ?_; rintro e w2 ⟨rfl, rfl⟩))
  all_goals go_ret
  all_goals refine ⟨ret_bool ?_, hb _⟩
  all_goals clear q1 q2 q3 q4 hb b1 b1' ho a1 a2
  all_goals rw [Bool.eq_iff_iff]
  all_goals simp only [okF, Bool.and_eq_true, regL_iff, decide_eq_true_eq, beq_iff_eq] at *
  all_goals simp [hasD, hasS, hasT, leastN, greatestN, lowN] at *
  all_goals omega
set_option maxRecDepth 10000 in
set_option maxHeartbeats 4000000 in
theorem rIs8 (k : Nat) (h1 : 1 ≤ k) (h2 : k ≤ 47) (hf : formN k = 8) (d s t i : Int) (hi : -2147483648 ≤ i ∧ i ≤ 2147483647) (w : World) :
    Calls Tryd.prog 33 #[wordV k d s t i] w fun e w' => e = .returned (.bool (okF 8 d s t i)) ∧ Below w.heap.size w w' := by
  have ho := fun w => of_any k h1 h2 w
  unfold shapeV at ho
  rw [hf] at ho
  have a1 := u32_low12 i
  have a2 := i32_low1 i
  go_enter Tryd.func33, Tryd.ntmps33
  go_wp2_with fail
  go_region
  go_wp2_with fail
  refine (ho _).mono ?_
  rintro e w1 ⟨rfl, b1⟩
  have b1' : Below (w.drew.alloc (.cells #[.int .i64 k, .int .i64 d, .int .i64 s, .int .i64 t, .int .i32 i] 37)).heap.size (w.drew.alloc (.cells #[.int .i64 k, .int .i64 d, .int .i64 s, .int .i64 t, .int .i32 i] 37)) w1 := b1
  have q1 : ∀ o, (w1.alloc o).cell? ⟨w.heap.size, 1, none⟩ = some (.int .i64 d) := own_cell2 b1' 1 _ rfl
  have q2 : ∀ o, (w1.alloc o).cell? ⟨w.heap.size, 2, none⟩ = some (.int .i64 s) := own_cell2 b1' 2 _ rfl
  have q3 : ∀ o, (w1.alloc o).cell? ⟨w.heap.size, 3, none⟩ = some (.int .i64 t) := own_cell2 b1' 3 _ rfl
  have q4 : ∀ o, (w1.alloc o).cell? ⟨w.heap.size, 4, none⟩ = some (.int .i32 i) := own_cell2 b1' 4 _ rfl
  have hb := fun o => (((Below.refl w.heap.size w).drew.alloc (Nat.le_refl _) _).trans (b1'.mono (by simp))).alloc (Nat.le_trans (by simp) b1'.size) o
  go_wp2_with ((go_at_call 43; refine (rreg_any _ _).mono ?_; rintro e w2 ⟨rfl, rfl⟩))
  all_goals go_ret
  all_goals refine ⟨ret_bool ?_, hb _⟩
  all_goals clear q1 q2 q3 q4 hb b1 b1' ho a1 a2
  all_goals rw [Bool.eq_iff_iff]
  all_goals simp only [okF, Bool.and_eq_true, regL_iff, decide_eq_true_eq, beq_iff_eq] at *
  all_goals simp [hasD, hasS, hasT, leastN, greatestN, lowN] at *
  all_goals omega
set_option maxRecDepth 10000 in
set_option maxHeartbeats 4000000 in
theorem rIs9 (k : Nat) (h1 : 1 ≤ k) (h2 : k ≤ 47) (hf : formN k = 9) (d s t i : Int) (hi : -2147483648 ≤ i ∧ i ≤ 2147483647) (w : World) :
    Calls Tryd.prog 33 #[wordV k d s t i] w fun e w' => e = .returned (.bool (okF 9 d s t i)) ∧ Below w.heap.size w w' := by
  have ho := fun w => of_any k h1 h2 w
  unfold shapeV at ho
  rw [hf] at ho
  have a1 := u32_low12 i
  have a2 := i32_low1 i
  go_enter Tryd.func33, Tryd.ntmps33
  go_wp2_with fail
  go_region
  go_wp2_with fail
  refine (ho _).mono ?_
  rintro e w1 ⟨rfl, b1⟩
  have b1' : Below (w.drew.alloc (.cells #[.int .i64 k, .int .i64 d, .int .i64 s, .int .i64 t, .int .i32 i] 37)).heap.size (w.drew.alloc (.cells #[.int .i64 k, .int .i64 d, .int .i64 s, .int .i64 t, .int .i32 i] 37)) w1 := b1
  have q1 : ∀ o, (w1.alloc o).cell? ⟨w.heap.size, 1, none⟩ = some (.int .i64 d) := own_cell2 b1' 1 _ rfl
  have q2 : ∀ o, (w1.alloc o).cell? ⟨w.heap.size, 2, none⟩ = some (.int .i64 s) := own_cell2 b1' 2 _ rfl
  have q3 : ∀ o, (w1.alloc o).cell? ⟨w.heap.size, 3, none⟩ = some (.int .i64 t) := own_cell2 b1' 3 _ rfl
  have q4 : ∀ o, (w1.alloc o).cell? ⟨w.heap.size, 4, none⟩ = some (.int .i32 i) := own_cell2 b1' 4 _ rfl
  have hb := fun o => (((Below.refl w.heap.size w).drew.alloc (Nat.le_refl _) _).trans (b1'.mono (by simp))).alloc (Nat.le_trans (by simp) b1'.size) o
  go_wp2_with ((go_at_call 43; refine (rreg_any _ _).mono ?_; rintro e w2 ⟨rfl, rfl⟩))
  all_goals go_ret
  all_goals refine ⟨ret_bool ?_, hb _⟩
  all_goals clear q1 q2 q3 q4 hb b1 b1' ho a1 a2
  all_goals rw [Bool.eq_iff_iff]
  all_goals simp only [okF, Bool.and_eq_true, regL_iff, decide_eq_true_eq, beq_iff_eq] at *
  all_goals simp [hasD, hasS, hasT, leastN, greatestN, lowN] at *
  all_goals omega
end Go.Proofs.YtbalnlodkiejcaaDoor
