/- Conditions. -/
import Derived.Test.YtgamghmeefoopaaDoorT4
namespace Go.Proofs.YtgamghmeefoopaaDoor
open Go.RowKit
set_option linter.unusedVariables false
set_option linter.unusedSimpArgs false
set_option linter.unusedSectionVars false
def evenL (f : Nat → Bool) : Nat → Bool
  | 0 => f 5 | 1 => f 0 | 2 => f 3 | 3 => f 0 || f 3 | 4 => f 4 | 5 => f 1 | 6 => f 4 != f 5 | _ => f 3 || (f 4 != f 5)
def condL (f : Nat → Bool) (c : Nat) : Bool := evenL f (c / 2) != (c % 2 == 1)
def no16 (i : Int) : Nat := (i % 16).toNat
theorem reasons_0 (f : Nat → Bool) (w : World) : Calls Tryd.prog 31 #[flV f, .int .i64 0] w fun e w' => e = .returned (.agg #[.bool (false), .bool (false), .bool (false), .bool (false), .bool (false), .bool (f 5)]) ∧ Below w.heap.size w w' := by
  go_enter Tryd.func31, Tryd.ntmps31
  go_wp2
  refine bodyPost_ret (v := .agg #[.bool (false), .bool (false), .bool (false), .bool (false), .bool (false), .bool (f 5)]) (by simp [results, Tryd.results31, go_sem, bne]) rfl ⟨rfl, ?_⟩
  exact ((Below.refl _ _).alloc (Nat.le_refl _) _).alloc (by simp) _
theorem reasons_1 (f : Nat → Bool) (w : World) : Calls Tryd.prog 31 #[flV f, .int .i64 1] w fun e w' => e = .returned (.agg #[.bool (f 0), .bool (false), .bool (false), .bool (false), .bool (false), .bool (false)]) ∧ Below w.heap.size w w' := by
  go_enter Tryd.func31, Tryd.ntmps31
  go_wp2
  refine bodyPost_ret (v := .agg #[.bool (f 0), .bool (false), .bool (false), .bool (false), .bool (false), .bool (false)]) (by simp [results, Tryd.results31, go_sem, bne]) rfl ⟨rfl, ?_⟩
  exact ((Below.refl _ _).alloc (Nat.le_refl _) _).alloc (by simp) _
theorem reasons_2 (f : Nat → Bool) (w : World) : Calls Tryd.prog 31 #[flV f, .int .i64 2] w fun e w' => e = .returned (.agg #[.bool (false), .bool (false), .bool (false), .bool (f 3), .bool (false), .bool (false)]) ∧ Below w.heap.size w w' := by
  go_enter Tryd.func31, Tryd.ntmps31
  go_wp2
  refine bodyPost_ret (v := .agg #[.bool (false), .bool (false), .bool (false), .bool (f 3), .bool (false), .bool (false)]) (by simp [results, Tryd.results31, go_sem, bne]) rfl ⟨rfl, ?_⟩
  exact ((Below.refl _ _).alloc (Nat.le_refl _) _).alloc (by simp) _
theorem reasons_3 (f : Nat → Bool) (w : World) : Calls Tryd.prog 31 #[flV f, .int .i64 3] w fun e w' => e = .returned (.agg #[.bool (f 0), .bool (false), .bool (false), .bool (f 3), .bool (false), .bool (false)]) ∧ Below w.heap.size w w' := by
  go_enter Tryd.func31, Tryd.ntmps31
  go_wp2
  refine bodyPost_ret (v := .agg #[.bool (f 0), .bool (false), .bool (false), .bool (f 3), .bool (false), .bool (false)]) (by simp [results, Tryd.results31, go_sem, bne]) rfl ⟨rfl, ?_⟩
  exact ((Below.refl _ _).alloc (Nat.le_refl _) _).alloc (by simp) _
theorem reasons_4 (f : Nat → Bool) (w : World) : Calls Tryd.prog 31 #[flV f, .int .i64 4] w fun e w' => e = .returned (.agg #[.bool (false), .bool (false), .bool (false), .bool (false), .bool (f 4), .bool (false)]) ∧ Below w.heap.size w w' := by
  go_enter Tryd.func31, Tryd.ntmps31
  go_wp2
  refine bodyPost_ret (v := .agg #[.bool (false), .bool (false), .bool (false), .bool (false), .bool (f 4), .bool (false)]) (by simp [results, Tryd.results31, go_sem, bne]) rfl ⟨rfl, ?_⟩
  exact ((Below.refl _ _).alloc (Nat.le_refl _) _).alloc (by simp) _
theorem reasons_5 (f : Nat → Bool) (w : World) : Calls Tryd.prog 31 #[flV f, .int .i64 5] w fun e w' => e = .returned (.agg #[.bool (false), .bool (f 1), .bool (false), .bool (false), .bool (false), .bool (false)]) ∧ Below w.heap.size w w' := by
  go_enter Tryd.func31, Tryd.ntmps31
  go_wp2
  refine bodyPost_ret (v := .agg #[.bool (false), .bool (f 1), .bool (false), .bool (false), .bool (false), .bool (false)]) (by simp [results, Tryd.results31, go_sem, bne]) rfl ⟨rfl, ?_⟩
  exact ((Below.refl _ _).alloc (Nat.le_refl _) _).alloc (by simp) _
theorem reasons_6 (f : Nat → Bool) (w : World) : Calls Tryd.prog 31 #[flV f, .int .i64 6] w fun e w' => e = .returned (.agg #[.bool (false), .bool (false), .bool (false), .bool (false), .bool (f 4 != f 5), .bool (false)]) ∧ Below w.heap.size w w' := by
  go_enter Tryd.func31, Tryd.ntmps31
  go_wp2
  refine bodyPost_ret (v := .agg #[.bool (false), .bool (false), .bool (false), .bool (false), .bool (f 4 != f 5), .bool (false)]) (by simp [results, Tryd.results31, go_sem, bne]) rfl ⟨rfl, ?_⟩
  exact ((Below.refl _ _).alloc (Nat.le_refl _) _).alloc (by simp) _
theorem reasons_7 (f : Nat → Bool) (w : World) : Calls Tryd.prog 31 #[flV f, .int .i64 7] w fun e w' => e = .returned (.agg #[.bool (false), .bool (false), .bool (false), .bool (f 3), .bool (f 4 != f 5), .bool (false)]) ∧ Below w.heap.size w w' := by
  go_enter Tryd.func31, Tryd.ntmps31
  go_wp2
  refine bodyPost_ret (v := .agg #[.bool (false), .bool (false), .bool (false), .bool (f 3), .bool (f 4 != f 5), .bool (false)]) (by simp [results, Tryd.results31, go_sem, bne]) rfl ⟨rfl, ?_⟩
  exact ((Below.refl _ _).alloc (Nat.le_refl _) _).alloc (by simp) _
theorem Cond_0 (f : Nat → Bool) (i : Int) (hi : -9223372036854775808 ≤ i ∧ i ≤ 9223372036854775807) (e : i % 16 = 0) (w : World) : Calls Tryd.prog 14 #[flV f, .int .i64 i] w fun e w' => e = .returned (.bool (condL f 0)) ∧ Below w.heap.size w w' := by
  have hb : ∀ w, Calls Tryd.prog 30 #[.int .i64 i, .int .i64 16] w fun e w' => e = .returned (.int .i64 0) ∧ w = w' := fun w => by
    have := left_16 i hi w
    rw [e] at this
    exact this
  clear e
  go_enter Tryd.func14, Tryd.ntmps14
  go_wp2_with (first | (go_at_call 30; refine (hb _).mono ?_; rintro e w' ⟨rfl, rfl⟩) | (with_reducible refine (reasons_0 f _).mono ?_; rintro e w1 ⟨rfl, b1⟩))
  all_goals go_ret
  all_goals exact ⟨ret_bool (by cases h5 : f 5 <;> simp_all [condL, evenL]), ((Below.refl _ _).alloc (Nat.le_refl _) _).trans (b1.mono (by simp))⟩
theorem Cond_1 (f : Nat → Bool) (i : Int) (hi : -9223372036854775808 ≤ i ∧ i ≤ 9223372036854775807) (e : i % 16 = 1) (w : World) : Calls Tryd.prog 14 #[flV f, .int .i64 i] w fun e w' => e = .returned (.bool (condL f 1)) ∧ Below w.heap.size w w' := by
  have hb : ∀ w, Calls Tryd.prog 30 #[.int .i64 i, .int .i64 16] w fun e w' => e = .returned (.int .i64 1) ∧ w = w' := fun w => by
    have := left_16 i hi w
    rw [e] at this
    exact this
  clear e
  go_enter Tryd.func14, Tryd.ntmps14
  go_wp2_with (first | (go_at_call 30; refine (hb _).mono ?_; rintro e w' ⟨rfl, rfl⟩) | (with_reducible refine (reasons_0 f _).mono ?_; rintro e w1 ⟨rfl, b1⟩))
  all_goals go_ret
  all_goals exact ⟨ret_bool (by cases h5 : f 5 <;> simp_all [condL, evenL]), ((Below.refl _ _).alloc (Nat.le_refl _) _).trans (b1.mono (by simp))⟩
theorem Cond_2 (f : Nat → Bool) (i : Int) (hi : -9223372036854775808 ≤ i ∧ i ≤ 9223372036854775807) (e : i % 16 = 2) (w : World) : Calls Tryd.prog 14 #[flV f, .int .i64 i] w fun e w' => e = .returned (.bool (condL f 2)) ∧ Below w.heap.size w w' := by
  have hb : ∀ w, Calls Tryd.prog 30 #[.int .i64 i, .int .i64 16] w fun e w' => e = .returned (.int .i64 2) ∧ w = w' := fun w => by
    have := left_16 i hi w
    rw [e] at this
    exact this
  clear e
  go_enter Tryd.func14, Tryd.ntmps14
  go_wp2_with (first | (go_at_call 30; refine (hb _).mono ?_; rintro e w' ⟨rfl, rfl⟩) | (with_reducible refine (reasons_1 f _).mono ?_; rintro e w1 ⟨rfl, b1⟩))
  all_goals go_ret
  all_goals exact ⟨ret_bool (by cases h0 : f 0 <;> simp_all [condL, evenL]), ((Below.refl _ _).alloc (Nat.le_refl _) _).trans (b1.mono (by simp))⟩
theorem Cond_3 (f : Nat → Bool) (i : Int) (hi : -9223372036854775808 ≤ i ∧ i ≤ 9223372036854775807) (e : i % 16 = 3) (w : World) : Calls Tryd.prog 14 #[flV f, .int .i64 i] w fun e w' => e = .returned (.bool (condL f 3)) ∧ Below w.heap.size w w' := by
  have hb : ∀ w, Calls Tryd.prog 30 #[.int .i64 i, .int .i64 16] w fun e w' => e = .returned (.int .i64 3) ∧ w = w' := fun w => by
    have := left_16 i hi w
    rw [e] at this
    exact this
  clear e
  go_enter Tryd.func14, Tryd.ntmps14
  go_wp2_with (first | (go_at_call 30; refine (hb _).mono ?_; rintro e w' ⟨rfl, rfl⟩) | (with_reducible refine (reasons_1 f _).mono ?_; rintro e w1 ⟨rfl, b1⟩))
  all_goals go_ret
  all_goals exact ⟨ret_bool (by cases h0 : f 0 <;> simp_all [condL, evenL]), ((Below.refl _ _).alloc (Nat.le_refl _) _).trans (b1.mono (by simp))⟩
theorem Cond_4 (f : Nat → Bool) (i : Int) (hi : -9223372036854775808 ≤ i ∧ i ≤ 9223372036854775807) (e : i % 16 = 4) (w : World) : Calls Tryd.prog 14 #[flV f, .int .i64 i] w fun e w' => e = .returned (.bool (condL f 4)) ∧ Below w.heap.size w w' := by
  have hb : ∀ w, Calls Tryd.prog 30 #[.int .i64 i, .int .i64 16] w fun e w' => e = .returned (.int .i64 4) ∧ w = w' := fun w => by
    have := left_16 i hi w
    rw [e] at this
    exact this
  clear e
  go_enter Tryd.func14, Tryd.ntmps14
  go_wp2_with (first | (go_at_call 30; refine (hb _).mono ?_; rintro e w' ⟨rfl, rfl⟩) | (with_reducible refine (reasons_2 f _).mono ?_; rintro e w1 ⟨rfl, b1⟩))
  all_goals go_ret
  all_goals exact ⟨ret_bool (by cases h3 : f 3 <;> simp_all [condL, evenL]), ((Below.refl _ _).alloc (Nat.le_refl _) _).trans (b1.mono (by simp))⟩
theorem Cond_5 (f : Nat → Bool) (i : Int) (hi : -9223372036854775808 ≤ i ∧ i ≤ 9223372036854775807) (e : i % 16 = 5) (w : World) : Calls Tryd.prog 14 #[flV f, .int .i64 i] w fun e w' => e = .returned (.bool (condL f 5)) ∧ Below w.heap.size w w' := by
  have hb : ∀ w, Calls Tryd.prog 30 #[.int .i64 i, .int .i64 16] w fun e w' => e = .returned (.int .i64 5) ∧ w = w' := fun w => by
    have := left_16 i hi w
    rw [e] at this
    exact this
  clear e
  go_enter Tryd.func14, Tryd.ntmps14
  go_wp2_with (first | (go_at_call 30; refine (hb _).mono ?_; rintro e w' ⟨rfl, rfl⟩) | (with_reducible refine (reasons_2 f _).mono ?_; rintro e w1 ⟨rfl, b1⟩))
  all_goals go_ret
  all_goals exact ⟨ret_bool (by cases h3 : f 3 <;> simp_all [condL, evenL]), ((Below.refl _ _).alloc (Nat.le_refl _) _).trans (b1.mono (by simp))⟩
theorem Cond_6 (f : Nat → Bool) (i : Int) (hi : -9223372036854775808 ≤ i ∧ i ≤ 9223372036854775807) (e : i % 16 = 6) (w : World) : Calls Tryd.prog 14 #[flV f, .int .i64 i] w fun e w' => e = .returned (.bool (condL f 6)) ∧ Below w.heap.size w w' := by
  have hb : ∀ w, Calls Tryd.prog 30 #[.int .i64 i, .int .i64 16] w fun e w' => e = .returned (.int .i64 6) ∧ w = w' := fun w => by
    have := left_16 i hi w
    rw [e] at this
    exact this
  clear e
  go_enter Tryd.func14, Tryd.ntmps14
  go_wp2_with (first | (go_at_call 30; refine (hb _).mono ?_; rintro e w' ⟨rfl, rfl⟩) | (with_reducible refine (reasons_3 f _).mono ?_; rintro e w1 ⟨rfl, b1⟩))
  all_goals go_ret
  all_goals exact ⟨ret_bool (by cases h0 : f 0 <;> cases h3 : f 3 <;> simp_all [condL, evenL]), ((Below.refl _ _).alloc (Nat.le_refl _) _).trans (b1.mono (by simp))⟩
theorem Cond_7 (f : Nat → Bool) (i : Int) (hi : -9223372036854775808 ≤ i ∧ i ≤ 9223372036854775807) (e : i % 16 = 7) (w : World) : Calls Tryd.prog 14 #[flV f, .int .i64 i] w fun e w' => e = .returned (.bool (condL f 7)) ∧ Below w.heap.size w w' := by
  have hb : ∀ w, Calls Tryd.prog 30 #[.int .i64 i, .int .i64 16] w fun e w' => e = .returned (.int .i64 7) ∧ w = w' := fun w => by
    have := left_16 i hi w
    rw [e] at this
    exact this
  clear e
  go_enter Tryd.func14, Tryd.ntmps14
  go_wp2_with (first | (go_at_call 30; refine (hb _).mono ?_; rintro e w' ⟨rfl, rfl⟩) | (with_reducible refine (reasons_3 f _).mono ?_; rintro e w1 ⟨rfl, b1⟩))
  all_goals go_ret
  all_goals exact ⟨ret_bool (by cases h0 : f 0 <;> cases h3 : f 3 <;> simp_all [condL, evenL]), ((Below.refl _ _).alloc (Nat.le_refl _) _).trans (b1.mono (by simp))⟩
theorem Cond_8 (f : Nat → Bool) (i : Int) (hi : -9223372036854775808 ≤ i ∧ i ≤ 9223372036854775807) (e : i % 16 = 8) (w : World) : Calls Tryd.prog 14 #[flV f, .int .i64 i] w fun e w' => e = .returned (.bool (condL f 8)) ∧ Below w.heap.size w w' := by
  have hb : ∀ w, Calls Tryd.prog 30 #[.int .i64 i, .int .i64 16] w fun e w' => e = .returned (.int .i64 8) ∧ w = w' := fun w => by
    have := left_16 i hi w
    rw [e] at this
    exact this
  clear e
  go_enter Tryd.func14, Tryd.ntmps14
  go_wp2_with (first | (go_at_call 30; refine (hb _).mono ?_; rintro e w' ⟨rfl, rfl⟩) | (with_reducible refine (reasons_4 f _).mono ?_; rintro e w1 ⟨rfl, b1⟩))
  all_goals go_ret
  all_goals exact ⟨ret_bool (by cases h4 : f 4 <;> simp_all [condL, evenL]), ((Below.refl _ _).alloc (Nat.le_refl _) _).trans (b1.mono (by simp))⟩
theorem Cond_9 (f : Nat → Bool) (i : Int) (hi : -9223372036854775808 ≤ i ∧ i ≤ 9223372036854775807) (e : i % 16 = 9) (w : World) : Calls Tryd.prog 14 #[flV f, .int .i64 i] w fun e w' => e = .returned (.bool (condL f 9)) ∧ Below w.heap.size w w' := by
  have hb : ∀ w, Calls Tryd.prog 30 #[.int .i64 i, .int .i64 16] w fun e w' => e = .returned (.int .i64 9) ∧ w = w' := fun w => by
    have := left_16 i hi w
    rw [e] at this
    exact this
  clear e
  go_enter Tryd.func14, Tryd.ntmps14
  go_wp2_with (first | (go_at_call 30; refine (hb _).mono ?_; rintro e w' ⟨rfl, rfl⟩) | (with_reducible refine (reasons_4 f _).mono ?_; rintro e w1 ⟨rfl, b1⟩))
  all_goals go_ret
  all_goals exact ⟨ret_bool (by cases h4 : f 4 <;> simp_all [condL, evenL]), ((Below.refl _ _).alloc (Nat.le_refl _) _).trans (b1.mono (by simp))⟩
theorem Cond_10 (f : Nat → Bool) (i : Int) (hi : -9223372036854775808 ≤ i ∧ i ≤ 9223372036854775807) (e : i % 16 = 10) (w : World) : Calls Tryd.prog 14 #[flV f, .int .i64 i] w fun e w' => e = .returned (.bool (condL f 10)) ∧ Below w.heap.size w w' := by
  have hb : ∀ w, Calls Tryd.prog 30 #[.int .i64 i, .int .i64 16] w fun e w' => e = .returned (.int .i64 10) ∧ w = w' := fun w => by
    have := left_16 i hi w
    rw [e] at this
    exact this
  clear e
  go_enter Tryd.func14, Tryd.ntmps14
  go_wp2_with (first | (go_at_call 30; refine (hb _).mono ?_; rintro e w' ⟨rfl, rfl⟩) | (with_reducible refine (reasons_5 f _).mono ?_; rintro e w1 ⟨rfl, b1⟩))
  all_goals go_ret
  all_goals exact ⟨ret_bool (by cases h1 : f 1 <;> simp_all [condL, evenL]), ((Below.refl _ _).alloc (Nat.le_refl _) _).trans (b1.mono (by simp))⟩
theorem Cond_11 (f : Nat → Bool) (i : Int) (hi : -9223372036854775808 ≤ i ∧ i ≤ 9223372036854775807) (e : i % 16 = 11) (w : World) : Calls Tryd.prog 14 #[flV f, .int .i64 i] w fun e w' => e = .returned (.bool (condL f 11)) ∧ Below w.heap.size w w' := by
  have hb : ∀ w, Calls Tryd.prog 30 #[.int .i64 i, .int .i64 16] w fun e w' => e = .returned (.int .i64 11) ∧ w = w' := fun w => by
    have := left_16 i hi w
    rw [e] at this
    exact this
  clear e
  go_enter Tryd.func14, Tryd.ntmps14
  go_wp2_with (first | (go_at_call 30; refine (hb _).mono ?_; rintro e w' ⟨rfl, rfl⟩) | (with_reducible refine (reasons_5 f _).mono ?_; rintro e w1 ⟨rfl, b1⟩))
  all_goals go_ret
  all_goals exact ⟨ret_bool (by cases h1 : f 1 <;> simp_all [condL, evenL]), ((Below.refl _ _).alloc (Nat.le_refl _) _).trans (b1.mono (by simp))⟩
theorem Cond_12 (f : Nat → Bool) (i : Int) (hi : -9223372036854775808 ≤ i ∧ i ≤ 9223372036854775807) (e : i % 16 = 12) (w : World) : Calls Tryd.prog 14 #[flV f, .int .i64 i] w fun e w' => e = .returned (.bool (condL f 12)) ∧ Below w.heap.size w w' := by
  have hb : ∀ w, Calls Tryd.prog 30 #[.int .i64 i, .int .i64 16] w fun e w' => e = .returned (.int .i64 12) ∧ w = w' := fun w => by
    have := left_16 i hi w
    rw [e] at this
    exact this
  clear e
  go_enter Tryd.func14, Tryd.ntmps14
  go_wp2_with (first | (go_at_call 30; refine (hb _).mono ?_; rintro e w' ⟨rfl, rfl⟩) | (with_reducible refine (reasons_6 f _).mono ?_; rintro e w1 ⟨rfl, b1⟩))
  all_goals go_ret
  all_goals exact ⟨ret_bool (by cases h4 : f 4 <;> cases h5 : f 5 <;> simp_all [condL, evenL]), ((Below.refl _ _).alloc (Nat.le_refl _) _).trans (b1.mono (by simp))⟩
theorem Cond_13 (f : Nat → Bool) (i : Int) (hi : -9223372036854775808 ≤ i ∧ i ≤ 9223372036854775807) (e : i % 16 = 13) (w : World) : Calls Tryd.prog 14 #[flV f, .int .i64 i] w fun e w' => e = .returned (.bool (condL f 13)) ∧ Below w.heap.size w w' := by
  have hb : ∀ w, Calls Tryd.prog 30 #[.int .i64 i, .int .i64 16] w fun e w' => e = .returned (.int .i64 13) ∧ w = w' := fun w => by
    have := left_16 i hi w
    rw [e] at this
    exact this
  clear e
  go_enter Tryd.func14, Tryd.ntmps14
  go_wp2_with (first | (go_at_call 30; refine (hb _).mono ?_; rintro e w' ⟨rfl, rfl⟩) | (with_reducible refine (reasons_6 f _).mono ?_; rintro e w1 ⟨rfl, b1⟩))
  all_goals go_ret
  all_goals exact ⟨ret_bool (by cases h4 : f 4 <;> cases h5 : f 5 <;> simp_all [condL, evenL]), ((Below.refl _ _).alloc (Nat.le_refl _) _).trans (b1.mono (by simp))⟩
theorem Cond_14 (f : Nat → Bool) (i : Int) (hi : -9223372036854775808 ≤ i ∧ i ≤ 9223372036854775807) (e : i % 16 = 14) (w : World) : Calls Tryd.prog 14 #[flV f, .int .i64 i] w fun e w' => e = .returned (.bool (condL f 14)) ∧ Below w.heap.size w w' := by
  have hb : ∀ w, Calls Tryd.prog 30 #[.int .i64 i, .int .i64 16] w fun e w' => e = .returned (.int .i64 14) ∧ w = w' := fun w => by
    have := left_16 i hi w
    rw [e] at this
    exact this
  clear e
  go_enter Tryd.func14, Tryd.ntmps14
  go_wp2_with (first | (go_at_call 30; refine (hb _).mono ?_; rintro e w' ⟨rfl, rfl⟩) | (with_reducible refine (reasons_7 f _).mono ?_; rintro e w1 ⟨rfl, b1⟩))
  all_goals go_ret
  all_goals exact ⟨ret_bool (by cases h3 : f 3 <;> cases h4 : f 4 <;> cases h5 : f 5 <;> simp_all [condL, evenL]), ((Below.refl _ _).alloc (Nat.le_refl _) _).trans (b1.mono (by simp))⟩
theorem Cond_15 (f : Nat → Bool) (i : Int) (hi : -9223372036854775808 ≤ i ∧ i ≤ 9223372036854775807) (e : i % 16 = 15) (w : World) : Calls Tryd.prog 14 #[flV f, .int .i64 i] w fun e w' => e = .returned (.bool (condL f 15)) ∧ Below w.heap.size w w' := by
  have hb : ∀ w, Calls Tryd.prog 30 #[.int .i64 i, .int .i64 16] w fun e w' => e = .returned (.int .i64 15) ∧ w = w' := fun w => by
    have := left_16 i hi w
    rw [e] at this
    exact this
  clear e
  go_enter Tryd.func14, Tryd.ntmps14
  go_wp2_with (first | (go_at_call 30; refine (hb _).mono ?_; rintro e w' ⟨rfl, rfl⟩) | (with_reducible refine (reasons_7 f _).mono ?_; rintro e w1 ⟨rfl, b1⟩))
  all_goals go_ret
  all_goals exact ⟨ret_bool (by cases h3 : f 3 <;> cases h4 : f 4 <;> cases h5 : f 5 <;> simp_all [condL, evenL]), ((Below.refl _ _).alloc (Nat.le_refl _) _).trans (b1.mono (by simp))⟩
theorem rCond_0 (f : Nat → Bool) (i : Int) (e : i % 16 = 0) (w : World) : Calls Tryd.prog 15 #[flV f, .int .i64 i] w fun e w' => e = .returned (.bool (condL f 0)) ∧ Below w.heap.size w w' := by
  have h15 : bits .and .i64 i 15 = 0 := (and15 i).trans e
  have h1 : bits .and .i64 i 1 = 0 := (and1 i).trans (by omega)
  clear e
  go_enter Tryd.func15, Tryd.ntmps15
  go_wp2
  all_goals go_ret
  all_goals exact ⟨ret_bool (by cases h5 : f 5 <;> simp_all [condL, evenL]), (Below.refl _ _).alloc (Nat.le_refl _) _⟩
theorem rCond_1 (f : Nat → Bool) (i : Int) (e : i % 16 = 1) (w : World) : Calls Tryd.prog 15 #[flV f, .int .i64 i] w fun e w' => e = .returned (.bool (condL f 1)) ∧ Below w.heap.size w w' := by
  have h15 : bits .and .i64 i 15 = 1 := (and15 i).trans e
  have h1 : bits .and .i64 i 1 = 1 := (and1 i).trans (by omega)
  clear e
  go_enter Tryd.func15, Tryd.ntmps15
  go_wp2
  all_goals go_ret
  all_goals exact ⟨ret_bool (by cases h5 : f 5 <;> simp_all [condL, evenL]), (Below.refl _ _).alloc (Nat.le_refl _) _⟩
theorem rCond_2 (f : Nat → Bool) (i : Int) (e : i % 16 = 2) (w : World) : Calls Tryd.prog 15 #[flV f, .int .i64 i] w fun e w' => e = .returned (.bool (condL f 2)) ∧ Below w.heap.size w w' := by
  have h15 : bits .and .i64 i 15 = 2 := (and15 i).trans e
  have h1 : bits .and .i64 i 1 = 0 := (and1 i).trans (by omega)
  clear e
  go_enter Tryd.func15, Tryd.ntmps15
  go_wp2
  all_goals go_ret
  all_goals exact ⟨ret_bool (by cases h0 : f 0 <;> simp_all [condL, evenL]), (Below.refl _ _).alloc (Nat.le_refl _) _⟩
theorem rCond_3 (f : Nat → Bool) (i : Int) (e : i % 16 = 3) (w : World) : Calls Tryd.prog 15 #[flV f, .int .i64 i] w fun e w' => e = .returned (.bool (condL f 3)) ∧ Below w.heap.size w w' := by
  have h15 : bits .and .i64 i 15 = 3 := (and15 i).trans e
  have h1 : bits .and .i64 i 1 = 1 := (and1 i).trans (by omega)
  clear e
  go_enter Tryd.func15, Tryd.ntmps15
  go_wp2
  all_goals go_ret
  all_goals exact ⟨ret_bool (by cases h0 : f 0 <;> simp_all [condL, evenL]), (Below.refl _ _).alloc (Nat.le_refl _) _⟩
theorem rCond_4 (f : Nat → Bool) (i : Int) (e : i % 16 = 4) (w : World) : Calls Tryd.prog 15 #[flV f, .int .i64 i] w fun e w' => e = .returned (.bool (condL f 4)) ∧ Below w.heap.size w w' := by
  have h15 : bits .and .i64 i 15 = 4 := (and15 i).trans e
  have h1 : bits .and .i64 i 1 = 0 := (and1 i).trans (by omega)
  clear e
  go_enter Tryd.func15, Tryd.ntmps15
  go_wp2
  all_goals go_ret
  all_goals exact ⟨ret_bool (by cases h3 : f 3 <;> simp_all [condL, evenL]), (Below.refl _ _).alloc (Nat.le_refl _) _⟩
theorem rCond_5 (f : Nat → Bool) (i : Int) (e : i % 16 = 5) (w : World) : Calls Tryd.prog 15 #[flV f, .int .i64 i] w fun e w' => e = .returned (.bool (condL f 5)) ∧ Below w.heap.size w w' := by
  have h15 : bits .and .i64 i 15 = 5 := (and15 i).trans e
  have h1 : bits .and .i64 i 1 = 1 := (and1 i).trans (by omega)
  clear e
  go_enter Tryd.func15, Tryd.ntmps15
  go_wp2
  all_goals go_ret
  all_goals exact ⟨ret_bool (by cases h3 : f 3 <;> simp_all [condL, evenL]), (Below.refl _ _).alloc (Nat.le_refl _) _⟩
theorem rCond_6 (f : Nat → Bool) (i : Int) (e : i % 16 = 6) (w : World) : Calls Tryd.prog 15 #[flV f, .int .i64 i] w fun e w' => e = .returned (.bool (condL f 6)) ∧ Below w.heap.size w w' := by
  have h15 : bits .and .i64 i 15 = 6 := (and15 i).trans e
  have h1 : bits .and .i64 i 1 = 0 := (and1 i).trans (by omega)
  clear e
  go_enter Tryd.func15, Tryd.ntmps15
  go_wp2
  all_goals go_ret
  all_goals exact ⟨ret_bool (by cases h0 : f 0 <;> cases h3 : f 3 <;> simp_all [condL, evenL]), (Below.refl _ _).alloc (Nat.le_refl _) _⟩
theorem rCond_7 (f : Nat → Bool) (i : Int) (e : i % 16 = 7) (w : World) : Calls Tryd.prog 15 #[flV f, .int .i64 i] w fun e w' => e = .returned (.bool (condL f 7)) ∧ Below w.heap.size w w' := by
  have h15 : bits .and .i64 i 15 = 7 := (and15 i).trans e
  have h1 : bits .and .i64 i 1 = 1 := (and1 i).trans (by omega)
  clear e
  go_enter Tryd.func15, Tryd.ntmps15
  go_wp2
  all_goals go_ret
  all_goals exact ⟨ret_bool (by cases h0 : f 0 <;> cases h3 : f 3 <;> simp_all [condL, evenL]), (Below.refl _ _).alloc (Nat.le_refl _) _⟩
theorem rCond_8 (f : Nat → Bool) (i : Int) (e : i % 16 = 8) (w : World) : Calls Tryd.prog 15 #[flV f, .int .i64 i] w fun e w' => e = .returned (.bool (condL f 8)) ∧ Below w.heap.size w w' := by
  have h15 : bits .and .i64 i 15 = 8 := (and15 i).trans e
  have h1 : bits .and .i64 i 1 = 0 := (and1 i).trans (by omega)
  clear e
  go_enter Tryd.func15, Tryd.ntmps15
  go_wp2
  all_goals go_ret
  all_goals exact ⟨ret_bool (by cases h4 : f 4 <;> simp_all [condL, evenL]), (Below.refl _ _).alloc (Nat.le_refl _) _⟩
theorem rCond_9 (f : Nat → Bool) (i : Int) (e : i % 16 = 9) (w : World) : Calls Tryd.prog 15 #[flV f, .int .i64 i] w fun e w' => e = .returned (.bool (condL f 9)) ∧ Below w.heap.size w w' := by
  have h15 : bits .and .i64 i 15 = 9 := (and15 i).trans e
  have h1 : bits .and .i64 i 1 = 1 := (and1 i).trans (by omega)
  clear e
  go_enter Tryd.func15, Tryd.ntmps15
  go_wp2
  all_goals go_ret
  all_goals exact ⟨ret_bool (by cases h4 : f 4 <;> simp_all [condL, evenL]), (Below.refl _ _).alloc (Nat.le_refl _) _⟩
theorem rCond_10 (f : Nat → Bool) (i : Int) (e : i % 16 = 10) (w : World) : Calls Tryd.prog 15 #[flV f, .int .i64 i] w fun e w' => e = .returned (.bool (condL f 10)) ∧ Below w.heap.size w w' := by
  have h15 : bits .and .i64 i 15 = 10 := (and15 i).trans e
  have h1 : bits .and .i64 i 1 = 0 := (and1 i).trans (by omega)
  clear e
  go_enter Tryd.func15, Tryd.ntmps15
  go_wp2
  all_goals go_ret
  all_goals exact ⟨ret_bool (by cases h1 : f 1 <;> simp_all [condL, evenL]), (Below.refl _ _).alloc (Nat.le_refl _) _⟩
theorem rCond_11 (f : Nat → Bool) (i : Int) (e : i % 16 = 11) (w : World) : Calls Tryd.prog 15 #[flV f, .int .i64 i] w fun e w' => e = .returned (.bool (condL f 11)) ∧ Below w.heap.size w w' := by
  have h15 : bits .and .i64 i 15 = 11 := (and15 i).trans e
  have h1 : bits .and .i64 i 1 = 1 := (and1 i).trans (by omega)
  clear e
  go_enter Tryd.func15, Tryd.ntmps15
  go_wp2
  all_goals go_ret
  all_goals exact ⟨ret_bool (by cases h1 : f 1 <;> simp_all [condL, evenL]), (Below.refl _ _).alloc (Nat.le_refl _) _⟩
theorem rCond_12 (f : Nat → Bool) (i : Int) (e : i % 16 = 12) (w : World) : Calls Tryd.prog 15 #[flV f, .int .i64 i] w fun e w' => e = .returned (.bool (condL f 12)) ∧ Below w.heap.size w w' := by
  have h15 : bits .and .i64 i 15 = 12 := (and15 i).trans e
  have h1 : bits .and .i64 i 1 = 0 := (and1 i).trans (by omega)
  clear e
  go_enter Tryd.func15, Tryd.ntmps15
  go_wp2
  all_goals go_ret
  all_goals exact ⟨ret_bool (by cases h4 : f 4 <;> cases h5 : f 5 <;> simp_all [condL, evenL]), (Below.refl _ _).alloc (Nat.le_refl _) _⟩
theorem rCond_13 (f : Nat → Bool) (i : Int) (e : i % 16 = 13) (w : World) : Calls Tryd.prog 15 #[flV f, .int .i64 i] w fun e w' => e = .returned (.bool (condL f 13)) ∧ Below w.heap.size w w' := by
  have h15 : bits .and .i64 i 15 = 13 := (and15 i).trans e
  have h1 : bits .and .i64 i 1 = 1 := (and1 i).trans (by omega)
  clear e
  go_enter Tryd.func15, Tryd.ntmps15
  go_wp2
  all_goals go_ret
  all_goals exact ⟨ret_bool (by cases h4 : f 4 <;> cases h5 : f 5 <;> simp_all [condL, evenL]), (Below.refl _ _).alloc (Nat.le_refl _) _⟩
theorem rCond_14 (f : Nat → Bool) (i : Int) (e : i % 16 = 14) (w : World) : Calls Tryd.prog 15 #[flV f, .int .i64 i] w fun e w' => e = .returned (.bool (condL f 14)) ∧ Below w.heap.size w w' := by
  have h15 : bits .and .i64 i 15 = 14 := (and15 i).trans e
  have h1 : bits .and .i64 i 1 = 0 := (and1 i).trans (by omega)
  clear e
  go_enter Tryd.func15, Tryd.ntmps15
  go_wp2
  all_goals go_ret
  all_goals exact ⟨ret_bool (by cases h3 : f 3 <;> cases h4 : f 4 <;> cases h5 : f 5 <;> simp_all [condL, evenL]), (Below.refl _ _).alloc (Nat.le_refl _) _⟩
theorem rCond_15 (f : Nat → Bool) (i : Int) (e : i % 16 = 15) (w : World) : Calls Tryd.prog 15 #[flV f, .int .i64 i] w fun e w' => e = .returned (.bool (condL f 15)) ∧ Below w.heap.size w w' := by
  have h15 : bits .and .i64 i 15 = 15 := (and15 i).trans e
  have h1 : bits .and .i64 i 1 = 1 := (and1 i).trans (by omega)
  clear e
  go_enter Tryd.func15, Tryd.ntmps15
  go_wp2
  all_goals go_ret
  all_goals exact ⟨ret_bool (by cases h3 : f 3 <;> cases h4 : f 4 <;> cases h5 : f 5 <;> simp_all [condL, evenL]), (Below.refl _ _).alloc (Nat.le_refl _) _⟩
theorem Cond_any (f : Nat → Bool) (i : Int) (hi : -9223372036854775808 ≤ i ∧ i ≤ 9223372036854775807) (w : World) : Calls Tryd.prog 14 #[flV f, .int .i64 i] w fun e w' => e = .returned (.bool (condL f (no16 i))) ∧ Below w.heap.size w w' := by
  rcases (by omega : i % 16 = 0 ∨ i % 16 = 1 ∨ i % 16 = 2 ∨ i % 16 = 3 ∨ i % 16 = 4 ∨ i % 16 = 5 ∨ i % 16 = 6 ∨ i % 16 = 7 ∨ i % 16 = 8 ∨ i % 16 = 9 ∨ i % 16 = 10 ∨ i % 16 = 11 ∨ i % 16 = 12 ∨ i % 16 = 13 ∨ i % 16 = 14 ∨ i % 16 = 15) with e | e | e | e | e | e | e | e | e | e | e | e | e | e | e | e
  · rw [show no16 i = 0 by unfold no16; omega]; exact Cond_0 f i hi e w
  · rw [show no16 i = 1 by unfold no16; omega]; exact Cond_1 f i hi e w
  · rw [show no16 i = 2 by unfold no16; omega]; exact Cond_2 f i hi e w
  · rw [show no16 i = 3 by unfold no16; omega]; exact Cond_3 f i hi e w
  · rw [show no16 i = 4 by unfold no16; omega]; exact Cond_4 f i hi e w
  · rw [show no16 i = 5 by unfold no16; omega]; exact Cond_5 f i hi e w
  · rw [show no16 i = 6 by unfold no16; omega]; exact Cond_6 f i hi e w
  · rw [show no16 i = 7 by unfold no16; omega]; exact Cond_7 f i hi e w
  · rw [show no16 i = 8 by unfold no16; omega]; exact Cond_8 f i hi e w
  · rw [show no16 i = 9 by unfold no16; omega]; exact Cond_9 f i hi e w
  · rw [show no16 i = 10 by unfold no16; omega]; exact Cond_10 f i hi e w
  · rw [show no16 i = 11 by unfold no16; omega]; exact Cond_11 f i hi e w
  · rw [show no16 i = 12 by unfold no16; omega]; exact Cond_12 f i hi e w
  · rw [show no16 i = 13 by unfold no16; omega]; exact Cond_13 f i hi e w
  · rw [show no16 i = 14 by unfold no16; omega]; exact Cond_14 f i hi e w
  · rw [show no16 i = 15 by unfold no16; omega]; exact Cond_15 f i hi e w
theorem rCond_any (f : Nat → Bool) (i : Int) (w : World) : Calls Tryd.prog 15 #[flV f, .int .i64 i] w fun e w' => e = .returned (.bool (condL f (no16 i))) ∧ Below w.heap.size w w' := by
  rcases (by omega : i % 16 = 0 ∨ i % 16 = 1 ∨ i % 16 = 2 ∨ i % 16 = 3 ∨ i % 16 = 4 ∨ i % 16 = 5 ∨ i % 16 = 6 ∨ i % 16 = 7 ∨ i % 16 = 8 ∨ i % 16 = 9 ∨ i % 16 = 10 ∨ i % 16 = 11 ∨ i % 16 = 12 ∨ i % 16 = 13 ∨ i % 16 = 14 ∨ i % 16 = 15) with e | e | e | e | e | e | e | e | e | e | e | e | e | e | e | e
  · rw [show no16 i = 0 by unfold no16; omega]; exact rCond_0 f i e w
  · rw [show no16 i = 1 by unfold no16; omega]; exact rCond_1 f i e w
  · rw [show no16 i = 2 by unfold no16; omega]; exact rCond_2 f i e w
  · rw [show no16 i = 3 by unfold no16; omega]; exact rCond_3 f i e w
  · rw [show no16 i = 4 by unfold no16; omega]; exact rCond_4 f i e w
  · rw [show no16 i = 5 by unfold no16; omega]; exact rCond_5 f i e w
  · rw [show no16 i = 6 by unfold no16; omega]; exact rCond_6 f i e w
  · rw [show no16 i = 7 by unfold no16; omega]; exact rCond_7 f i e w
  · rw [show no16 i = 8 by unfold no16; omega]; exact rCond_8 f i e w
  · rw [show no16 i = 9 by unfold no16; omega]; exact rCond_9 f i e w
  · rw [show no16 i = 10 by unfold no16; omega]; exact rCond_10 f i e w
  · rw [show no16 i = 11 by unfold no16; omega]; exact rCond_11 f i e w
  · rw [show no16 i = 12 by unfold no16; omega]; exact rCond_12 f i e w
  · rw [show no16 i = 13 by unfold no16; omega]; exact rCond_13 f i e w
  · rw [show no16 i = 14 by unfold no16; omega]; exact rCond_14 f i e w
  · rw [show no16 i = 15 by unfold no16; omega]; exact rCond_15 f i e w
end Go.Proofs.YtgamghmeefoopaaDoor
