import Derived.Test.YtcdoidnfdkodoaaGreatDoorS14
import Derived.Test.YtcdoidnfdkodoaaGreatDoorS12
import Derived.Test.YtcdoidnfdkodoaaGreatDoorS41
namespace Go.Proofs.YtcdoidnfdkodoaaGreatDoor
open Go.RowKit
set_option linter.unusedVariables false
set_option linter.unusedSimpArgs false
set_option linter.unusedSectionVars false
theorem left_16 (i : Int) (hi : -9223372036854775808 ≤ i ∧ i ≤ 9223372036854775807) (w : World) : Calls Tryz.prog 240 #[.int .i64 i, .int .i64 16] w fun e w' => e = .returned (.int .i64 (i % 16)) ∧ w = w' := by
  go_enter Tryz.func240, Tryz.ntmps240
  go_wp2
  go_ret
  exact ⟨ret_int (left_eq i 16 (by decide) (by decide) hi), rfl⟩
def evenL (f : Nat → Bool) : Nat → Bool
  | 0 => f 5 | 1 => f 0 | 2 => f 3 | 3 => f 0 || f 3 | 4 => f 4 | 5 => f 1 | 6 => f 4 != f 5 | _ => f 3 || (f 4 != f 5)
def condL (f : Nat → Bool) (c : Nat) : Bool := evenL f (c / 2) != (c % 2 == 1)
def no16 (i : Int) : Nat := (i % 16).toNat
theorem reasons_0 (f : Nat → Bool) (w : World) : Calls Tryz.prog 241 #[flV f, .int .i64 0] w fun e w' => e = .returned (.agg #[.bool (false), .bool (false), .bool (false), .bool (false), .bool (false), .bool (f 5)]) ∧ Below w.heap.size w w' := by
  go_enter Tryz.func241, Tryz.ntmps241
  go_wp2
  refine bodyPost_ret (v := .agg #[.bool (false), .bool (false), .bool (false), .bool (false), .bool (false), .bool (f 5)]) (by simp [results, Tryz.results241, go_sem, bne]) rfl ⟨rfl, ?_⟩
  exact ((Below.refl _ _).alloc (Nat.le_refl _) _).alloc (by simp) _
theorem reasons_1 (f : Nat → Bool) (w : World) : Calls Tryz.prog 241 #[flV f, .int .i64 1] w fun e w' => e = .returned (.agg #[.bool (f 0), .bool (false), .bool (false), .bool (false), .bool (false), .bool (false)]) ∧ Below w.heap.size w w' := by
  go_enter Tryz.func241, Tryz.ntmps241
  go_wp2
  refine bodyPost_ret (v := .agg #[.bool (f 0), .bool (false), .bool (false), .bool (false), .bool (false), .bool (false)]) (by simp [results, Tryz.results241, go_sem, bne]) rfl ⟨rfl, ?_⟩
  exact ((Below.refl _ _).alloc (Nat.le_refl _) _).alloc (by simp) _
theorem reasons_2 (f : Nat → Bool) (w : World) : Calls Tryz.prog 241 #[flV f, .int .i64 2] w fun e w' => e = .returned (.agg #[.bool (false), .bool (false), .bool (false), .bool (f 3), .bool (false), .bool (false)]) ∧ Below w.heap.size w w' := by
  go_enter Tryz.func241, Tryz.ntmps241
  go_wp2
  refine bodyPost_ret (v := .agg #[.bool (false), .bool (false), .bool (false), .bool (f 3), .bool (false), .bool (false)]) (by simp [results, Tryz.results241, go_sem, bne]) rfl ⟨rfl, ?_⟩
  exact ((Below.refl _ _).alloc (Nat.le_refl _) _).alloc (by simp) _
theorem reasons_3 (f : Nat → Bool) (w : World) : Calls Tryz.prog 241 #[flV f, .int .i64 3] w fun e w' => e = .returned (.agg #[.bool (f 0), .bool (false), .bool (false), .bool (f 3), .bool (false), .bool (false)]) ∧ Below w.heap.size w w' := by
  go_enter Tryz.func241, Tryz.ntmps241
  go_wp2
  refine bodyPost_ret (v := .agg #[.bool (f 0), .bool (false), .bool (false), .bool (f 3), .bool (false), .bool (false)]) (by simp [results, Tryz.results241, go_sem, bne]) rfl ⟨rfl, ?_⟩
  exact ((Below.refl _ _).alloc (Nat.le_refl _) _).alloc (by simp) _
theorem reasons_4 (f : Nat → Bool) (w : World) : Calls Tryz.prog 241 #[flV f, .int .i64 4] w fun e w' => e = .returned (.agg #[.bool (false), .bool (false), .bool (false), .bool (false), .bool (f 4), .bool (false)]) ∧ Below w.heap.size w w' := by
  go_enter Tryz.func241, Tryz.ntmps241
  go_wp2
  refine bodyPost_ret (v := .agg #[.bool (false), .bool (false), .bool (false), .bool (false), .bool (f 4), .bool (false)]) (by simp [results, Tryz.results241, go_sem, bne]) rfl ⟨rfl, ?_⟩
  exact ((Below.refl _ _).alloc (Nat.le_refl _) _).alloc (by simp) _
theorem reasons_5 (f : Nat → Bool) (w : World) : Calls Tryz.prog 241 #[flV f, .int .i64 5] w fun e w' => e = .returned (.agg #[.bool (false), .bool (f 1), .bool (false), .bool (false), .bool (false), .bool (false)]) ∧ Below w.heap.size w w' := by
  go_enter Tryz.func241, Tryz.ntmps241
  go_wp2
  refine bodyPost_ret (v := .agg #[.bool (false), .bool (f 1), .bool (false), .bool (false), .bool (false), .bool (false)]) (by simp [results, Tryz.results241, go_sem, bne]) rfl ⟨rfl, ?_⟩
  exact ((Below.refl _ _).alloc (Nat.le_refl _) _).alloc (by simp) _
theorem reasons_6 (f : Nat → Bool) (w : World) : Calls Tryz.prog 241 #[flV f, .int .i64 6] w fun e w' => e = .returned (.agg #[.bool (false), .bool (false), .bool (false), .bool (false), .bool (f 4 != f 5), .bool (false)]) ∧ Below w.heap.size w w' := by
  go_enter Tryz.func241, Tryz.ntmps241
  go_wp2
  refine bodyPost_ret (v := .agg #[.bool (false), .bool (false), .bool (false), .bool (false), .bool (f 4 != f 5), .bool (false)]) (by simp [results, Tryz.results241, go_sem, bne]) rfl ⟨rfl, ?_⟩
  exact ((Below.refl _ _).alloc (Nat.le_refl _) _).alloc (by simp) _
theorem reasons_7 (f : Nat → Bool) (w : World) : Calls Tryz.prog 241 #[flV f, .int .i64 7] w fun e w' => e = .returned (.agg #[.bool (false), .bool (false), .bool (false), .bool (f 3), .bool (f 4 != f 5), .bool (false)]) ∧ Below w.heap.size w w' := by
  go_enter Tryz.func241, Tryz.ntmps241
  go_wp2
  refine bodyPost_ret (v := .agg #[.bool (false), .bool (false), .bool (false), .bool (f 3), .bool (f 4 != f 5), .bool (false)]) (by simp [results, Tryz.results241, go_sem, bne]) rfl ⟨rfl, ?_⟩
  exact ((Below.refl _ _).alloc (Nat.le_refl _) _).alloc (by simp) _
theorem Cond_0 (f : Nat → Bool) (i : Int) (hi : -9223372036854775808 ≤ i ∧ i ≤ 9223372036854775807) (e : i % 16 = 0) (w : World) : Calls Tryz.prog 210 #[flV f, .int .i64 i] w fun e w' => e = .returned (.bool (condL f 0)) ∧ Below w.heap.size w w' := by
  have hb : ∀ w, Calls Tryz.prog 240 #[.int .i64 i, .int .i64 16] w fun e w' => e = .returned (.int .i64 0) ∧ w = w' := fun w => by
    have := left_16 i hi w
    rw [e] at this
    exact this
  clear e
  go_enter Tryz.func210, Tryz.ntmps210
  go_wp2_with (first | (go_at_call 240; refine (hb _).mono ?_; rintro e w' ⟨rfl, rfl⟩) | (with_reducible refine (reasons_0 f _).mono ?_; rintro e w1 ⟨rfl, b1⟩))
  all_goals go_ret
  all_goals exact ⟨ret_bool (by cases h5 : f 5 <;> simp_all [condL, evenL]), ((Below.refl _ _).alloc (Nat.le_refl _) _).trans (b1.mono (by simp))⟩
theorem Cond_1 (f : Nat → Bool) (i : Int) (hi : -9223372036854775808 ≤ i ∧ i ≤ 9223372036854775807) (e : i % 16 = 1) (w : World) : Calls Tryz.prog 210 #[flV f, .int .i64 i] w fun e w' => e = .returned (.bool (condL f 1)) ∧ Below w.heap.size w w' := by
  have hb : ∀ w, Calls Tryz.prog 240 #[.int .i64 i, .int .i64 16] w fun e w' => e = .returned (.int .i64 1) ∧ w = w' := fun w => by
    have := left_16 i hi w
    rw [e] at this
    exact this
  clear e
  go_enter Tryz.func210, Tryz.ntmps210
  go_wp2_with (first | (go_at_call 240; refine (hb _).mono ?_; rintro e w' ⟨rfl, rfl⟩) | (with_reducible refine (reasons_0 f _).mono ?_; rintro e w1 ⟨rfl, b1⟩))
  all_goals go_ret
  all_goals exact ⟨ret_bool (by cases h5 : f 5 <;> simp_all [condL, evenL]), ((Below.refl _ _).alloc (Nat.le_refl _) _).trans (b1.mono (by simp))⟩
theorem Cond_2 (f : Nat → Bool) (i : Int) (hi : -9223372036854775808 ≤ i ∧ i ≤ 9223372036854775807) (e : i % 16 = 2) (w : World) : Calls Tryz.prog 210 #[flV f, .int .i64 i] w fun e w' => e = .returned (.bool (condL f 2)) ∧ Below w.heap.size w w' := by
  have hb : ∀ w, Calls Tryz.prog 240 #[.int .i64 i, .int .i64 16] w fun e w' => e = .returned (.int .i64 2) ∧ w = w' := fun w => by
    have := left_16 i hi w
    rw [e] at this
    exact this
  clear e
  go_enter Tryz.func210, Tryz.ntmps210
  go_wp2_with (first | (go_at_call 240; refine (hb _).mono ?_; rintro e w' ⟨rfl, rfl⟩) | (with_reducible refine (reasons_1 f _).mono ?_; rintro e w1 ⟨rfl, b1⟩))
  all_goals go_ret
  all_goals exact ⟨ret_bool (by cases h0 : f 0 <;> simp_all [condL, evenL]), ((Below.refl _ _).alloc (Nat.le_refl _) _).trans (b1.mono (by simp))⟩
theorem Cond_3 (f : Nat → Bool) (i : Int) (hi : -9223372036854775808 ≤ i ∧ i ≤ 9223372036854775807) (e : i % 16 = 3) (w : World) : Calls Tryz.prog 210 #[flV f, .int .i64 i] w fun e w' => e = .returned (.bool (condL f 3)) ∧ Below w.heap.size w w' := by
  have hb : ∀ w, Calls Tryz.prog 240 #[.int .i64 i, .int .i64 16] w fun e w' => e = .returned (.int .i64 3) ∧ w = w' := fun w => by
    have := left_16 i hi w
    rw [e] at this
    exact this
  clear e
  go_enter Tryz.func210, Tryz.ntmps210
  go_wp2_with (first | (go_at_call 240; refine (hb _).mono ?_; rintro e w' ⟨rfl, rfl⟩) | (with_reducible refine (reasons_1 f _).mono ?_; rintro e w1 ⟨rfl, b1⟩))
  all_goals go_ret
  all_goals exact ⟨ret_bool (by cases h0 : f 0 <;> simp_all [condL, evenL]), ((Below.refl _ _).alloc (Nat.le_refl _) _).trans (b1.mono (by simp))⟩
theorem Cond_4 (f : Nat → Bool) (i : Int) (hi : -9223372036854775808 ≤ i ∧ i ≤ 9223372036854775807) (e : i % 16 = 4) (w : World) : Calls Tryz.prog 210 #[flV f, .int .i64 i] w fun e w' => e = .returned (.bool (condL f 4)) ∧ Below w.heap.size w w' := by
  have hb : ∀ w, Calls Tryz.prog 240 #[.int .i64 i, .int .i64 16] w fun e w' => e = .returned (.int .i64 4) ∧ w = w' := fun w => by
    have := left_16 i hi w
    rw [e] at this
    exact this
  clear e
  go_enter Tryz.func210, Tryz.ntmps210
  go_wp2_with (first | (go_at_call 240; refine (hb _).mono ?_; rintro e w' ⟨rfl, rfl⟩) | (with_reducible refine (reasons_2 f _).mono ?_; rintro e w1 ⟨rfl, b1⟩))
  all_goals go_ret
  all_goals exact ⟨ret_bool (by cases h3 : f 3 <;> simp_all [condL, evenL]), ((Below.refl _ _).alloc (Nat.le_refl _) _).trans (b1.mono (by simp))⟩
theorem Cond_5 (f : Nat → Bool) (i : Int) (hi : -9223372036854775808 ≤ i ∧ i ≤ 9223372036854775807) (e : i % 16 = 5) (w : World) : Calls Tryz.prog 210 #[flV f, .int .i64 i] w fun e w' => e = .returned (.bool (condL f 5)) ∧ Below w.heap.size w w' := by
  have hb : ∀ w, Calls Tryz.prog 240 #[.int .i64 i, .int .i64 16] w fun e w' => e = .returned (.int .i64 5) ∧ w = w' := fun w => by
    have := left_16 i hi w
    rw [e] at this
    exact this
  clear e
  go_enter Tryz.func210, Tryz.ntmps210
  go_wp2_with (first | (go_at_call 240; refine (hb _).mono ?_; rintro e w' ⟨rfl, rfl⟩) | (with_reducible refine (reasons_2 f _).mono ?_; rintro e w1 ⟨rfl, b1⟩))
  all_goals go_ret
  all_goals exact ⟨ret_bool (by cases h3 : f 3 <;> simp_all [condL, evenL]), ((Below.refl _ _).alloc (Nat.le_refl _) _).trans (b1.mono (by simp))⟩
theorem Cond_6 (f : Nat → Bool) (i : Int) (hi : -9223372036854775808 ≤ i ∧ i ≤ 9223372036854775807) (e : i % 16 = 6) (w : World) : Calls Tryz.prog 210 #[flV f, .int .i64 i] w fun e w' => e = .returned (.bool (condL f 6)) ∧ Below w.heap.size w w' := by
  have hb : ∀ w, Calls Tryz.prog 240 #[.int .i64 i, .int .i64 16] w fun e w' => e = .returned (.int .i64 6) ∧ w = w' := fun w => by
    have := left_16 i hi w
    rw [e] at this
    exact this
  clear e
  go_enter Tryz.func210, Tryz.ntmps210
  go_wp2_with (first | (go_at_call 240; refine (hb _).mono ?_; rintro e w' ⟨rfl, rfl⟩) | (with_reducible refine (reasons_3 f _).mono ?_; rintro e w1 ⟨rfl, b1⟩))
  all_goals go_ret
  all_goals exact ⟨ret_bool (by cases h0 : f 0 <;> cases h3 : f 3 <;> simp_all [condL, evenL]), ((Below.refl _ _).alloc (Nat.le_refl _) _).trans (b1.mono (by simp))⟩
theorem Cond_7 (f : Nat → Bool) (i : Int) (hi : -9223372036854775808 ≤ i ∧ i ≤ 9223372036854775807) (e : i % 16 = 7) (w : World) : Calls Tryz.prog 210 #[flV f, .int .i64 i] w fun e w' => e = .returned (.bool (condL f 7)) ∧ Below w.heap.size w w' := by
  have hb : ∀ w, Calls Tryz.prog 240 #[.int .i64 i, .int .i64 16] w fun e w' => e = .returned (.int .i64 7) ∧ w = w' := fun w => by
    have := left_16 i hi w
    rw [e] at this
    exact this
  clear e
  go_enter Tryz.func210, Tryz.ntmps210
  go_wp2_with (first | (go_at_call 240; refine (hb _).mono ?_; rintro e w' ⟨rfl, rfl⟩) | (with_reducible refine (reasons_3 f _).mono ?_; rintro e w1 ⟨rfl, b1⟩))
  all_goals go_ret
  all_goals exact ⟨ret_bool (by cases h0 : f 0 <;> cases h3 : f 3 <;> simp_all [condL, evenL]), ((Below.refl _ _).alloc (Nat.le_refl _) _).trans (b1.mono (by simp))⟩
theorem Cond_8 (f : Nat → Bool) (i : Int) (hi : -9223372036854775808 ≤ i ∧ i ≤ 9223372036854775807) (e : i % 16 = 8) (w : World) : Calls Tryz.prog 210 #[flV f, .int .i64 i] w fun e w' => e = .returned (.bool (condL f 8)) ∧ Below w.heap.size w w' := by
  have hb : ∀ w, Calls Tryz.prog 240 #[.int .i64 i, .int .i64 16] w fun e w' => e = .returned (.int .i64 8) ∧ w = w' := fun w => by
    have := left_16 i hi w
    rw [e] at this
    exact this
  clear e
  go_enter Tryz.func210, Tryz.ntmps210
  go_wp2_with (first | (go_at_call 240; refine (hb _).mono ?_; rintro e w' ⟨rfl, rfl⟩) | (with_reducible refine (reasons_4 f _).mono ?_; rintro e w1 ⟨rfl, b1⟩))
  all_goals go_ret
  all_goals exact ⟨ret_bool (by cases h4 : f 4 <;> simp_all [condL, evenL]), ((Below.refl _ _).alloc (Nat.le_refl _) _).trans (b1.mono (by simp))⟩
theorem Cond_9 (f : Nat → Bool) (i : Int) (hi : -9223372036854775808 ≤ i ∧ i ≤ 9223372036854775807) (e : i % 16 = 9) (w : World) : Calls Tryz.prog 210 #[flV f, .int .i64 i] w fun e w' => e = .returned (.bool (condL f 9)) ∧ Below w.heap.size w w' := by
  have hb : ∀ w, Calls Tryz.prog 240 #[.int .i64 i, .int .i64 16] w fun e w' => e = .returned (.int .i64 9) ∧ w = w' := fun w => by
    have := left_16 i hi w
    rw [e] at this
    exact this
  clear e
  go_enter Tryz.func210, Tryz.ntmps210
  go_wp2_with (first | (go_at_call 240; refine (hb _).mono ?_; rintro e w' ⟨rfl, rfl⟩) | (with_reducible refine (reasons_4 f _).mono ?_; rintro e w1 ⟨rfl, b1⟩))
  all_goals go_ret
  all_goals exact ⟨ret_bool (by cases h4 : f 4 <;> simp_all [condL, evenL]), ((Below.refl _ _).alloc (Nat.le_refl _) _).trans (b1.mono (by simp))⟩
theorem Cond_10 (f : Nat → Bool) (i : Int) (hi : -9223372036854775808 ≤ i ∧ i ≤ 9223372036854775807) (e : i % 16 = 10) (w : World) : Calls Tryz.prog 210 #[flV f, .int .i64 i] w fun e w' => e = .returned (.bool (condL f 10)) ∧ Below w.heap.size w w' := by
  have hb : ∀ w, Calls Tryz.prog 240 #[.int .i64 i, .int .i64 16] w fun e w' => e = .returned (.int .i64 10) ∧ w = w' := fun w => by
    have := left_16 i hi w
    rw [e] at this
    exact this
  clear e
  go_enter Tryz.func210, Tryz.ntmps210
  go_wp2_with (first | (go_at_call 240; refine (hb _).mono ?_; rintro e w' ⟨rfl, rfl⟩) | (with_reducible refine (reasons_5 f _).mono ?_; rintro e w1 ⟨rfl, b1⟩))
  all_goals go_ret
  all_goals exact ⟨ret_bool (by cases h1 : f 1 <;> simp_all [condL, evenL]), ((Below.refl _ _).alloc (Nat.le_refl _) _).trans (b1.mono (by simp))⟩
theorem Cond_11 (f : Nat → Bool) (i : Int) (hi : -9223372036854775808 ≤ i ∧ i ≤ 9223372036854775807) (e : i % 16 = 11) (w : World) : Calls Tryz.prog 210 #[flV f, .int .i64 i] w fun e w' => e = .returned (.bool (condL f 11)) ∧ Below w.heap.size w w' := by
  have hb : ∀ w, Calls Tryz.prog 240 #[.int .i64 i, .int .i64 16] w fun e w' => e = .returned (.int .i64 11) ∧ w = w' := fun w => by
    have := left_16 i hi w
    rw [e] at this
    exact this
  clear e
  go_enter Tryz.func210, Tryz.ntmps210
  go_wp2_with (first | (go_at_call 240; refine (hb _).mono ?_; rintro e w' ⟨rfl, rfl⟩) | (with_reducible refine (reasons_5 f _).mono ?_; rintro e w1 ⟨rfl, b1⟩))
  all_goals go_ret
  all_goals exact ⟨ret_bool (by cases h1 : f 1 <;> simp_all [condL, evenL]), ((Below.refl _ _).alloc (Nat.le_refl _) _).trans (b1.mono (by simp))⟩
theorem Cond_12 (f : Nat → Bool) (i : Int) (hi : -9223372036854775808 ≤ i ∧ i ≤ 9223372036854775807) (e : i % 16 = 12) (w : World) : Calls Tryz.prog 210 #[flV f, .int .i64 i] w fun e w' => e = .returned (.bool (condL f 12)) ∧ Below w.heap.size w w' := by
  have hb : ∀ w, Calls Tryz.prog 240 #[.int .i64 i, .int .i64 16] w fun e w' => e = .returned (.int .i64 12) ∧ w = w' := fun w => by
    have := left_16 i hi w
    rw [e] at this
    exact this
  clear e
  go_enter Tryz.func210, Tryz.ntmps210
  go_wp2_with (first | (go_at_call 240; refine (hb _).mono ?_; rintro e w' ⟨rfl, rfl⟩) | (with_reducible refine (reasons_6 f _).mono ?_; rintro e w1 ⟨rfl, b1⟩))
  all_goals go_ret
  all_goals exact ⟨ret_bool (by cases h4 : f 4 <;> cases h5 : f 5 <;> simp_all [condL, evenL]), ((Below.refl _ _).alloc (Nat.le_refl _) _).trans (b1.mono (by simp))⟩
theorem Cond_13 (f : Nat → Bool) (i : Int) (hi : -9223372036854775808 ≤ i ∧ i ≤ 9223372036854775807) (e : i % 16 = 13) (w : World) : Calls Tryz.prog 210 #[flV f, .int .i64 i] w fun e w' => e = .returned (.bool (condL f 13)) ∧ Below w.heap.size w w' := by
  have hb : ∀ w, Calls Tryz.prog 240 #[.int .i64 i, .int .i64 16] w fun e w' => e = .returned (.int .i64 13) ∧ w = w' := fun w => by
    have := left_16 i hi w
    rw [e] at this
    exact this
  clear e
  go_enter Tryz.func210, Tryz.ntmps210
  go_wp2_with (first | (go_at_call 240; refine (hb _).mono ?_; rintro e w' ⟨rfl, rfl⟩) | (with_reducible refine (reasons_6 f _).mono ?_; rintro e w1 ⟨rfl, b1⟩))
  all_goals go_ret
  all_goals exact ⟨ret_bool (by cases h4 : f 4 <;> cases h5 : f 5 <;> simp_all [condL, evenL]), ((Below.refl _ _).alloc (Nat.le_refl _) _).trans (b1.mono (by simp))⟩
theorem Cond_14 (f : Nat → Bool) (i : Int) (hi : -9223372036854775808 ≤ i ∧ i ≤ 9223372036854775807) (e : i % 16 = 14) (w : World) : Calls Tryz.prog 210 #[flV f, .int .i64 i] w fun e w' => e = .returned (.bool (condL f 14)) ∧ Below w.heap.size w w' := by
  have hb : ∀ w, Calls Tryz.prog 240 #[.int .i64 i, .int .i64 16] w fun e w' => e = .returned (.int .i64 14) ∧ w = w' := fun w => by
    have := left_16 i hi w
    rw [e] at this
    exact this
  clear e
  go_enter Tryz.func210, Tryz.ntmps210
  go_wp2_with (first | (go_at_call 240; refine (hb _).mono ?_; rintro e w' ⟨rfl, rfl⟩) | (with_reducible refine (reasons_7 f _).mono ?_; rintro e w1 ⟨rfl, b1⟩))
  all_goals go_ret
  all_goals exact ⟨ret_bool (by cases h3 : f 3 <;> cases h4 : f 4 <;> cases h5 : f 5 <;> simp_all [condL, evenL]), ((Below.refl _ _).alloc (Nat.le_refl _) _).trans (b1.mono (by simp))⟩
theorem Cond_15 (f : Nat → Bool) (i : Int) (hi : -9223372036854775808 ≤ i ∧ i ≤ 9223372036854775807) (e : i % 16 = 15) (w : World) : Calls Tryz.prog 210 #[flV f, .int .i64 i] w fun e w' => e = .returned (.bool (condL f 15)) ∧ Below w.heap.size w w' := by
  have hb : ∀ w, Calls Tryz.prog 240 #[.int .i64 i, .int .i64 16] w fun e w' => e = .returned (.int .i64 15) ∧ w = w' := fun w => by
    have := left_16 i hi w
    rw [e] at this
    exact this
  clear e
  go_enter Tryz.func210, Tryz.ntmps210
  go_wp2_with (first | (go_at_call 240; refine (hb _).mono ?_; rintro e w' ⟨rfl, rfl⟩) | (with_reducible refine (reasons_7 f _).mono ?_; rintro e w1 ⟨rfl, b1⟩))
  all_goals go_ret
  all_goals exact ⟨ret_bool (by cases h3 : f 3 <;> cases h4 : f 4 <;> cases h5 : f 5 <;> simp_all [condL, evenL]), ((Below.refl _ _).alloc (Nat.le_refl _) _).trans (b1.mono (by simp))⟩
theorem Cond_any (f : Nat → Bool) (i : Int) (hi : -9223372036854775808 ≤ i ∧ i ≤ 9223372036854775807) (w : World) : Calls Tryz.prog 210 #[flV f, .int .i64 i] w fun e w' => e = .returned (.bool (condL f (no16 i))) ∧ Below w.heap.size w w' := by
  rcases (by omega : i % 16 = 0 ∨ i % 16 = 1 ∨ i % 16 = 2 ∨ i % 16 = 3 ∨ i % 16 = 4 ∨ i % 16 = 5 ∨ i % 16 = 6 ∨ i % 16 = 7 ∨ i % 16 = 8 ∨ i % 16 = 9 ∨ i % 16 = 10 ∨ i % 16 = 11 ∨ i % 16 = 12 ∨ i % 16 = 13 ∨ i % 16 = 14 ∨ i % 16 = 15) with e | e | e | e | e | e | e | e | e | e | e | e | e | e | e | e
  · rw [show no16 i = 0 by unfold no16; omega]; exact Cond_0 f i hi e w
  · rw [show no16 i = 1 by unfold no16; omega]; exact Cond_1 f i hi e w
  · rw [show no16 i = 2 by unfold no16; omega]; exact Cond_2 f i hi e w
  · rw [show no16 i = 3 by unfold no16; omega]; exact Cond_3 f i hi e w
  · rw [show no16 i = 4 by unfold no16; omega]; exact Cond_4 f i hi e w
  · rw [show no16 i = 5 by unfold no16; omega]; exact Cond_5 f i hi e w
  · rw [show no16 i = 6 by unfold no16; omega]; exact Cond_6 f i hi e w
  · rw [show no16 i = 7 by unfold no16; omega]; exact Cond_7 f i hi e w
  · rw [show no16 i = 8 by unfold no16; omega]; exact Cond_8 f i hi e w
  · rw [show no16 i = 9 by unfold no16; omega]; exact Cond_9 f i hi e w
  · rw [show no16 i = 10 by unfold no16; omega]; exact Cond_10 f i hi e w
  · rw [show no16 i = 11 by unfold no16; omega]; exact Cond_11 f i hi e w
  · rw [show no16 i = 12 by unfold no16; omega]; exact Cond_12 f i hi e w
  · rw [show no16 i = 13 by unfold no16; omega]; exact Cond_13 f i hi e w
  · rw [show no16 i = 14 by unfold no16; omega]; exact Cond_14 f i hi e w
  · rw [show no16 i = 15 by unfold no16; omega]; exact Cond_15 f i hi e w
end Go.Proofs.YtcdoidnfdkodoaaGreatDoor
namespace Go.Proofs.YtcdoidnfdkodoaaGreatDoor
open Go.RowKit
set_option linter.unusedVariables false
set_option linter.unusedSimpArgs false
set_option linter.unusedSectionVars false
section
variable {w : World} {G B : Nat} {g g' : Gs} {m m' : Mm}
set_option maxRecDepth 20000 in
theorem gholds (h : GuAt w G B g m) (i : In) (hc : 0 ≤ i.c ∧ i.c ≤ 15) : Calls Tryz.prog 168 #[mp G, inV i] w fun e w' => e = .returned (.bool (condL g.f i.c.toNat)) ∧ Below w.heap.size w w' := by
  have e : no16 i.c = i.c.toNat := by unfold no16; rw [Int.emod_eq_of_lt hc.1 (by omega)]
  have qC := Lib.hid (fun W => Cond_any g.f i.c (by omega) W)
  rw [e] at qC
  generalize condL g.f i.c.toNat = q at *
  have b0 := (Below.refl w.heap.size w).alloc (Nat.le_refl _) (.cells (in16 i) 33)
  have kI := Blk.new w 33 (in16 i)
  have hg := h.below b0
  go_enter Tryz.func168, Tryz.ntmps168
  go_upto_region 1 with fail
  generalize w.alloc (.cells (in16 i) 33) = W0 at *
  refine wp_region_held_drew (S := fun V => GuAt V G B g m ∧ Blk V w.heap.size 33 (in16 i)) (by kernel_rfl) ⟨hg.drew, kI.drew⟩ (fun hH => ?_)
  replace b0 := b0.drew
  generalize W0.drew = W at *
  clear hg kI h
  refine wpAnyH_take (i := 0) (v := ?_) rfl (by kernel_rfl) (by kernel_rfl) (by kernel_rfl) (fun _ _ _ h => h) (Or.inl ⟨by kernel_rfl, ?_⟩) hH ?_
  rotate_left
  · intro W hS
    go_simp
    try rfl
  simp only [Act.put, List.setIfInBounds_toArray, List.set_cons_zero, List.set_cons_succ, List.getElem_toArray, List.getElem_cons_succ, List.getElem_cons_zero]
  refine wpAnyH_take (i := 1) (v := ?_) rfl (by kernel_rfl) (by kernel_rfl) (by kernel_rfl) (fun _ _ _ h => h) (Or.inl ⟨by kernel_rfl, ?_⟩) hH ?_
  rotate_left
  · intro W hS
    go_simp
    try rfl
  simp only [Act.put, List.setIfInBounds_toArray, List.set_cons_zero, List.set_cons_succ, List.getElem_toArray, List.getElem_cons_succ, List.getElem_cons_zero]
  refine wpAnyH_take (i := 2) (v := ?_) rfl (by kernel_rfl) (by kernel_rfl) (by kernel_rfl) (fun _ _ _ h => h) (Or.inl ⟨by kernel_rfl, ?_⟩) hH ?_
  rotate_left
  · intro W hS
    go_simp
    try rfl
  simp only [Act.put, List.setIfInBounds_toArray, List.set_cons_zero, List.set_cons_succ, List.getElem_toArray, List.getElem_cons_succ, List.getElem_cons_zero]
  refine wpAnyH_take (i := 3) (v := ?_) rfl (by kernel_rfl) (by kernel_rfl) (by kernel_rfl) (fun _ _ _ h => h) (Or.inl ⟨by kernel_rfl, ?_⟩) hH ?_
  rotate_left
  · intro W hS
    go_simp
    try rfl
  simp only [Act.put, List.setIfInBounds_toArray, List.set_cons_zero, List.set_cons_succ, List.getElem_toArray, List.getElem_cons_succ, List.getElem_cons_zero]
  refine wpAnyH_take (i := 4) (v := .agg #[.bool (g.f 0), .bool (g.f 1), .bool (g.f 2), .bool (g.f 3), .bool (g.f 4), .bool (g.f 5)]) rfl (by kernel_rfl) (by kernel_rfl) (by kernel_rfl) (fun _ _ _ h => h) (Or.inl ⟨by kernel_rfl, ?_⟩) hH ?_
  · intro W hS
    exact run_load_gfl (by rfl) (by rfl) hS.1
  simp only [Act.put, List.setIfInBounds_toArray, List.set_cons_zero, List.set_cons_succ]
  refine wpAnyH_take (i := 5) (v := ?_) rfl (by kernel_rfl) (by kernel_rfl) (by kernel_rfl) (fun _ _ _ h => h) (Or.inl ⟨by kernel_rfl, ?_⟩) hH ?_
  rotate_left
  · intro W hS
    go_simp
    try rfl
  simp only [Act.put, List.setIfInBounds_toArray, List.set_cons_zero, List.set_cons_succ, List.getElem_toArray, List.getElem_cons_succ, List.getElem_cons_zero]
  refine wpAnyH_take (i := 6) (v := ?_) rfl (by kernel_rfl) (by kernel_rfl) (by kernel_rfl) (fun _ _ _ h => h) (Or.inl ⟨by kernel_rfl, ?_⟩) hH ?_
  rotate_left
  · intro W hS
    have c1 := hS.2.cell (i := 1) (v := .int .i64 i.c) rfl
    go_simp
    try rfl
  simp only [Act.put, List.setIfInBounds_toArray, List.set_cons_zero, List.set_cons_succ, List.getElem_toArray, List.getElem_cons_succ, List.getElem_cons_zero]
  refine wpAnyH_ready (rs := [7]) (by kernel_rfl) (by simp) ?_
  refine AllReadyH.cons rfl (fun K hK => ?_) AllReadyH.nil
  go_simp
  with_reducible refine (qC.out _).mono ?_
  rintro e w2 ⟨rfl, b2⟩
  have hH2 := And.intro (hH.1.below b2) (hH.2.below b2 hH.2.lt)
  replace b0 := b0.trans (b2.mono b0.size)
  refine hK.out _ _ hH2 (fun _ => ?_)
  clear hK K
  try simp only [Act.put, List.setIfInBounds_toArray, List.set_cons_zero, List.set_cons_succ]
  refine wpAnyH_take (i := 8) (v := ?_) rfl (by kernel_rfl) (by kernel_rfl) (by kernel_rfl) (fun _ _ _ h => h) (Or.inl ⟨by kernel_rfl, ?_⟩) hH2 ?_
  rotate_left
  · intro W hS
    go_simp
    try rfl
  simp only [Act.put, List.setIfInBounds_toArray, List.set_cons_zero, List.set_cons_succ, List.getElem_toArray, List.getElem_cons_succ, List.getElem_cons_zero]
  refine wpAnyH_done (by kernel_rfl) ?_ _
  go_wp2_with fail
  go_ret
  exact ⟨rfl, b0⟩
set_option maxRecDepth 20000 in
theorem gdecided (h : GuAt w G B g m) (i : In) (hc : 0 ≤ i.c ∧ i.c ≤ 15) : Calls Tryz.prog 157 #[mp G, inV i] w fun e w' => e = .returned (.int .u32 (bif condL g.f i.c.toNat then 1 else 0)) ∧ Below w.heap.size w w' := by
  have qH := Lib.hid (fun W (hW : GuAt W G B g m) => gholds hW i hc)
  have b0 := (Below.refl w.heap.size w).alloc (Nat.le_refl _) (.cells (in16 i) 33)
  have kI := Blk.new w 33 (in16 i)
  have hg := h.below b0
  cases hq : condL g.f i.c.toNat
  all_goals
    rw [hq] at qH
    clear hq
    go_enter Tryz.func157, Tryz.ntmps157
    go_wp2_with (first | (with_reducible refine load_in rfl _ rfl rfl kI ?_) | ((with_reducible refine (qH.out _ hg).mono ?_); rintro e w1 ⟨rfl, b1⟩))
    go_ret
    exact ⟨rfl, b0.trans (b1.mono b0.size)⟩
set_option maxRecDepth 20000 in
theorem gmove_set (h : GuAt w G B g m) (i : In) (hop : i.op = 34) (hc : 0 ≤ i.c ∧ i.c ≤ 15) (hr : WrY B g m i.A 1 (bif condL g.f i.c.toNat then 1 else 0) g' m') :
    Calls Tryz.prog 118 #[mp G, inV i] w fun e w' => e = .returned (.tuple #[]) ∧ GuAt w' G B g' m' ∧ But [G, B] w.heap.size w w' := by
  have qD := Lib.hid (fun W (hW : GuAt W G B g m) => gdecided hW i hc)
  have qW := Lib.hid (fun W (hg : GuAt W G B g m) => gwrite_yes hg i.A 1 _ g' m' hr)
  clear hr
  generalize (bif condL g.f i.c.toNat then (1 : Int) else 0) = v at *
  have b0 := (Below.refl w.heap.size w).alloc (Nat.le_refl _) (.cells (in16 i) 33)
  have kI := Blk.new w 33 (in16 i)
  have hg := h.below b0
  have nG := Lib.hid (show G < w.heap.size from h.c.lt)
  have nB := Lib.hid (show B < w.heap.size from h.p.lt)
  have c0 := kI.cell (i := 0) (v := .int .i64 i.op) rfl
  rw [hop] at c0
  go_enter Tryz.func118, Tryz.ntmps118
  go_upto_region 13 with fail
  generalize w.alloc (.cells (in16 i) 33) = W0 at *
  refine wp_region_held_drew (S := fun V => Blk V w.heap.size 33 (in16 i)) (by kernel_rfl) kI.drew (fun hH => ?_)
  replace b0 := b0.drew
  replace hg := hg.drew
  generalize W0.drew = W at *
  clear kI h c0
  refine wpAnyH_take (i := 0) (v := ?_) rfl (by kernel_rfl) (by kernel_rfl) (by kernel_rfl) (fun _ _ _ h => h) (Or.inl ⟨by kernel_rfl, ?_⟩) hH ?_
  rotate_left
  · intro W hS
    go_simp
    try rfl
  simp only [Act.put, List.setIfInBounds_toArray, List.set_cons_zero, List.set_cons_succ, List.getElem_toArray, List.getElem_cons_succ, List.getElem_cons_zero]
  refine wpAnyH_take (i := 1) (v := ?_) rfl (by kernel_rfl) (by kernel_rfl) (by kernel_rfl) (fun _ _ _ h => h) (Or.inl ⟨by kernel_rfl, ?_⟩) hH ?_
  rotate_left
  · intro W hS
    go_simp
    try rfl
  simp only [Act.put, List.setIfInBounds_toArray, List.set_cons_zero, List.set_cons_succ, List.getElem_toArray, List.getElem_cons_succ, List.getElem_cons_zero]
  refine wpAnyH_take (i := 2) (v := opV i.A) rfl (by kernel_rfl) (by kernel_rfl) (by kernel_rfl) (fun _ _ _ h => h) (Or.inl ⟨by kernel_rfl, ?_⟩) hH ?_
  · intro W hS
    exact run_load_iA (by rfl) (by rfl) hS
  simp only [Act.put, List.setIfInBounds_toArray, List.set_cons_zero, List.set_cons_succ]
  refine wpAnyH_take (i := 3) (v := ?_) rfl (by kernel_rfl) (by kernel_rfl) (by kernel_rfl) (fun _ _ _ h => h) (Or.inl ⟨by kernel_rfl, ?_⟩) hH ?_
  rotate_left
  · intro W hS
    go_simp
    try rfl
  simp only [Act.put, List.setIfInBounds_toArray, List.set_cons_zero, List.set_cons_succ, List.getElem_toArray, List.getElem_cons_succ, List.getElem_cons_zero]
  refine wpAnyH_take (i := 4) (v := inV i) rfl (by kernel_rfl) (by kernel_rfl) (by kernel_rfl) (fun _ _ _ h => h) (Or.inl ⟨by kernel_rfl, ?_⟩) hH ?_
  · intro W hS
    exact run_load_in (by rfl) (by rfl) hS
  simp only [Act.put, List.setIfInBounds_toArray, List.set_cons_zero, List.set_cons_succ]
  refine wpAnyH_ready (rs := [5]) (by kernel_rfl) (by simp) ?_
  refine AllReadyH.cons rfl (fun K hK => ?_) AllReadyH.nil
  go_simp
  with_reducible refine (qD.out _ hg).mono ?_
  rintro e w2 ⟨rfl, b2⟩
  replace hg := hg.below b2
  have hH2 := hH.below b2 hH.lt
  replace b0 := b0.trans (b2.mono b0.size)
  refine hK.out _ _ hH2 (fun _ => ?_)
  clear hK K
  try simp only [Act.put, List.setIfInBounds_toArray, List.set_cons_zero, List.set_cons_succ]
  refine wpAnyH_ready (rs := [6]) (by kernel_rfl) (by simp) ?_
  refine AllReadyH.cons rfl (fun K hK => ?_) AllReadyH.nil
  go_simp
  with_reducible refine (qW.out _ hg).mono ?_
  rintro e w3 ⟨rfl, hg3, b3⟩
  have hH3 := hH2.but b3 hH2.lt (by have := nG.out; have := nB.out; simp; omega)
  have b4 := (But.of b0 [G, B]).trans (b3.mono (S' := [G, B]) b0.size (fun k hk => .inl hk))
  refine hK.out _ _ hH3 (fun _ => ?_)
  clear hK K
  try simp only [Act.put, List.setIfInBounds_toArray, List.set_cons_zero, List.set_cons_succ]
  refine wpAnyH_done (by kernel_rfl) ?_ _
  go_wp2_with fail
  exact bodyPost_end (v := .tuple #[]) (by simp [results, Tryz.results118, go_sem]) rfl ⟨rfl, hg3, b4⟩
set_option maxRecDepth 20000 in
theorem gchoose_yes (h : GuAt w G B g m) (i : In) (v : Int) (hc : 0 ≤ i.c ∧ i.c ≤ 15) (hB : RdY B g m i.B 4 v) (hq : condL g.f i.c.toNat = true) (hr : WrY B g m i.A 4 v g' m') :
    Calls Tryz.prog 158 #[mp G, inV i] w fun e w' => e = .returned (.tuple #[]) ∧ GuAt w' G B g' m' ∧ But [G, B] w.heap.size w w' := by
  have qR := Lib.hid (fun W (hW : GuAt W G B g m) => gread_yes hW i.B 4 v hB)
  have qH := Lib.hid (fun W (hW : GuAt W G B g m) => gholds hW i hc)
  rw [hq] at qH
  have qW := Lib.hid (fun W (hg : GuAt W G B g m) => gwrite_yes hg i.A 4 v g' m' hr)
  clear hr
  clear hB hq
  have b0 := (Below.refl w.heap.size w).alloc (Nat.le_refl _) (.cells (in16 i) 33)
  have kI := Blk.new w 33 (in16 i)
  have hg := h.below b0
  go_enter Tryz.func158, Tryz.ntmps158
  go_wp2_with (first | (with_reducible refine load_iB rfl _ rfl rfl kI ?_) | ((with_reducible refine (qR.out _ hg).mono ?_); rintro e w1 ⟨rfl, b1⟩; have hg1 := hg.below b1; have kI1 := kI.below b1 kI.lt) | (with_reducible refine load_in rfl _ rfl rfl kI1 ?_) | ((with_reducible refine (qH.out _ hg1).mono ?_); rintro e w2 ⟨rfl, b2⟩; have hg2 := hg1.below b2; have kI2 := kI1.below b2 kI1.lt) | (with_reducible refine load_iA rfl _ rfl rfl kI2 ?_) | ((with_reducible refine (qW.out _ hg2).mono ?_); rintro e w3 ⟨rfl, hg3, b3⟩))
  have bb := (b0.trans (b1.mono b0.size)).trans (b2.mono (Nat.le_trans b0.size b1.size))
  exact bodyPost_end (v := .tuple #[]) (by simp [results, Tryz.results158, go_sem]) rfl ⟨rfl, hg3, (But.of bb [G, B]).trans (b3.mono (S' := [G, B]) bb.size (fun k hk => .inl hk))⟩
set_option maxRecDepth 20000 in
theorem gchoose_no (h : GuAt w G B g m) (i : In) (v : Int) (hc : 0 ≤ i.c ∧ i.c ≤ 15) (hB : RdY B g m i.B 4 v) (hq : condL g.f i.c.toNat = false) :
    Calls Tryz.prog 158 #[mp G, inV i] w fun e w' => e = .returned (.tuple #[]) ∧ GuAt w' G B g m ∧ But [G, B] w.heap.size w w' := by
  have qR := Lib.hid (fun W (hW : GuAt W G B g m) => gread_yes hW i.B 4 v hB)
  have qH := Lib.hid (fun W (hW : GuAt W G B g m) => gholds hW i hc)
  rw [hq] at qH
  clear hB hq
  have b0 := (Below.refl w.heap.size w).alloc (Nat.le_refl _) (.cells (in16 i) 33)
  have kI := Blk.new w 33 (in16 i)
  have hg := h.below b0
  go_enter Tryz.func158, Tryz.ntmps158
  go_wp2_with (first | (with_reducible refine load_iB rfl _ rfl rfl kI ?_) | ((with_reducible refine (qR.out _ hg).mono ?_); rintro e w1 ⟨rfl, b1⟩; have hg1 := hg.below b1; have kI1 := kI.below b1 kI.lt) | (with_reducible refine load_in rfl _ rfl rfl kI1 ?_) | ((with_reducible refine (qH.out _ hg1).mono ?_); rintro e w2 ⟨rfl, b2⟩; have hg2 := hg1.below b2; have kI2 := kI1.below b2 kI1.lt))
  exact bodyPost_end (v := .tuple #[]) (by simp [results, Tryz.results158, go_sem]) rfl ⟨rfl, hg2, But.of ((b0.trans (b1.mono b0.size)).trans (b2.mono (Nat.le_trans b0.size b1.size))) _⟩
set_option maxRecDepth 20000 in
theorem gmove_cmov (h : GuAt w G B g m) (i : In) (hop : i.op = 35) (hm : ∀ W, GuAt W G B g m → Calls Tryz.prog 158 #[mp G, inV i] W fun e w' => e = .returned (.tuple #[]) ∧ GuAt w' G B g' m' ∧ But [G, B] W.heap.size W w') :
    Calls Tryz.prog 118 #[mp G, inV i] w fun e w' => e = .returned (.tuple #[]) ∧ GuAt w' G B g' m' ∧ But [G, B] w.heap.size w w' := by
  have qM := Lib.hid hm
  clear hm
  have b0 := (Below.refl w.heap.size w).alloc (Nat.le_refl _) (.cells (in16 i) 33)
  have kI := Blk.new w 33 (in16 i)
  have hg := h.below b0
  have c0 := kI.cell (i := 0) (v := .int .i64 i.op) rfl
  rw [hop] at c0
  go_enter Tryz.func118, Tryz.ntmps118
  go_wp2_with (first | (with_reducible refine load_in rfl _ rfl rfl kI ?_) | ((with_reducible refine (qM.out _ hg).mono ?_); rintro e w1 ⟨rfl, hg1, b1⟩))
  exact bodyPost_end (v := .tuple #[]) (by simp [results, Tryz.results118, go_sem]) rfl ⟨rfl, hg1, (But.of b0 [G, B]).trans (b1.mono (S' := [G, B]) b0.size (fun k hk => .inl hk))⟩
end
end Go.Proofs.YtcdoidnfdkodoaaGreatDoor
