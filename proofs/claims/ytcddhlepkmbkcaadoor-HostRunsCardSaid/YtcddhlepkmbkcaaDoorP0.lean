/- The small functions of package host, without memory. -/
import Derived.Test.YtcddhlepkmbkcaaDoorS0
namespace Go.Proofs.YtcddhlepkmbkcaaDoor
open Go.RowKit
set_option linter.unusedVariables false
set_option linter.unusedSimpArgs false
set_option linter.unusedSectionVars false

theorem isReg_any (i : Int) (w : World) : Calls Tryd.prog 47 #[.int .i64 i] w fun e w' => e = .returned (.bool (decide (0 < i) && decide (i < 32))) ∧ w = w' := by
  go_enter Tryd.func47, Tryd.ntmps47
  go_wp2
  all_goals (go_ret; refine ⟨ret_bool ?_, rfl⟩; first | (simp_all; done) | (simp_all; omega) | (simp; omega))
theorem fits_1 (a : Int) : fitsL a 1 = decide (a ≤ 32767) := by
  unfold fitsL; simp
theorem fits_2 (a : Int) : fitsL a 2 = (decide (a % 2 = 0) && decide (a ≤ 32766)) := by
  unfold fitsL; simp
theorem fits_4 (a : Int) : fitsL a 4 = (decide (a % 4 = 0) && decide (a ≤ 32764)) := by
  unfold fitsL; simp
theorem fits_no {a n : Int} (h1 : ¬ n = 1) (h2 : ¬ n = 2) (h4 : ¬ n = 4) : fitsL a n = false := by
  unfold fitsL; simp [h1, h2, h4]
theorem isPlace_any (a n : Int) (ha : 0 ≤ a ∧ a ≤ 4294967295) (w : World) : Calls Tryd.prog 35 #[.int .u32 a, .int .i64 n] w fun e w' => e = .returned (.bool (fitsL a n)) ∧ w = w' := by
  rcases (by omega : n = 1 ∨ n = 2 ∨ n = 4 ∨ (¬ n = 1 ∧ ¬ n = 2 ∧ ¬ n = 4)) with rfl | rfl | rfl | ⟨h1, h2, h4⟩
  · rw [fits_1]
    go_enter Tryd.func35, Tryd.ntmps35
    go_wp2
    all_goals (go_ret; refine ⟨ret_bool ?_, rfl⟩; first | (simp_all; done) | (simp_all; omega) | (simp; omega))
  · rw [fits_2]
    go_enter Tryd.func35, Tryd.ntmps35
    go_wp2
    all_goals (go_ret; refine ⟨ret_bool ?_, rfl⟩; first | (simp_all; done) | (simp_all; omega) | (simp; omega))
  · rw [fits_4]
    go_enter Tryd.func35, Tryd.ntmps35
    go_wp2
    all_goals (go_ret; refine ⟨ret_bool ?_, rfl⟩; first | (simp_all; done) | (simp_all; omega) | (simp; omega))
  · rw [fits_no h1 h2 h4]
    go_enter Tryd.func35, Tryd.ntmps35
    go_wp2
    all_goals (go_ret; refine ⟨ret_bool ?_, rfl⟩; first | (simp_all; done) | (simp_all; omega) | (simp; omega))
theorem size_any (op : Int) (w : World) : Calls Tryd.prog 57 #[.int .i64 op] w fun e w' => e = .returned (.int .i64 (sizeL op)) ∧ w = w' := by
  go_enter Tryd.func57, Tryd.ntmps57
  go_wp2
  all_goals (go_ret; refine ⟨ret_int ?_, rfl⟩; simp_all [sizeL])
theorem one_any (c : Bool) (w : World) : Calls Tryd.prog 68 #[.bool c] w fun e w' => e = .returned (.int .u32 (oneL c)) ∧ w = w' := by
  go_enter Tryd.func68, Tryd.ntmps68
  cases c
  all_goals (go_wp2; go_ret; exact ⟨rfl, rfl⟩)
theorem taken_any (op a b : Int) (w : World) : Calls Tryd.prog 56 #[.int .i64 op, .int .u32 a, .int .u32 b] w fun e w' => e = .returned (.bool (takenL op a b)) ∧ w = w' := by
  have h1 := bd32 a
  have h2 := bd32 b
  go_enter Tryd.func56, Tryd.ntmps56
  go_wp2
  all_goals (go_ret; refine ⟨ret_bool ?_, rfl⟩; simp_all [takenL])
theorem widened_any (op v : Int) (hv : 0 ≤ v ∧ v ≤ 4294967295) (w : World) : Calls Tryd.prog 58 #[.int .i64 op, .int .u32 v] w fun e w' => e = .returned (.int .u32 (widenL op v)) ∧ w = w' := by
  go_enter Tryd.func58, Tryd.ntmps58
  go_wp2_with (first | (go_at_call 66; refine (sign8_any _ _).mono ?_; rintro e w' ⟨rfl, rfl⟩) | (go_at_call 67; refine (signed_any _ _ hv _).mono ?_; rintro e w' ⟨rfl, rfl⟩))
  all_goals (go_ret; refine ⟨ret_int ?_, rfl⟩; simp_all [widenL, held])
theorem wrap32_zero {b : Int} (hb : 0 ≤ b ∧ b ≤ 4294967295) : (wrap32 b = 0) ↔ (b = 0) := by unfold wrap32; omega
theorem wrap64_mod (x : Int) : wrap64 x % 4294967296 = x % 4294967296 := by unfold wrap64; omega
theorem ediv_bd {a b : Int} (ha : 0 ≤ a ∧ a ≤ 4294967295) (hb : 0 ≤ b) : a / b % 4294967296 = a / b :=
  Int.emod_eq_of_lt (Int.ediv_nonneg ha.1 hb) (by have := Int.ediv_le_self b ha.1; omega)
theorem emod_bd {a b : Int} (ha : 0 ≤ a ∧ a ≤ 4294967295) (hb : 0 ≤ b) : a % b % 4294967296 = a % b := by
  by_cases h : b = 0
  · subst h; rw [Int.emod_zero]; omega
  · have h1 := Int.emod_nonneg a h
    have h2 : a % b ≤ a := by
      have := Int.mul_ediv_add_emod a b
      have := Int.mul_nonneg hb (Int.ediv_nonneg ha.1 hb)
      omega
    omega
theorem quot_any (op a b : Int) (ho : op = 42 ∨ op = 43 ∨ op = 44 ∨ op = 45) (ha : 0 ≤ a ∧ a ≤ 4294967295) (hb : 0 ≤ b ∧ b ≤ 4294967295) (w : World) :
    Calls Tryd.prog 70 #[.int .i64 op, .int .u32 a, .int .u32 b] w fun e w' => e = .returned (.int .u32 (quotL op a b)) ∧ w = w' := by
  have h1 := bd32 a
  have h2 := bd32 b
  have hz := hid (wrap32_zero hb)
  have hm := hid (wrap64_mod ((wrap32 a).tdiv (wrap32 b)))
  have hd := hid (ediv_bd ha hb.1)
  have he := hid (emod_bd ha hb.1)
  rcases ho with rfl | rfl | rfl | rfl
  · go_enter Tryd.func70, Tryd.ntmps70
    go_wp2
    · rename_i h; replace h := hz.out.1 h; (go_ret; refine ⟨ret_int ?_, rfl⟩; simp [quotL, h])
    · rename_i h; have h : ¬ b = 0 := fun e => (show ¬ wrap32 b = 0 by simpa using h) (hz.out.2 e); (go_ret; refine ⟨ret_int ?_, rfl⟩; rw [hm.out]; simp [quotL, h])
  · go_enter Tryd.func70, Tryd.ntmps70
    go_wp2
    · (go_ret; refine ⟨ret_int ?_, rfl⟩; simp_all [quotL])
    · (go_ret; refine ⟨ret_int ?_, rfl⟩; rw [hd.out]; simp_all [quotL])
  · go_enter Tryd.func70, Tryd.ntmps70
    go_wp2
    · rename_i h; replace h := hz.out.1 h; (go_ret; refine ⟨ret_int ?_, rfl⟩; simp [quotL, h])
    · rename_i h; have h : ¬ b = 0 := fun e => (show ¬ wrap32 b = 0 by simpa using h) (hz.out.2 e); (go_ret; refine ⟨ret_int ?_, rfl⟩; simp [quotL, h])
  · go_enter Tryd.func70, Tryd.ntmps70
    go_wp2
    · (go_ret; refine ⟨ret_int ?_, rfl⟩; simp_all [quotL])
    · (go_ret; refine ⟨ret_int ?_, rfl⟩; rw [he.out]; simp_all [quotL])
theorem prod_any (op a b : Int) (ha : 0 ≤ a ∧ a ≤ 4294967295) (hb : 0 ≤ b ∧ b ≤ 4294967295) (w : World) :
    Calls Tryd.prog 69 #[.int .i64 op, .int .u32 a, .int .u32 b] w fun e w' => e = .returned (.int .u32 (prodL op a b)) ∧ w = w' := by
  have h1 := bd32 a
  have hp := hid (mul_bd ha hb)
  go_enter Tryd.func69, Tryd.ntmps69
  go_wp2_with (first | (go_at_call 75; refine (mulU_any _ _ ha hb _).mono ?_; rintro e w' ⟨rfl, rfl⟩) | (go_at_call 76; refine (mulS_any _ _ _).mono ?_; rintro e w' ⟨rfl, rfl⟩))
  all_goals (go_ret; refine ⟨ret_int ?_, rfl⟩; first | (simp_all [prodL]; done) | (simp_all [prodL]; rw [if_neg (by omega)]; have := hp.out; omega))
theorem reck_any (op a b : Int) (h1 : 1 ≤ op) (h2 : op ≤ 45) (h3 : op = 1 ∨ 19 ≤ op) (ha : 0 ≤ a ∧ a ≤ 4294967295) (hb : 0 ≤ b ∧ b ≤ 4294967295) (w : World) :
    Calls Tryd.prog 60 #[.int .i64 op, .int .u32 a, .int .u32 b] w fun e w' => e = .returned (.int .u32 (aluL op a b)) ∧ w = w' := by
  have hs1 := bd32 a
  have hs2 := bd32 b
  have hq := fun h w => quot_any op a b h ha hb w
  go_enter Tryd.func60, Tryd.ntmps60
  go_wp2_with (first | (go_at_call 68; refine (one_any _ _).mono ?_; rintro e w' ⟨rfl, rfl⟩) | (go_at_call 69; refine (prod_any _ _ _ ha hb _).mono ?_; rintro e w' ⟨rfl, rfl⟩) | (go_at_call 70; refine (hq (by simp_all; omega) _).mono ?_; rintro e w' ⟨rfl, rfl⟩))
  all_goals (go_ret; refine ⟨ret_int ?_, rfl⟩; simp_all [aluL])
end Go.Proofs.YtcddhlepkmbkcaaDoor
