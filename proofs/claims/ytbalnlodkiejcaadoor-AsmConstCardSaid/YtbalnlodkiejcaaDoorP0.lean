/- The small functions of package host, without memory. -/
import Derived.Test.YtbalnlodkiejcaaDoorS0
namespace Go.Proofs.YtbalnlodkiejcaaDoor
open Go.RowKit
set_option linter.unusedVariables false
set_option linter.unusedSimpArgs false
set_option linter.unusedSectionVars false

theorem fits_1 (a : Int) : fitsL a 1 = decide (a ≤ 32767) := by
  unfold fitsL; simp
theorem fits_2 (a : Int) : fitsL a 2 = (decide (a % 2 = 0) && decide (a ≤ 32766)) := by
  unfold fitsL; simp
theorem fits_4 (a : Int) : fitsL a 4 = (decide (a % 4 = 0) && decide (a ≤ 32764)) := by
  unfold fitsL; simp
theorem fits_no {a n : Int} (h1 : ¬ n = 1) (h2 : ¬ n = 2) (h4 : ¬ n = 4) : fitsL a n = false := by
  unfold fitsL; simp [h1, h2, h4]
theorem wrap32_zero {b : Int} (hb : 0 ≤ b ∧ b ≤ 4294967295) : (wrap32 b = 0) ↔ (b = 0) := by unfold wrap32; omega
theorem wrap64_mod (x : Int) : wrap64 x % 4294967296 = x % 4294967296 := by unfold wrap64; omega
theorem ediv_bd {a b : Int} (ha : 0 ≤ a ∧ a ≤ 4294967295) (hb : 0 ≤ b) : a / b % 4294967296 = a / b :=
  Int.emod_eq_of_lt (Int.ediv_nonneg ha.1 hb) (by have := Int.ediv_le_self b ha.1; omega)
theorem emod_bd {a b : Int} (ha : 0 ≤ a ∧ a ≤ 4294967295) (hb : 0 ≤ b) : a % b % 4294967296 = a % b := by
  by_cases h : b = 0
  · subst h; rw [Int.emod_zero]; omega
  · have h1 := Int.emod_nonneg a h
    have h2 : a % b ≤ a := by
      have := Int.mul_ediv_add_emod a b
      have := Int.mul_nonneg hb (Int.ediv_nonneg ha.1 hb)
      omega
    omega
end Go.Proofs.YtbalnlodkiejcaaDoor
