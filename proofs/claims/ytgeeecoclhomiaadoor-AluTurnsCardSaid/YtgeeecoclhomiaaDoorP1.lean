/- Plain facts on sums, differences and their flags. -/
import Derived.Test.YtgeeecoclhomiaaDoorA4
namespace Go.Proofs.YtgeeecoclhomiaaDoor
open Go.RowKit
set_option linter.unusedVariables false
set_option linter.unusedSimpArgs false
set_option linter.unusedSectionVars false

theorem bit31_eq {x : Int} (h : 0 ≤ x ∧ x ≤ 4294967295) : bitB x 31 = (x / 2147483648 == 1) := by
  unfold bitB
  rw [Bool.eq_iff_iff, show ((2 : Int) ^ 31) = 2147483648 by decide]
  simp only [bne_iff_ne, beq_iff_eq, ne_eq]
  omega
theorem sub_lt {a b : Int} (h : 0 ≤ a ∧ a ≤ 4294967295) (hb : 0 ≤ b ∧ b ≤ 4294967295) : subF a b false 0 = decide (a < b) := by
  show subK a b false = _
  unfold subK
  rw [show c01 false = 0 from rfl, Bool.eq_iff_iff]
  simp only [bne_iff_ne, decide_eq_true_eq, ne_eq]
  omega
theorem sub_eq {a b : Int} (h : 0 ≤ a ∧ a ≤ 4294967295) (hb : 0 ≤ b ∧ b ≤ 4294967295) : subF a b false 3 = (a == b) := by
  show (subR a b false == 0) = _
  unfold subR
  rw [show c01 false = 0 from rfl, Bool.eq_iff_iff]
  simp only [beq_iff_eq]
  omega
theorem sub_top {a b : Int} : subF a b false 4 = (subR a b false / 2147483648 == 1) := bit31_eq (subR_bd a b false)
theorem less_flags (R t u v : Int) (hR : R = t % 4294967296) (ht : t = u - v) (hu : -2147483648 ≤ u ∧ u ≤ 2147483647) (hv : -2147483648 ≤ v ∧ v ≤ 2147483647) :
    (!((R / 2147483648 == 1) == (t != wrap32 t))) = decide (u < v) := by
  have hp : (R / 2147483648 == 1) = decide (2147483648 ≤ R) := by
    rw [Bool.eq_iff_iff]; simp only [beq_iff_eq, decide_eq_true_eq]; omega
  have hq : (t != wrap32 t) = decide (t < -2147483648 ∨ 2147483647 < t) := by
    rw [Bool.eq_iff_iff]; simp only [bne_iff_ne, decide_eq_true_eq, ne_eq]; unfold wrap32; omega
  rw [hp, hq]
  by_cases c1 : 2147483648 ≤ R <;> by_cases c2 : t < -2147483648 ∨ 2147483647 < t <;> by_cases c3 : u < v <;> simp only [c1, c2, c3, decide_true, decide_false] <;> first | rfl | (exfalso; omega)
theorem sub_less {a b : Int} (h : 0 ≤ a ∧ a ≤ 4294967295) (hb : 0 ≤ b ∧ b ≤ 4294967295) : (!(subF a b false 4 == subF a b false 5)) = decide (wrap32 a < wrap32 b) := by
  rw [sub_top]
  show (!((subR a b false / 2147483648 == 1) == subO a b false)) = _
  unfold subR subO
  rw [show c01 false = 0 from rfl, Int.sub_zero, Int.sub_zero]
  exact less_flags _ _ _ _ (by unfold wrap32; omega) rfl (bd32 a) (bd32 b)
theorem bit4_xor {a b : Int} (h : 0 ≤ a ∧ a ≤ 4294967295) (hb : 0 ≤ b ∧ b ≤ 4294967295) : bits .xor .u32 a b / 16 % 2 = (a / 16 + b / 16) % 2 := by
  obtain ⟨A, rfl⟩ := Int.eq_ofNat_of_zero_le h.1
  obtain ⟨B, rfl⟩ := Int.eq_ofNat_of_zero_le hb.1
  rw [u32_xor_nat' A B (by omega) (by omega)]
  have e := xor_div A B 4
  have e2 := xor_mod2 (A / 2 ^ 4) (B / 2 ^ 4)
  rw [← e, show (2 : Nat) ^ 4 = 16 from rfl] at e2
  omega
theorem sub_af {a b : Int} (h : 0 ≤ a ∧ a ≤ 4294967295) (hb : 0 ≤ b ∧ b ≤ 4294967295) : subF a b false 2 = decide (a % 16 < b % 16) := by
  show (!(bitB (bits .xor .u32 a b) 4 == bitB (subR a b false) 4)) = _
  have hx := bit4_xor h hb
  unfold bitB subR
  rw [show c01 false = 0 from rfl, show ((2 : Int) ^ 4) = 16 by decide, hx, Int.sub_zero]
  clear hx
  have hp : ((a / 16 + b / 16) % 2 != 0) = decide ((a / 16 + b / 16) % 2 = 1) := by
    rw [Bool.eq_iff_iff]; simp only [bne_iff_ne, decide_eq_true_eq, ne_eq]; omega
  have hq : ((a - b) % 4294967296 / 16 % 2 != 0) = decide ((a - b) / 16 % 2 = 1) := by
    rw [Bool.eq_iff_iff]; simp only [bne_iff_ne, decide_eq_true_eq, ne_eq]; omega
  rw [hp, hq]
  obtain ⟨A, x, rfl, hx⟩ : ∃ A x, a = 16 * A + x ∧ 0 ≤ x ∧ x < 16 := ⟨a / 16, a % 16, by omega, by omega⟩
  obtain ⟨B, y, rfl, hy⟩ : ∃ B y, b = 16 * B + y ∧ 0 ≤ y ∧ y < 16 := ⟨b / 16, b % 16, by omega, by omega⟩
  clear hp hq
  rw [show (16 * A + x) / 16 = A by omega, show (16 * B + y) / 16 = B by omega, show (16 * A + x) % 16 = x by omega, show (16 * B + y) % 16 = y by omega]
  by_cases c : x < y
  · rw [show (16 * A + x - (16 * B + y)) / 16 = A - B - 1 by omega]
    by_cases c1 : (A + B) % 2 = 1 <;> by_cases c2 : (A - B - 1) % 2 = 1 <;> simp only [c, c1, c2, decide_true, decide_false] <;> first | rfl | (exfalso; omega)
  · rw [show (16 * A + x - (16 * B + y)) / 16 = A - B by omega]
    by_cases c1 : (A + B) % 2 = 1 <;> by_cases c2 : (A - B) % 2 = 1 <;> simp only [c, c1, c2, decide_true, decide_false] <;> first | rfl | (exfalso; omega)
theorem and15 {a : Int} (h : 0 ≤ a ∧ a ≤ 4294967295) : bits .and .u32 a 15 = a % 16 := by
  have := and_mask a 4 h (by decide)
  simpa using this
end Go.Proofs.YtgeeecoclhomiaaDoor
