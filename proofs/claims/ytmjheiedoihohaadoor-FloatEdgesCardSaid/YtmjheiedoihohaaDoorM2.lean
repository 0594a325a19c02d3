/-
  The nearest word depends on the value alone; a word's own number is nearest to it.
-/
import Derived.Test.YtmjheiedoihohaaDoorM1
namespace Go.Proofs.YtmjheiedoihohaaDoor
open Ieee
set_option linter.unusedVariables false

/-- Cut to the nearest, written plainly. -/
def cutE (n k : Nat) : Nat := n / 2 ^ k + (decide (2 ^ k < 2 * (n % 2 ^ k)) || (2 ^ k == 2 * (n % 2 ^ k) && n / 2 ^ k % 2 == 1)).toNat
theorem cut_eq (neg : Bool) (n d : Nat) : Toward.even.cut neg n d = cutE n (min d (n.log2 + 2)) := by
  unfold Toward.cut cutE
  simp only [Nat.shiftLeft_eq, Nat.one_mul]
theorem cutE_zero (n : Nat) : cutE n 0 = n := by
  unfold cutE
  simp [Nat.mod_one]
theorem log2_lt {n : Nat} (h : n ≠ 0) (k : Nat) : n.log2 < k ↔ n < 2 ^ k := Nat.log2_lt h
theorem cutE_far {n k : Nat} (h : n.log2 + 2 ≤ k) : cutE n k = 0 := by
  have h1 : n < 2 ^ (n.log2 + 1) := Nat.lt_log2_self
  have h2 : 2 ^ (n.log2 + 2) ≤ 2 ^ k := Nat.pow_le_pow_right (by decide) h
  rw [Nat.pow_succ] at h2
  unfold cutE
  rw [Nat.div_eq_of_lt (by omega), Nat.mod_eq_of_lt (by omega)]
  rw [decide_eq_false (by omega), show (2 ^ k == 2 * n) = false from beq_eq_false_iff_ne.2 (by omega)]
  rfl
theorem cut_E (neg : Bool) (n d : Nat) : Toward.even.cut neg n d = cutE n d := by
  rw [cut_eq]
  rcases Nat.le_total d (n.log2 + 2) with h | h
  · rw [Nat.min_eq_left h]
  · rw [Nat.min_eq_right h, cutE_far (Nat.le_refl _), cutE_far h]
theorem log2_mul {n : Nat} (h : n ≠ 0) (k : Nat) : (n * 2 ^ k).log2 = n.log2 + k := by
  have h1 := Nat.log2_self_le h
  have h2 : n < 2 ^ (n.log2 + 1) := Nat.lt_log2_self
  have hn : n * 2 ^ k ≠ 0 := by
    have := Nat.two_pow_pos k
    exact Nat.mul_ne_zero h (by omega)
  have a : (n * 2 ^ k).log2 < n.log2 + k + 1 := by
    rw [Nat.log2_lt hn, show n.log2 + k + 1 = (n.log2 + 1) + k by omega, Nat.pow_add]
    exact Nat.mul_lt_mul_of_pos_right h2 (Nat.two_pow_pos k)
  have b : n.log2 + k ≤ (n * 2 ^ k).log2 := by
    rw [Nat.le_log2 hn, Nat.pow_add]
    exact Nat.mul_le_mul_right _ h1
  omega
theorem cutE_mul (n k d : Nat) : cutE (n * 2 ^ k) (d + k) = cutE n d := by
  unfold cutE
  have hp := Nat.two_pow_pos k
  have h1 : n * 2 ^ k / 2 ^ (d + k) = n / 2 ^ d := by rw [Nat.pow_add]; exact Nat.mul_div_mul_right _ _ hp
  have h2 : n * 2 ^ k % 2 ^ (d + k) = n % 2 ^ d * 2 ^ k := by rw [Nat.pow_add]; exact Nat.mul_mod_mul_right _ _ _
  have h3 : (2 ^ d * 2 ^ k < 2 * (n % 2 ^ d * 2 ^ k)) ↔ 2 ^ d < 2 * (n % 2 ^ d) := by
    rw [← Nat.mul_assoc]; exact Nat.mul_lt_mul_right hp
  have h4 : (2 ^ d * 2 ^ k = 2 * (n % 2 ^ d * 2 ^ k)) ↔ 2 ^ d = 2 * (n % 2 ^ d) := by
    rw [← Nat.mul_assoc]; exact Nat.mul_right_cancel_iff hp
  rw [h1, h2, Nat.pow_add]
  congr 2
  · congr 1
    · exact decide_eq_decide.2 h3
    · congr 1
      rw [Bool.eq_iff_iff, beq_iff_eq, beq_iff_eq]
      exact h4
theorem cutE_exact (n k : Nat) : cutE (n * 2 ^ k) k = n := by
  have := cutE_mul n k 0
  rw [Nat.zero_add, cutE_zero] at this
  exact this
/-- The value alone counts. -/
theorem nearest_mul (neg : Bool) (m k : Nat) (p : Int) : D.nearest neg (m * 2 ^ k) p = D.nearest neg m (p + k) := by
  rcases Nat.eq_zero_or_pos m with rfl | hm
  · simp [Format.nearest]
  have hm0 : m ≠ 0 := by omega
  have hn : m * 2 ^ k ≠ 0 := by
    have := Nat.two_pow_pos k
    exact Nat.mul_ne_zero hm0 (by omega)
  unfold Format.nearest
  rw [if_neg hm0, if_neg hn, log2_mul hm0]
  simp only [cut_E, Nat.shiftLeft_eq]
  have hl : p + ((m.log2 + k : Nat) : Int) - D.fractionBits = p + k + m.log2 - D.fractionBits := by omega
  rw [hl]
  generalize max (p + k + m.log2 - D.fractionBits) D.leastPlace = last
  have key : cutE (m * 2 ^ k * 2 ^ (p - last).toNat) (last - p).toNat = cutE (m * 2 ^ (p + k - last).toNat) (last - (p + k)).toNat := by
    rcases Int.lt_or_le p last with h1 | h1
    · rcases Int.lt_or_le (p + k) last with h2 | h2
      · rw [show (p - last).toNat = 0 by omega, show (p + k - last).toNat = 0 by omega, Nat.pow_zero, Nat.mul_one, Nat.mul_one,
          show (last - p).toNat = (last - (p + k)).toNat + k by omega]
        exact cutE_mul _ _ _
      · rw [show (p - last).toNat = 0 by omega, show (last - (p + k)).toNat = 0 by omega, Nat.pow_zero, Nat.mul_one, cutE_zero,
          show k = (p + k - last).toNat + (last - p).toNat by omega, Nat.pow_add, ← Nat.mul_assoc, cutE_exact]
        congr 2
        omega
    · rw [show (last - p).toNat = 0 by omega, show (last - (p + k)).toNat = 0 by omega, cutE_zero, cutE_zero, Nat.mul_assoc, ← Nat.pow_add]
      congr 2
      omega
  rw [key]
end Go.Proofs.YtmjheiedoihohaaDoor
