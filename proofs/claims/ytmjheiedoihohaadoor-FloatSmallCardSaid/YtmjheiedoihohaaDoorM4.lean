/-
  Sums, products and quotients of finite words.
-/
import Derived.Test.YtmjheiedoihohaaDoorM3
namespace Go.Proofs.YtmjheiedoihohaaDoor
open Ieee
set_option linter.unusedVariables false

theorem signed_eq (s : Bool) (m k : Nat) : signed s m k = (if s then -((m * 2 ^ k : Nat) : Int) else ((m * 2 ^ k : Nat) : Int)) := by
  unfold signed
  rw [Nat.shiftLeft_eq]
theorem signed_abs (s : Bool) (m k : Nat) : (signed s m k).natAbs = m * 2 ^ k := by
  rw [signed_eq]; generalize m * 2 ^ k = x; cases s <;> simp
theorem signed_neg {s : Bool} {m k : Nat} (h : m ≠ 0) : decide (signed s m k < 0) = s := by
  have hp : 0 < m * 2 ^ k := Nat.mul_pos (by omega) (Nat.two_pow_pos k)
  rw [signed_eq]
  generalize m * 2 ^ k = x at *
  cases s <;> simp <;> omega
theorem signed_zero {s : Bool} {m k : Nat} : signed s m k = 0 ↔ m = 0 := by
  have hp := Nat.two_pow_pos k
  constructor
  · intro h
    have h1 := signed_abs s m k
    rw [h] at h1
    rcases Nat.mul_eq_zero.1 h1.symm with h | h
    · exact h
    · omega
  · rintro rfl
    rw [signed_eq]; cases s <;> simp
theorem read0 : D.read 0 = .number false 0 (-1074) := by decide
theorem readn0 : D.read 9223372036854775808 = .number true 0 (-1074) := by decide
theorem read_one : D.read 4607182418800017408 = .number false 4503599627370496 (-52) := by decide
theorem read_two : D.read 4611686018427387904 = .number false 4503599627370496 (-51) := by decide
theorem nearest_pow (s : Bool) (m k : Nat) (p q : Int) (h : q = p + k) : D.nearest s (m * 2 ^ k) p = D.nearest s m q := by rw [nearest_mul, h]

theorem fin_or {a : Nat} (hn : isNan a = false) : finN a ∨ absN a = 9218868437227405312 := by
  unfold isNan at hn
  rw [decide_eq_false_iff_not] at hn
  unfold finN
  omega
theorem word_inf {a : Nat} (h : a < 18446744073709551616) (hi : absN a = 9218868437227405312) : D.word (sgn a) 9218868437227405312 = a := by rw [← hi]; exact word_sgn h
theorem near_self {a : Nat} (h : a < 18446744073709551616) (hf : finN a) : D.nearest (sgn a) (mg a) (-1074 + (ex a : Int)) = a := by rw [nearest_fin h hf, word_sgn h]
theorem mg_zero {a : Nat} : mg a = 0 ↔ absN a = 0 := by
  unfold mg; split <;> omega
theorem mg_log {a : Nat} : (mg a).log2 ≤ 52 := by
  unfold mg
  split
  · rcases Nat.eq_zero_or_pos (absN a) with h | h
    · rw [h]; decide
    · have : (absN a).log2 < 52 := (Nat.log2_lt (by omega)).2 (by simpa using ‹absN a < 4503599627370496›)
      omega
  · rw [log2_norm (Nat.mod_lt _ (by decide))]; omega

theorem mul_one {a : Nat} (h : a < 18446744073709551616) (hn : isNan a = false) : fl .mul a 4607182418800017408 = a := by
  rcases fin_or hn with hf | hi
  · rw [fl_num (s := sgn a) (m := mg a * 2 ^ 52) (p := -1074 + (ex a : Int) + -52), nearest_pow _ _ _ _ (-1074 + (ex a : Int)) (by omega), near_self h hf]
    rw [mul_def, read_fin h hf, read_one]
    simp only [Datum.product, Bool.xor_false, Option.map_some]
  · rw [fl_inf (s := sgn a), word_inf h hi]
    rw [mul_def, read_inf h hi, read_one]
    simp only [Datum.product, Bool.xor_false]
    rfl
theorem sub_zero {a : Nat} (h : a < 18446744073709551616) (hn : isNan a = false) (z : Nat) (hz : z = 0) : fl .sub a z = a := by
  subst hz
  rcases fin_or hn with hf | hi
  · rw [fl_num (s := sgn a) (m := mg a * 2 ^ ex a) (p := -1074), nearest_pow _ _ _ _ (-1074 + (ex a : Int)) rfl, near_self h hf]
    rw [sub_def, read_fin h hf, read0]
    simp only [Datum.opposite, Datum.sum, Bool.not_false, Option.map_some]
    rw [show min (-1074 + (ex a : Int)) (-1074) = -1074 by omega, show (-1074 + (ex a : Int) - -1074).toNat = ex a by omega]
    have hs : signed true 0 ((-1074 - -1074 : Int)).toNat = 0 := signed_zero.2 rfl
    rw [hs, Int.add_zero, signed_abs]
    congr 3
    split
    · simp
    · rename_i h0
      exact signed_neg (fun h1 => h0 (signed_zero.2 h1))
  · rw [fl_inf (s := sgn a), word_inf h hi]
    rw [sub_def, read_inf h hi, read0]
    rfl
/-- Either nought added. -/
theorem add_nought {a : Nat} (h : a < 18446744073709551616) (hf : finN a) (h0 : absN a ≠ 0) (t : Bool) : fl .add a (D.word t 0) = a := by
  rw [fl_num (s := sgn a) (m := mg a * 2 ^ ex a) (p := -1074), nearest_pow _ _ _ _ (-1074 + (ex a : Int)) rfl, near_self h hf]
  have hr : D.read (D.word t 0) = .number t 0 (-1074) := by cases t <;> decide
  rw [add_def, read_fin h hf, hr]
  simp only [Datum.sum, Option.map_some]
  rw [show min (-1074 + (ex a : Int)) (-1074) = -1074 by omega, show (-1074 + (ex a : Int) - -1074).toNat = ex a by omega]
  have hs : signed t 0 ((-1074 - -1074 : Int)).toNat = 0 := signed_zero.2 rfl
  have hm : mg a ≠ 0 := fun h1 => h0 (mg_zero.1 h1)
  rw [hs, Int.add_zero, signed_abs, if_neg (fun h1 => hm (signed_zero.1 h1))]
  congr 3
  exact signed_neg hm
theorem div_one {a : Nat} (h : a < 18446744073709551616) (hn : isNan a = false) : fl .quo a 4607182418800017408 = a := by
  rcases fin_or hn with hf | hi
  · have hl := mg_log (a := a)
    rw [fl_num (s := sgn a) (m := mg a * 2 ^ (55 - (mg a).log2)) (p := -1074 + (ex a : Int) - -52 - ((54 + 52 - (mg a).log2 : Nat) : Int) - 1), nearest_pow _ _ _ _ (-1074 + (ex a : Int)) (by omega), near_self h hf]
    rw [div_def, read_fin h hf, read_one]
    simp only [Datum.quotient, Bool.xor_false]
    rw [if_neg (by decide), show Nat.log2 4503599627370496 = 52 by decide]
    simp only [Option.map_some, Nat.shiftLeft_eq]
    have e : mg a * 2 ^ (54 + 52 - (mg a).log2) = mg a * 2 ^ (54 - (mg a).log2) * 4503599627370496 := by
      rw [show 54 + 52 - (mg a).log2 = 54 - (mg a).log2 + 52 by omega, Nat.pow_add, ← Nat.mul_assoc]
    rw [e, Nat.mul_div_cancel _ (by decide), Nat.mul_mod_left]
    congr 3
    rw [show 55 - (mg a).log2 = 54 - (mg a).log2 + 1 by omega, Nat.pow_succ, ← Nat.mul_assoc (mg a), Nat.mul_comm (mg a * _) 2]
    rfl
  · rw [fl_inf (s := sgn a), word_inf h hi]
    rw [div_def, read_inf h hi, read_one]
    simp only [Datum.quotient, Bool.xor_false]
    rfl
theorem twice {a : Nat} (h : a < 18446744073709551616) (hn : isNan a = false) : fl .mul a 4611686018427387904 = fl .add a a := by
  rcases fin_or hn with hf | hi
  · rw [fl_num (s := sgn a) (m := mg a * 2 ^ 52) (p := -1074 + (ex a : Int) + -51), fl_num (s := sgn a) (m := mg a * 2 ^ 1) (p := -1074 + (ex a : Int)), nearest_pow _ _ _ _ (-1074 + (ex a : Int) + 1) (by omega), nearest_pow _ _ _ _ (-1074 + (ex a : Int) + 1) (by omega)]
    · rw [add_def, read_fin h hf]
      simp only [Datum.sum, Option.map_some]
      rw [Int.min_self, Int.sub_self]
      have e : signed (sgn a) (mg a) (Int.toNat 0) + signed (sgn a) (mg a) (Int.toNat 0) = signed (sgn a) (mg a) 1 := by
        rw [signed_eq, signed_eq]; cases sgn a <;> simp <;> omega
      rw [e, signed_abs]
      congr 3
      split
      · simp
      · rename_i h0
        exact signed_neg (fun h1 => h0 (signed_zero.2 h1))
    · rw [mul_def, read_fin h hf, read_two]
      simp only [Datum.product, Bool.xor_false, Option.map_some]
  · rw [fl_inf (s := sgn a), fl_inf (s := sgn a)]
    · rw [add_def, read_inf h hi]
      simp only [Datum.sum, if_true]
      rfl
    · rw [mul_def, read_inf h hi, read_two]
      simp only [Datum.product, Bool.xor_false]
      rfl
end Go.Proofs.YtmjheiedoihohaaDoor
