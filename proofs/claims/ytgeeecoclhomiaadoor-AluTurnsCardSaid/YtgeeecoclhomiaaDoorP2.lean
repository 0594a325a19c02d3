/- Plain facts on bits. -/
import Derived.Test.YtgeeecoclhomiaaDoorP1
namespace Go.Proofs.YtgeeecoclhomiaaDoor
open Go.RowKit
set_option linter.unusedVariables false
set_option linter.unusedSimpArgs false
set_option linter.unusedSectionVars false

theorem low_and (a b : Nat) : (a &&& b) % 2 = a % 2 * (b % 2) := by
  have h0 := Nat.testBit_and (x := a) (y := b) (i := 0)
  simp only [Nat.testBit_zero] at h0
  rcases Nat.mod_two_eq_zero_or_one a with h1 | h1 <;> rcases Nat.mod_two_eq_zero_or_one b with h2 | h2 <;> rcases Nat.mod_two_eq_zero_or_one (a &&& b) with h3 | h3 <;> simp [h1, h2, h3] at h0 ⊢
theorem low_or (a b : Nat) : (a ||| b) % 2 = a % 2 + b % 2 - a % 2 * (b % 2) := by
  have h0 := Nat.testBit_or (x := a) (y := b) (i := 0)
  simp only [Nat.testBit_zero] at h0
  rcases Nat.mod_two_eq_zero_or_one a with h1 | h1 <;> rcases Nat.mod_two_eq_zero_or_one b with h2 | h2 <;> rcases Nat.mod_two_eq_zero_or_one (a ||| b) with h3 | h3 <;> simp [h1, h2, h3] at h0 ⊢
theorem nat_bits (n : Nat) : ∀ a b : Nat, a < 2 ^ n → b < 2 ^ n → (a &&& b) + (a ||| b) = a + b ∧ (a &&& b) + (a ^^^ b) = (a ||| b) := by
  induction n with
  | zero => intro a b ha hb; obtain rfl : a = 0 := by omega
            obtain rfl : b = 0 := by omega
            decide
  | succ n ih =>
    intro a b ha hb
    have h2 : 2 ^ (n + 1) = 2 * 2 ^ n := by rw [Nat.pow_succ]; omega
    obtain ⟨i1, i2⟩ := ih (a / 2) (b / 2) (by omega) (by omega)
    have e1 := Nat.and_div_two (a := a) (b := b)
    have e2 := Nat.or_div_two (a := a) (b := b)
    have e3 := Nat.xor_div_two (a := a) (b := b)
    rw [← e1, ← e2] at i1
    rw [← e1, ← e2, ← e3] at i2
    have l1 := low_and a b
    have l2 := low_or a b
    have l3 := xor_mod2 a b
    rcases Nat.mod_two_eq_zero_or_one a with h1 | h1 <;> rcases Nat.mod_two_eq_zero_or_one b with h3 | h3 <;> rw [h1, h3] at l1 l2 <;> simp only [Nat.zero_mul, Nat.one_mul, Nat.add_zero, Nat.zero_add, Nat.sub_zero] at l1 l2 <;> omega
theorem and_lt32 {a b : Nat} (ha : a < 4294967296) : a &&& b < 4294967296 := Nat.lt_of_le_of_lt Nat.and_le_left ha
theorem or_lt32 {a b : Nat} (ha : a < 4294967296) (hb : b < 4294967296) : a ||| b < 4294967296 := Nat.or_lt_two_pow (n := 32) ha hb
theorem and_bd {a b : Int} (h : 0 ≤ a ∧ a ≤ 4294967295) (hb : 0 ≤ b ∧ b ≤ 4294967295) : 0 ≤ bits .and .u32 a b ∧ bits .and .u32 a b ≤ 4294967295 := by
  obtain ⟨A, rfl⟩ := Int.eq_ofNat_of_zero_le h.1
  obtain ⟨B, rfl⟩ := Int.eq_ofNat_of_zero_le hb.1
  rw [u32_and_nat' A B (by omega) (by omega)]
  have := and_lt32 (a := A) (b := B) (by omega)
  omega
theorem or_bd {a b : Int} (h : 0 ≤ a ∧ a ≤ 4294967295) (hb : 0 ≤ b ∧ b ≤ 4294967295) : 0 ≤ bits .or .u32 a b ∧ bits .or .u32 a b ≤ 4294967295 := by
  obtain ⟨A, rfl⟩ := Int.eq_ofNat_of_zero_le h.1
  obtain ⟨B, rfl⟩ := Int.eq_ofNat_of_zero_le hb.1
  rw [u32_or_nat' A B (by omega) (by omega)]
  have := or_lt32 (a := A) (b := B) (by omega) (by omega)
  omega
/-- The sums of and, or, exclusive or; a bit of each. -/
theorem bits_sums {a b x y z : Int} (h : 0 ≤ a ∧ a ≤ 4294967295) (hb : 0 ≤ b ∧ b ≤ 4294967295) (hx : bits .and .u32 a b = x) (hy : bits .or .u32 a b = y) (hz : bits .xor .u32 a b = z) :
    x + y = a + b ∧ (y - x) % 4294967296 = z := by
  obtain ⟨A, rfl⟩ := Int.eq_ofNat_of_zero_le h.1
  obtain ⟨B, rfl⟩ := Int.eq_ofNat_of_zero_le hb.1
  rw [u32_and_nat' A B (by omega) (by omega)] at hx
  rw [u32_or_nat' A B (by omega) (by omega)] at hy
  rw [u32_xor_nat' A B (by omega) (by omega)] at hz
  obtain ⟨h1, h2⟩ := nat_bits 32 A B (by omega) (by omega)
  have := xor_lt32 (a := A) (b := B) (by omega) (by omega)
  omega
theorem at_bit {X : Nat} (h : X < 4294967296) (k : Nat) : bits .and .u32 ((X : Int) / 2 ^ k) 1 = ((X / 2 ^ k % 2 : Nat) : Int) := by
  rw [← cast_pow2, ← Int.natCast_ediv]
  rw [show (1 : Int) = ((1 : Nat) : Int) from rfl, u32_and_nat' (X / 2 ^ k) 1 (Nat.lt_of_le_of_lt (Nat.div_le_self _ _) h) (by decide), Nat.and_one_is_mod]
theorem bits_at {a b x y z : Int} (h : 0 ≤ a ∧ a ≤ 4294967295) (hb : 0 ≤ b ∧ b ≤ 4294967295) (hx : bits .and .u32 a b = x) (hy : bits .or .u32 a b = y) (hz : bits .xor .u32 a b = z) (k : Nat) :
    (bits .and .u32 (a / 2 ^ k) 1 = 0 ∧ bits .and .u32 (b / 2 ^ k) 1 = 0 ∧ bits .and .u32 (x / 2 ^ k) 1 = 0 ∧ bits .and .u32 (y / 2 ^ k) 1 = 0 ∧ bits .and .u32 (z / 2 ^ k) 1 = 0) ∨
    (bits .and .u32 (a / 2 ^ k) 1 = 0 ∧ bits .and .u32 (b / 2 ^ k) 1 = 1 ∧ bits .and .u32 (x / 2 ^ k) 1 = 0 ∧ bits .and .u32 (y / 2 ^ k) 1 = 1 ∧ bits .and .u32 (z / 2 ^ k) 1 = 1) ∨
    (bits .and .u32 (a / 2 ^ k) 1 = 1 ∧ bits .and .u32 (b / 2 ^ k) 1 = 0 ∧ bits .and .u32 (x / 2 ^ k) 1 = 0 ∧ bits .and .u32 (y / 2 ^ k) 1 = 1 ∧ bits .and .u32 (z / 2 ^ k) 1 = 1) ∨
    (bits .and .u32 (a / 2 ^ k) 1 = 1 ∧ bits .and .u32 (b / 2 ^ k) 1 = 1 ∧ bits .and .u32 (x / 2 ^ k) 1 = 1 ∧ bits .and .u32 (y / 2 ^ k) 1 = 1 ∧ bits .and .u32 (z / 2 ^ k) 1 = 0) := by
  obtain ⟨A, rfl⟩ := Int.eq_ofNat_of_zero_le h.1
  obtain ⟨B, rfl⟩ := Int.eq_ofNat_of_zero_le hb.1
  rw [u32_and_nat' A B (by omega) (by omega)] at hx
  rw [u32_or_nat' A B (by omega) (by omega)] at hy
  rw [u32_xor_nat' A B (by omega) (by omega)] at hz
  subst hx hy hz
  rw [at_bit (by omega), at_bit (by omega), at_bit (and_lt32 (by omega)), at_bit (or_lt32 (by omega) (by omega)), at_bit (xor_lt32 (by omega) (by omega))]
  rw [Nat.and_div_two_pow, Nat.or_div_two_pow, Nat.xor_div_two_pow, low_and, low_or, xor_mod2]
  rcases Nat.mod_two_eq_zero_or_one (A / 2 ^ k) with h1 | h1 <;> rcases Nat.mod_two_eq_zero_or_one (B / 2 ^ k) with h2 | h2
  · left; rw [h1, h2]; refine ⟨rfl, rfl, rfl, rfl, by omega⟩
  · right; left; rw [h1, h2]; refine ⟨rfl, rfl, rfl, rfl, by omega⟩
  · right; right; left; rw [h1, h2]; refine ⟨rfl, rfl, rfl, rfl, by omega⟩
  · right; right; right; rw [h1, h2]; refine ⟨rfl, rfl, rfl, rfl, by omega⟩
end Go.Proofs.YtgeeecoclhomiaaDoor
