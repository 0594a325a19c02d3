/- Shifts and turns, step by step. -/
import Derived.Test.YtgeeecoclhomiaaDoorA6
import Derived.Test.YtgeeecoclhomiaaDoorP2
namespace Go.Proofs.YtgeeecoclhomiaaDoor
open Go.RowKit
set_option linter.unusedVariables false
set_option linter.unusedSimpArgs false
set_option linter.unusedSectionVars false

/-- What a shift by k makes of a. -/
def resS (op a : Int) (k : Nat) : Int :=
  if k = 0 then a
  else if op = 21 then bits .or .u32 (a * 2 ^ k % 4294967296) (a / 2 ^ (32 - k))
  else if op = 22 then bits .or .u32 (a / 2 ^ k) (a * 2 ^ (32 - k) % 4294967296)
  else if op = 23 then a * 2 ^ k % 4294967296
  else if op = 24 then a / 2 ^ k
  else wrap32 a / 2 ^ k % 4294967296
def lastS (op : Int) (k : Nat) : Nat := if op = 21 ∨ op = 23 then 32 - k else k - 1
def clsS (op : Int) : Nat := if op = 21 ∨ op = 22 then 5 else 4
def flS (op a : Int) (k : Nat) (f : Nat → Bool) : Nat → Bool := if k = 0 then f else shG (clsS op) k a (resS op a k) (lastS op k) f
theorem or_sum (x y : Int) (k : Nat) (hk : k ≤ 31) (hx : 0 ≤ x ∧ x * 2 ^ k ≤ 4294967295) (hy : 0 ≤ y ∧ y < 2 ^ k) : bits .or .u32 (x * 2 ^ k) y = x * 2 ^ k + y := by
  obtain ⟨X, rfl⟩ := Int.eq_ofNat_of_zero_le hx.1
  obtain ⟨Y, rfl⟩ := Int.eq_ofNat_of_zero_le hy.1
  have hp := Nat.two_pow_pos k
  rw [← cast_pow2] at hx hy ⊢
  have hY : Y < 2 ^ k := by omega
  have e : ((X : Int) * ((2 ^ k : Nat) : Int)) = ((X * 2 ^ k : Nat) : Int) := by simp
  rw [e] at hx ⊢
  have hk2 : 2 ^ k ≤ 2 ^ 31 := Nat.pow_le_pow_right (by decide) hk
  rw [u32_or_nat' _ _ (by omega) (by omega)]
  have h2 : X * 2 ^ k ||| Y = X * 2 ^ k + Y := by rw [Nat.mul_comm X]; exact (Nat.two_pow_add_eq_or_of_lt hY X).symm
  rw [h2]
  omega
theorem or_swap (x y : Int) (hx : 0 ≤ x ∧ x ≤ 4294967295) (hy : 0 ≤ y ∧ y ≤ 4294967295) : bits .or .u32 x y = bits .or .u32 y x := by
  obtain ⟨X, rfl⟩ := Int.eq_ofNat_of_zero_le hx.1
  obtain ⟨Y, rfl⟩ := Int.eq_ofNat_of_zero_le hy.1
  rw [u32_or_nat' _ _ (by omega) (by omega), u32_or_nat' _ _ (by omega) (by omega), Nat.or_comm]

set_option maxHeartbeats 4000000 in
theorem rol_sum (a : Int) (h : 0 ≤ a ∧ a ≤ 4294967295) (j : Nat) (hj : 1 ≤ j ∧ j ≤ 31) : bits .or .u32 (a * 2 ^ j % 4294967296) (a / 2 ^ (32 - j)) = a * 2 ^ j % 4294967296 + a / 2 ^ (32 - j) := by
  rcases (by omega : j = 1 ∨ j = 2 ∨ j = 3 ∨ j = 4 ∨ j = 5 ∨ j = 6 ∨ j = 7 ∨ j = 8 ∨ j = 9 ∨ j = 10 ∨ j = 11 ∨ j = 12 ∨ j = 13 ∨ j = 14 ∨ j = 15 ∨ j = 16 ∨ j = 17 ∨ j = 18 ∨ j = 19 ∨ j = 20 ∨ j = 21 ∨ j = 22 ∨ j = 23 ∨ j = 24 ∨ j = 25 ∨ j = 26 ∨ j = 27 ∨ j = 28 ∨ j = 29 ∨ j = 30 ∨ j = 31) with rfl | rfl | rfl | rfl | rfl | rfl | rfl | rfl | rfl | rfl | rfl | rfl | rfl | rfl | rfl | rfl | rfl | rfl | rfl | rfl | rfl | rfl | rfl | rfl | rfl | rfl | rfl | rfl | rfl | rfl | rfl
  · have e : a * 2 ^ 1 % 4294967296 = (a % 2147483648) * 2 ^ 1 := by rw [show ((2 : Int) ^ 1) = 2 from rfl]; omega
    rw [e]
    exact or_sum _ _ 1 (by decide) (by rw [show ((2 : Int) ^ 1) = 2 from rfl]; omega) (by (try rw [show ((2 : Int) ^ (32 - 1)) = 2147483648 from rfl]); (try rw [show ((2 : Int) ^ 1) = 2 from rfl]); omega)
  · have e : a * 2 ^ 2 % 4294967296 = (a % 1073741824) * 2 ^ 2 := by rw [show ((2 : Int) ^ 2) = 4 from rfl]; omega
    rw [e]
    exact or_sum _ _ 2 (by decide) (by rw [show ((2 : Int) ^ 2) = 4 from rfl]; omega) (by (try rw [show ((2 : Int) ^ (32 - 2)) = 1073741824 from rfl]); (try rw [show ((2 : Int) ^ 2) = 4 from rfl]); omega)
  · have e : a * 2 ^ 3 % 4294967296 = (a % 536870912) * 2 ^ 3 := by rw [show ((2 : Int) ^ 3) = 8 from rfl]; omega
    rw [e]
    exact or_sum _ _ 3 (by decide) (by rw [show ((2 : Int) ^ 3) = 8 from rfl]; omega) (by (try rw [show ((2 : Int) ^ (32 - 3)) = 536870912 from rfl]); (try rw [show ((2 : Int) ^ 3) = 8 from rfl]); omega)
  · have e : a * 2 ^ 4 % 4294967296 = (a % 268435456) * 2 ^ 4 := by rw [show ((2 : Int) ^ 4) = 16 from rfl]; omega
    rw [e]
    exact or_sum _ _ 4 (by decide) (by rw [show ((2 : Int) ^ 4) = 16 from rfl]; omega) (by (try rw [show ((2 : Int) ^ (32 - 4)) = 268435456 from rfl]); (try rw [show ((2 : Int) ^ 4) = 16 from rfl]); omega)
  · have e : a * 2 ^ 5 % 4294967296 = (a % 134217728) * 2 ^ 5 := by rw [show ((2 : Int) ^ 5) = 32 from rfl]; omega
    rw [e]
    exact or_sum _ _ 5 (by decide) (by rw [show ((2 : Int) ^ 5) = 32 from rfl]; omega) (by (try rw [show ((2 : Int) ^ (32 - 5)) = 134217728 from rfl]); (try rw [show ((2 : Int) ^ 5) = 32 from rfl]); omega)
  · have e : a * 2 ^ 6 % 4294967296 = (a % 67108864) * 2 ^ 6 := by rw [show ((2 : Int) ^ 6) = 64 from rfl]; omega
    rw [e]
    exact or_sum _ _ 6 (by decide) (by rw [show ((2 : Int) ^ 6) = 64 from rfl]; omega) (by (try rw [show ((2 : Int) ^ (32 - 6)) = 67108864 from rfl]); (try rw [show ((2 : Int) ^ 6) = 64 from rfl]); omega)
  · have e : a * 2 ^ 7 % 4294967296 = (a % 33554432) * 2 ^ 7 := by rw [show ((2 : Int) ^ 7) = 128 from rfl]; omega
    rw [e]
    exact or_sum _ _ 7 (by decide) (by rw [show ((2 : Int) ^ 7) = 128 from rfl]; omega) (by (try rw [show ((2 : Int) ^ (32 - 7)) = 33554432 from rfl]); (try rw [show ((2 : Int) ^ 7) = 128 from rfl]); omega)
  · have e : a * 2 ^ 8 % 4294967296 = (a % 16777216) * 2 ^ 8 := by rw [show ((2 : Int) ^ 8) = 256 from rfl]; omega
    rw [e]
    exact or_sum _ _ 8 (by decide) (by rw [show ((2 : Int) ^ 8) = 256 from rfl]; omega) (by (try rw [show ((2 : Int) ^ (32 - 8)) = 16777216 from rfl]); (try rw [show ((2 : Int) ^ 8) = 256 from rfl]); omega)
  · have e : a * 2 ^ 9 % 4294967296 = (a % 8388608) * 2 ^ 9 := by rw [show ((2 : Int) ^ 9) = 512 from rfl]; omega
    rw [e]
    exact or_sum _ _ 9 (by decide) (by rw [show ((2 : Int) ^ 9) = 512 from rfl]; omega) (by (try rw [show ((2 : Int) ^ (32 - 9)) = 8388608 from rfl]); (try rw [show ((2 : Int) ^ 9) = 512 from rfl]); omega)
  · have e : a * 2 ^ 10 % 4294967296 = (a % 4194304) * 2 ^ 10 := by rw [show ((2 : Int) ^ 10) = 1024 from rfl]; omega
    rw [e]
    exact or_sum _ _ 10 (by decide) (by rw [show ((2 : Int) ^ 10) = 1024 from rfl]; omega) (by (try rw [show ((2 : Int) ^ (32 - 10)) = 4194304 from rfl]); (try rw [show ((2 : Int) ^ 10) = 1024 from rfl]); omega)
  · have e : a * 2 ^ 11 % 4294967296 = (a % 2097152) * 2 ^ 11 := by rw [show ((2 : Int) ^ 11) = 2048 from rfl]; omega
    rw [e]
    exact or_sum _ _ 11 (by decide) (by rw [show ((2 : Int) ^ 11) = 2048 from rfl]; omega) (by (try rw [show ((2 : Int) ^ (32 - 11)) = 2097152 from rfl]); (try rw [show ((2 : Int) ^ 11) = 2048 from rfl]); omega)
  · have e : a * 2 ^ 12 % 4294967296 = (a % 1048576) * 2 ^ 12 := by rw [show ((2 : Int) ^ 12) = 4096 from rfl]; omega
    rw [e]
    exact or_sum _ _ 12 (by decide) (by rw [show ((2 : Int) ^ 12) = 4096 from rfl]; omega) (by (try rw [show ((2 : Int) ^ (32 - 12)) = 1048576 from rfl]); (try rw [show ((2 : Int) ^ 12) = 4096 from rfl]); omega)
  · have e : a * 2 ^ 13 % 4294967296 = (a % 524288) * 2 ^ 13 := by rw [show ((2 : Int) ^ 13) = 8192 from rfl]; omega
    rw [e]
    exact or_sum _ _ 13 (by decide) (by rw [show ((2 : Int) ^ 13) = 8192 from rfl]; omega) (by (try rw [show ((2 : Int) ^ (32 - 13)) = 524288 from rfl]); (try rw [show ((2 : Int) ^ 13) = 8192 from rfl]); omega)
  · have e : a * 2 ^ 14 % 4294967296 = (a % 262144) * 2 ^ 14 := by rw [show ((2 : Int) ^ 14) = 16384 from rfl]; omega
    rw [e]
    exact or_sum _ _ 14 (by decide) (by rw [show ((2 : Int) ^ 14) = 16384 from rfl]; omega) (by (try rw [show ((2 : Int) ^ (32 - 14)) = 262144 from rfl]); (try rw [show ((2 : Int) ^ 14) = 16384 from rfl]); omega)
  · have e : a * 2 ^ 15 % 4294967296 = (a % 131072) * 2 ^ 15 := by rw [show ((2 : Int) ^ 15) = 32768 from rfl]; omega
    rw [e]
    exact or_sum _ _ 15 (by decide) (by rw [show ((2 : Int) ^ 15) = 32768 from rfl]; omega) (by (try rw [show ((2 : Int) ^ (32 - 15)) = 131072 from rfl]); (try rw [show ((2 : Int) ^ 15) = 32768 from rfl]); omega)
  · have e : a * 2 ^ 16 % 4294967296 = (a % 65536) * 2 ^ 16 := by rw [show ((2 : Int) ^ 16) = 65536 from rfl]; omega
    rw [e]
    exact or_sum _ _ 16 (by decide) (by rw [show ((2 : Int) ^ 16) = 65536 from rfl]; omega) (by (try rw [show ((2 : Int) ^ (32 - 16)) = 65536 from rfl]); (try rw [show ((2 : Int) ^ 16) = 65536 from rfl]); omega)
  · have e : a * 2 ^ 17 % 4294967296 = (a % 32768) * 2 ^ 17 := by rw [show ((2 : Int) ^ 17) = 131072 from rfl]; omega
    rw [e]
    exact or_sum _ _ 17 (by decide) (by rw [show ((2 : Int) ^ 17) = 131072 from rfl]; omega) (by (try rw [show ((2 : Int) ^ (32 - 17)) = 32768 from rfl]); (try rw [show ((2 : Int) ^ 17) = 131072 from rfl]); omega)
  · have e : a * 2 ^ 18 % 4294967296 = (a % 16384) * 2 ^ 18 := by rw [show ((2 : Int) ^ 18) = 262144 from rfl]; omega
    rw [e]
    exact or_sum _ _ 18 (by decide) (by rw [show ((2 : Int) ^ 18) = 262144 from rfl]; omega) (by (try rw [show ((2 : Int) ^ (32 - 18)) = 16384 from rfl]); (try rw [show ((2 : Int) ^ 18) = 262144 from rfl]); omega)
  · have e : a * 2 ^ 19 % 4294967296 = (a % 8192) * 2 ^ 19 := by rw [show ((2 : Int) ^ 19) = 524288 from rfl]; omega
    rw [e]
    exact or_sum _ _ 19 (by decide) (by rw [show ((2 : Int) ^ 19) = 524288 from rfl]; omega) (by (try rw [show ((2 : Int) ^ (32 - 19)) = 8192 from rfl]); (try rw [show ((2 : Int) ^ 19) = 524288 from rfl]); omega)
  · have e : a * 2 ^ 20 % 4294967296 = (a % 4096) * 2 ^ 20 := by rw [show ((2 : Int) ^ 20) = 1048576 from rfl]; omega
    rw [e]
    exact or_sum _ _ 20 (by decide) (by rw [show ((2 : Int) ^ 20) = 1048576 from rfl]; omega) (by (try rw [show ((2 : Int) ^ (32 - 20)) = 4096 from rfl]); (try rw [show ((2 : Int) ^ 20) = 1048576 from rfl]); omega)
  · have e : a * 2 ^ 21 % 4294967296 = (a % 2048) * 2 ^ 21 := by rw [show ((2 : Int) ^ 21) = 2097152 from rfl]; omega
    rw [e]
    exact or_sum _ _ 21 (by decide) (by rw [show ((2 : Int) ^ 21) = 2097152 from rfl]; omega) (by (try rw [show ((2 : Int) ^ (32 - 21)) = 2048 from rfl]); (try rw [show ((2 : Int) ^ 21) = 2097152 from rfl]); omega)
  · have e : a * 2 ^ 22 % 4294967296 = (a % 1024) * 2 ^ 22 := by rw [show ((2 : Int) ^ 22) = 4194304 from rfl]; omega
    rw [e]
    exact or_sum _ _ 22 (by decide) (by rw [show ((2 : Int) ^ 22) = 4194304 from rfl]; omega) (by (try rw [show ((2 : Int) ^ (32 - 22)) = 1024 from rfl]); (try rw [show ((2 : Int) ^ 22) = 4194304 from rfl]); omega)
  · have e : a * 2 ^ 23 % 4294967296 = (a % 512) * 2 ^ 23 := by rw [show ((2 : Int) ^ 23) = 8388608 from rfl]; omega
    rw [e]
    exact or_sum _ _ 23 (by decide) (by rw [show ((2 : Int) ^ 23) = 8388608 from rfl]; omega) (by (try rw [show ((2 : Int) ^ (32 - 23)) = 512 from rfl]); (try rw [show ((2 : Int) ^ 23) = 8388608 from rfl]); omega)
  · have e : a * 2 ^ 24 % 4294967296 = (a % 256) * 2 ^ 24 := by rw [show ((2 : Int) ^ 24) = 16777216 from rfl]; omega
    rw [e]
    exact or_sum _ _ 24 (by decide) (by rw [show ((2 : Int) ^ 24) = 16777216 from rfl]; omega) (by (try rw [show ((2 : Int) ^ (32 - 24)) = 256 from rfl]); (try rw [show ((2 : Int) ^ 24) = 16777216 from rfl]); omega)
  · have e : a * 2 ^ 25 % 4294967296 = (a % 128) * 2 ^ 25 := by rw [show ((2 : Int) ^ 25) = 33554432 from rfl]; omega
    rw [e]
    exact or_sum _ _ 25 (by decide) (by rw [show ((2 : Int) ^ 25) = 33554432 from rfl]; omega) (by (try rw [show ((2 : Int) ^ (32 - 25)) = 128 from rfl]); (try rw [show ((2 : Int) ^ 25) = 33554432 from rfl]); omega)
  · have e : a * 2 ^ 26 % 4294967296 = (a % 64) * 2 ^ 26 := by rw [show ((2 : Int) ^ 26) = 67108864 from rfl]; omega
    rw [e]
    exact or_sum _ _ 26 (by decide) (by rw [show ((2 : Int) ^ 26) = 67108864 from rfl]; omega) (by (try rw [show ((2 : Int) ^ (32 - 26)) = 64 from rfl]); (try rw [show ((2 : Int) ^ 26) = 67108864 from rfl]); omega)
  · have e : a * 2 ^ 27 % 4294967296 = (a % 32) * 2 ^ 27 := by rw [show ((2 : Int) ^ 27) = 134217728 from rfl]; omega
    rw [e]
    exact or_sum _ _ 27 (by decide) (by rw [show ((2 : Int) ^ 27) = 134217728 from rfl]; omega) (by (try rw [show ((2 : Int) ^ (32 - 27)) = 32 from rfl]); (try rw [show ((2 : Int) ^ 27) = 134217728 from rfl]); omega)
  · have e : a * 2 ^ 28 % 4294967296 = (a % 16) * 2 ^ 28 := by rw [show ((2 : Int) ^ 28) = 268435456 from rfl]; omega
    rw [e]
    exact or_sum _ _ 28 (by decide) (by rw [show ((2 : Int) ^ 28) = 268435456 from rfl]; omega) (by (try rw [show ((2 : Int) ^ (32 - 28)) = 16 from rfl]); (try rw [show ((2 : Int) ^ 28) = 268435456 from rfl]); omega)
  · have e : a * 2 ^ 29 % 4294967296 = (a % 8) * 2 ^ 29 := by rw [show ((2 : Int) ^ 29) = 536870912 from rfl]; omega
    rw [e]
    exact or_sum _ _ 29 (by decide) (by rw [show ((2 : Int) ^ 29) = 536870912 from rfl]; omega) (by (try rw [show ((2 : Int) ^ (32 - 29)) = 8 from rfl]); (try rw [show ((2 : Int) ^ 29) = 536870912 from rfl]); omega)
  · have e : a * 2 ^ 30 % 4294967296 = (a % 4) * 2 ^ 30 := by rw [show ((2 : Int) ^ 30) = 1073741824 from rfl]; omega
    rw [e]
    exact or_sum _ _ 30 (by decide) (by rw [show ((2 : Int) ^ 30) = 1073741824 from rfl]; omega) (by (try rw [show ((2 : Int) ^ (32 - 30)) = 4 from rfl]); (try rw [show ((2 : Int) ^ 30) = 1073741824 from rfl]); omega)
  · have e : a * 2 ^ 31 % 4294967296 = (a % 2) * 2 ^ 31 := by rw [show ((2 : Int) ^ 31) = 2147483648 from rfl]; omega
    rw [e]
    exact or_sum _ _ 31 (by decide) (by rw [show ((2 : Int) ^ 31) = 2147483648 from rfl]; omega) (by (try rw [show ((2 : Int) ^ (32 - 31)) = 2 from rfl]); (try rw [show ((2 : Int) ^ 31) = 2147483648 from rfl]); omega)
theorem ror_rol (a : Int) (h : 0 ≤ a ∧ a ≤ 4294967295) (j : Nat) (hj : 1 ≤ j ∧ j ≤ 31) : bits .or .u32 (a / 2 ^ j) (a * 2 ^ (32 - j) % 4294967296) = a * 2 ^ (32 - j) % 4294967296 + a / 2 ^ j := by
  have := rol_sum a h (32 - j) (by omega)
  rw [show 32 - (32 - j) = j by omega] at this
  rw [or_swap _ _ (div_pow_bd j h) (by omega)]
  exact this

set_option maxHeartbeats 4000000 in
theorem rol_step (a : Int) (h : 0 ≤ a ∧ a ≤ 4294967295) (j : Nat) (hj : 1 ≤ j ∧ j ≤ 30) :
    (a * 2 ^ j % 4294967296 + a / 2 ^ (32 - j)) * 2 % 4294967296 + (a * 2 ^ j % 4294967296 + a / 2 ^ (32 - j)) / 2147483648 = a * 2 ^ (j + 1) % 4294967296 + a / 2 ^ (32 - (j + 1)) := by
  rcases (by omega : j = 1 ∨ j = 2 ∨ j = 3 ∨ j = 4 ∨ j = 5 ∨ j = 6 ∨ j = 7 ∨ j = 8 ∨ j = 9 ∨ j = 10 ∨ j = 11 ∨ j = 12 ∨ j = 13 ∨ j = 14 ∨ j = 15 ∨ j = 16 ∨ j = 17 ∨ j = 18 ∨ j = 19 ∨ j = 20 ∨ j = 21 ∨ j = 22 ∨ j = 23 ∨ j = 24 ∨ j = 25 ∨ j = 26 ∨ j = 27 ∨ j = 28 ∨ j = 29 ∨ j = 30) with rfl | rfl | rfl | rfl | rfl | rfl | rfl | rfl | rfl | rfl | rfl | rfl | rfl | rfl | rfl | rfl | rfl | rfl | rfl | rfl | rfl | rfl | rfl | rfl | rfl | rfl | rfl | rfl | rfl | rfl
  · (try rw [show ((2 : Int) ^ (1)) = 2 from rfl]); (try rw [show ((2 : Int) ^ (32 - 1)) = 2147483648 from rfl]); (try rw [show ((2 : Int) ^ (1 + 1)) = 4 from rfl]); (try rw [show ((2 : Int) ^ (32 - (1 + 1))) = 1073741824 from rfl])
    obtain ⟨u, c, l, ha, b1, b2, b3⟩ : ∃ u c l : Int, a = u * 2147483648 + c * 1073741824 + l ∧ (0 ≤ u ∧ u < 2) ∧ (0 ≤ c ∧ c ≤ 1) ∧ (0 ≤ l ∧ l < 1073741824) := ⟨a / 2147483648, a / 1073741824 % 2, a % 1073741824, by omega, by omega, by omega, by omega⟩
    have e1 : a * 2 % 4294967296 = c * 2147483648 + l * 2 := by omega
    have e2 : a / 2147483648 = u := by omega
    have e3 : a / 1073741824 = 2 * u + c := by omega
    have e4 : a * 4 % 4294967296 = l * 4 := by omega
    rw [e1, e2, e3, e4]
    clear e1 e2 e3 e4 ha
    omega
  · (try rw [show ((2 : Int) ^ (2)) = 4 from rfl]); (try rw [show ((2 : Int) ^ (32 - 2)) = 1073741824 from rfl]); (try rw [show ((2 : Int) ^ (2 + 1)) = 8 from rfl]); (try rw [show ((2 : Int) ^ (32 - (2 + 1))) = 536870912 from rfl])
    obtain ⟨u, c, l, ha, b1, b2, b3⟩ : ∃ u c l : Int, a = u * 1073741824 + c * 536870912 + l ∧ (0 ≤ u ∧ u < 4) ∧ (0 ≤ c ∧ c ≤ 1) ∧ (0 ≤ l ∧ l < 536870912) := ⟨a / 1073741824, a / 536870912 % 2, a % 536870912, by omega, by omega, by omega, by omega⟩
    have e1 : a * 4 % 4294967296 = c * 2147483648 + l * 4 := by omega
    have e2 : a / 1073741824 = u := by omega
    have e3 : a / 536870912 = 2 * u + c := by omega
    have e4 : a * 8 % 4294967296 = l * 8 := by omega
    rw [e1, e2, e3, e4]
    clear e1 e2 e3 e4 ha
    omega
  · (try rw [show ((2 : Int) ^ (3)) = 8 from rfl]); (try rw [show ((2 : Int) ^ (32 - 3)) = 536870912 from rfl]); (try rw [show ((2 : Int) ^ (3 + 1)) = 16 from rfl]); (try rw [show ((2 : Int) ^ (32 - (3 + 1))) = 268435456 from rfl])
    obtain ⟨u, c, l, ha, b1, b2, b3⟩ : ∃ u c l : Int, a = u * 536870912 + c * 268435456 + l ∧ (0 ≤ u ∧ u < 8) ∧ (0 ≤ c ∧ c ≤ 1) ∧ (0 ≤ l ∧ l < 268435456) := ⟨a / 536870912, a / 268435456 % 2, a % 268435456, by omega, by omega, by omega, by omega⟩
    have e1 : a * 8 % 4294967296 = c * 2147483648 + l * 8 := by omega
    have e2 : a / 536870912 = u := by omega
    have e3 : a / 268435456 = 2 * u + c := by omega
    have e4 : a * 16 % 4294967296 = l * 16 := by omega
    rw [e1, e2, e3, e4]
    clear e1 e2 e3 e4 ha
    omega
  · (try rw [show ((2 : Int) ^ (4)) = 16 from rfl]); (try rw [show ((2 : Int) ^ (32 - 4)) = 268435456 from rfl]); (try rw [show ((2 : Int) ^ (4 + 1)) = 32 from rfl]); (try rw [show ((2 : Int) ^ (32 - (4 + 1))) = 134217728 from rfl])
    obtain ⟨u, c, l, ha, b1, b2, b3⟩ : ∃ u c l : Int, a = u * 268435456 + c * 134217728 + l ∧ (0 ≤ u ∧ u < 16) ∧ (0 ≤ c ∧ c ≤ 1) ∧ (0 ≤ l ∧ l < 134217728) := ⟨a / 268435456, a / 134217728 % 2, a % 134217728, by omega, by omega, by omega, by omega⟩
    have e1 : a * 16 % 4294967296 = c * 2147483648 + l * 16 := by omega
    have e2 : a / 268435456 = u := by omega
    have e3 : a / 134217728 = 2 * u + c := by omega
    have e4 : a * 32 % 4294967296 = l * 32 := by omega
    rw [e1, e2, e3, e4]
    clear e1 e2 e3 e4 ha
    omega
  · (try rw [show ((2 : Int) ^ (5)) = 32 from rfl]); (try rw [show ((2 : Int) ^ (32 - 5)) = 134217728 from rfl]); (try rw [show ((2 : Int) ^ (5 + 1)) = 64 from rfl]); (try rw [show ((2 : Int) ^ (32 - (5 + 1))) = 67108864 from rfl])
    obtain ⟨u, c, l, ha, b1, b2, b3⟩ : ∃ u c l : Int, a = u * 134217728 + c * 67108864 + l ∧ (0 ≤ u ∧ u < 32) ∧ (0 ≤ c ∧ c ≤ 1) ∧ (0 ≤ l ∧ l < 67108864) := ⟨a / 134217728, a / 67108864 % 2, a % 67108864, by omega, by omega, by omega, by omega⟩
    have e1 : a * 32 % 4294967296 = c * 2147483648 + l * 32 := by omega
    have e2 : a / 134217728 = u := by omega
    have e3 : a / 67108864 = 2 * u + c := by omega
    have e4 : a * 64 % 4294967296 = l * 64 := by omega
    rw [e1, e2, e3, e4]
    clear e1 e2 e3 e4 ha
    omega
  · (try rw [show ((2 : Int) ^ (6)) = 64 from rfl]); (try rw [show ((2 : Int) ^ (32 - 6)) = 67108864 from rfl]); (try rw [show ((2 : Int) ^ (6 + 1)) = 128 from rfl]); (try rw [show ((2 : Int) ^ (32 - (6 + 1))) = 33554432 from rfl])
    obtain ⟨u, c, l, ha, b1, b2, b3⟩ : ∃ u c l : Int, a = u * 67108864 + c * 33554432 + l ∧ (0 ≤ u ∧ u < 64) ∧ (0 ≤ c ∧ c ≤ 1) ∧ (0 ≤ l ∧ l < 33554432) := ⟨a / 67108864, a / 33554432 % 2, a % 33554432, by omega, by omega, by omega, by omega⟩
    have e1 : a * 64 % 4294967296 = c * 2147483648 + l * 64 := by omega
    have e2 : a / 67108864 = u := by omega
    have e3 : a / 33554432 = 2 * u + c := by omega
    have e4 : a * 128 % 4294967296 = l * 128 := by omega
    rw [e1, e2, e3, e4]
    clear e1 e2 e3 e4 ha
    omega
  · (try rw [show ((2 : Int) ^ (7)) = 128 from rfl]); (try rw [show ((2 : Int) ^ (32 - 7)) = 33554432 from rfl]); (try rw [show ((2 : Int) ^ (7 + 1)) = 256 from rfl]); (try rw [show ((2 : Int) ^ (32 - (7 + 1))) = 16777216 from rfl])
    obtain ⟨u, c, l, ha, b1, b2, b3⟩ : ∃ u c l : Int, a = u * 33554432 + c * 16777216 + l ∧ (0 ≤ u ∧ u < 128) ∧ (0 ≤ c ∧ c ≤ 1) ∧ (0 ≤ l ∧ l < 16777216) := ⟨a / 33554432, a / 16777216 % 2, a % 16777216, by omega, by omega, by omega, by omega⟩
    have e1 : a * 128 % 4294967296 = c * 2147483648 + l * 128 := by omega
    have e2 : a / 33554432 = u := by omega
    have e3 : a / 16777216 = 2 * u + c := by omega
    have e4 : a * 256 % 4294967296 = l * 256 := by omega
    rw [e1, e2, e3, e4]
    clear e1 e2 e3 e4 ha
    omega
  · (try rw [show ((2 : Int) ^ (8)) = 256 from rfl]); (try rw [show ((2 : Int) ^ (32 - 8)) = 16777216 from rfl]); (try rw [show ((2 : Int) ^ (8 + 1)) = 512 from rfl]); (try rw [show ((2 : Int) ^ (32 - (8 + 1))) = 8388608 from rfl])
    obtain ⟨u, c, l, ha, b1, b2, b3⟩ : ∃ u c l : Int, a = u * 16777216 + c * 8388608 + l ∧ (0 ≤ u ∧ u < 256) ∧ (0 ≤ c ∧ c ≤ 1) ∧ (0 ≤ l ∧ l < 8388608) := ⟨a / 16777216, a / 8388608 % 2, a % 8388608, by omega, by omega, by omega, by omega⟩
    have e1 : a * 256 % 4294967296 = c * 2147483648 + l * 256 := by omega
    have e2 : a / 16777216 = u := by omega
    have e3 : a / 8388608 = 2 * u + c := by omega
    have e4 : a * 512 % 4294967296 = l * 512 := by omega
    rw [e1, e2, e3, e4]
    clear e1 e2 e3 e4 ha
    omega
  · (try rw [show ((2 : Int) ^ (9)) = 512 from rfl]); (try rw [show ((2 : Int) ^ (32 - 9)) = 8388608 from rfl]); (try rw [show ((2 : Int) ^ (9 + 1)) = 1024 from rfl]); (try rw [show ((2 : Int) ^ (32 - (9 + 1))) = 4194304 from rfl])
    obtain ⟨u, c, l, ha, b1, b2, b3⟩ : ∃ u c l : Int, a = u * 8388608 + c * 4194304 + l ∧ (0 ≤ u ∧ u < 512) ∧ (0 ≤ c ∧ c ≤ 1) ∧ (0 ≤ l ∧ l < 4194304) := ⟨a / 8388608, a / 4194304 % 2, a % 4194304, by omega, by omega, by omega, by omega⟩
    have e1 : a * 512 % 4294967296 = c * 2147483648 + l * 512 := by omega
    have e2 : a / 8388608 = u := by omega
    have e3 : a / 4194304 = 2 * u + c := by omega
    have e4 : a * 1024 % 4294967296 = l * 1024 := by omega
    rw [e1, e2, e3, e4]
    clear e1 e2 e3 e4 ha
    omega
  · (try rw [show ((2 : Int) ^ (10)) = 1024 from rfl]); (try rw [show ((2 : Int) ^ (32 - 10)) = 4194304 from rfl]); (try rw [show ((2 : Int) ^ (10 + 1)) = 2048 from rfl]); (try rw [show ((2 : Int) ^ (32 - (10 + 1))) = 2097152 from rfl])
    obtain ⟨u, c, l, ha, b1, b2, b3⟩ : ∃ u c l : Int, a = u * 4194304 + c * 2097152 + l ∧ (0 ≤ u ∧ u < 1024) ∧ (0 ≤ c ∧ c ≤ 1) ∧ (0 ≤ l ∧ l < 2097152) := ⟨a / 4194304, a / 2097152 % 2, a % 2097152, by omega, by omega, by omega, by omega⟩
    have e1 : a * 1024 % 4294967296 = c * 2147483648 + l * 1024 := by omega
    have e2 : a / 4194304 = u := by omega
    have e3 : a / 2097152 = 2 * u + c := by omega
    have e4 : a * 2048 % 4294967296 = l * 2048 := by omega
    rw [e1, e2, e3, e4]
    clear e1 e2 e3 e4 ha
    omega
  · (try rw [show ((2 : Int) ^ (11)) = 2048 from rfl]); (try rw [show ((2 : Int) ^ (32 - 11)) = 2097152 from rfl]); (try rw [show ((2 : Int) ^ (11 + 1)) = 4096 from rfl]); (try rw [show ((2 : Int) ^ (32 - (11 + 1))) = 1048576 from rfl])
    obtain ⟨u, c, l, ha, b1, b2, b3⟩ : ∃ u c l : Int, a = u * 2097152 + c * 1048576 + l ∧ (0 ≤ u ∧ u < 2048) ∧ (0 ≤ c ∧ c ≤ 1) ∧ (0 ≤ l ∧ l < 1048576) := ⟨a / 2097152, a / 1048576 % 2, a % 1048576, by omega, by omega, by omega, by omega⟩
    have e1 : a * 2048 % 4294967296 = c * 2147483648 + l * 2048 := by omega
    have e2 : a / 2097152 = u := by omega
    have e3 : a / 1048576 = 2 * u + c := by omega
    have e4 : a * 4096 % 4294967296 = l * 4096 := by omega
    rw [e1, e2, e3, e4]
    clear e1 e2 e3 e4 ha
    omega
  · (try rw [show ((2 : Int) ^ (12)) = 4096 from rfl]); (try rw [show ((2 : Int) ^ (32 - 12)) = 1048576 from rfl]); (try rw [show ((2 : Int) ^ (12 + 1)) = 8192 from rfl]); (try rw [show ((2 : Int) ^ (32 - (12 + 1))) = 524288 from rfl])
    obtain ⟨u, c, l, ha, b1, b2, b3⟩ : ∃ u c l : Int, a = u * 1048576 + c * 524288 + l ∧ (0 ≤ u ∧ u < 4096) ∧ (0 ≤ c ∧ c ≤ 1) ∧ (0 ≤ l ∧ l < 524288) := ⟨a / 1048576, a / 524288 % 2, a % 524288, by omega, by omega, by omega, by omega⟩
    have e1 : a * 4096 % 4294967296 = c * 2147483648 + l * 4096 := by omega
    have e2 : a / 1048576 = u := by omega
    have e3 : a / 524288 = 2 * u + c := by omega
    have e4 : a * 8192 % 4294967296 = l * 8192 := by omega
    rw [e1, e2, e3, e4]
    clear e1 e2 e3 e4 ha
    omega
  · (try rw [show ((2 : Int) ^ (13)) = 8192 from rfl]); (try rw [show ((2 : Int) ^ (32 - 13)) = 524288 from rfl]); (try rw [show ((2 : Int) ^ (13 + 1)) = 16384 from rfl]); (try rw [show ((2 : Int) ^ (32 - (13 + 1))) = 262144 from rfl])
    obtain ⟨u, c, l, ha, b1, b2, b3⟩ : ∃ u c l : Int, a = u * 524288 + c * 262144 + l ∧ (0 ≤ u ∧ u < 8192) ∧ (0 ≤ c ∧ c ≤ 1) ∧ (0 ≤ l ∧ l < 262144) := ⟨a / 524288, a / 262144 % 2, a % 262144, by omega, by omega, by omega, by omega⟩
    have e1 : a * 8192 % 4294967296 = c * 2147483648 + l * 8192 := by omega
    have e2 : a / 524288 = u := by omega
    have e3 : a / 262144 = 2 * u + c := by omega
    have e4 : a * 16384 % 4294967296 = l * 16384 := by omega
    rw [e1, e2, e3, e4]
    clear e1 e2 e3 e4 ha
    omega
  · (try rw [show ((2 : Int) ^ (14)) = 16384 from rfl]); (try rw [show ((2 : Int) ^ (32 - 14)) = 262144 from rfl]); (try rw [show ((2 : Int) ^ (14 + 1)) = 32768 from rfl]); (try rw [show ((2 : Int) ^ (32 - (14 + 1))) = 131072 from rfl])
    obtain ⟨u, c, l, ha, b1, b2, b3⟩ : ∃ u c l : Int, a = u * 262144 + c * 131072 + l ∧ (0 ≤ u ∧ u < 16384) ∧ (0 ≤ c ∧ c ≤ 1) ∧ (0 ≤ l ∧ l < 131072) := ⟨a / 262144, a / 131072 % 2, a % 131072, by omega, by omega, by omega, by omega⟩
    have e1 : a * 16384 % 4294967296 = c * 2147483648 + l * 16384 := by omega
    have e2 : a / 262144 = u := by omega
    have e3 : a / 131072 = 2 * u + c := by omega
    have e4 : a * 32768 % 4294967296 = l * 32768 := by omega
    rw [e1, e2, e3, e4]
    clear e1 e2 e3 e4 ha
    omega
  · (try rw [show ((2 : Int) ^ (15)) = 32768 from rfl]); (try rw [show ((2 : Int) ^ (32 - 15)) = 131072 from rfl]); (try rw [show ((2 : Int) ^ (15 + 1)) = 65536 from rfl]); (try rw [show ((2 : Int) ^ (32 - (15 + 1))) = 65536 from rfl])
    obtain ⟨u, c, l, ha, b1, b2, b3⟩ : ∃ u c l : Int, a = u * 131072 + c * 65536 + l ∧ (0 ≤ u ∧ u < 32768) ∧ (0 ≤ c ∧ c ≤ 1) ∧ (0 ≤ l ∧ l < 65536) := ⟨a / 131072, a / 65536 % 2, a % 65536, by omega, by omega, by omega, by omega⟩
    have e1 : a * 32768 % 4294967296 = c * 2147483648 + l * 32768 := by omega
    have e2 : a / 131072 = u := by omega
    have e3 : a / 65536 = 2 * u + c := by omega
    have e4 : a * 65536 % 4294967296 = l * 65536 := by omega
    rw [e1, e2, e3, e4]
    clear e1 e2 e3 e4 ha
    omega
  · (try rw [show ((2 : Int) ^ (16)) = 65536 from rfl]); (try rw [show ((2 : Int) ^ (32 - 16)) = 65536 from rfl]); (try rw [show ((2 : Int) ^ (16 + 1)) = 131072 from rfl]); (try rw [show ((2 : Int) ^ (32 - (16 + 1))) = 32768 from rfl])
    obtain ⟨u, c, l, ha, b1, b2, b3⟩ : ∃ u c l : Int, a = u * 65536 + c * 32768 + l ∧ (0 ≤ u ∧ u < 65536) ∧ (0 ≤ c ∧ c ≤ 1) ∧ (0 ≤ l ∧ l < 32768) := ⟨a / 65536, a / 32768 % 2, a % 32768, by omega, by omega, by omega, by omega⟩
    have e1 : a * 65536 % 4294967296 = c * 2147483648 + l * 65536 := by omega
    have e2 : a / 65536 = u := by omega
    have e3 : a / 32768 = 2 * u + c := by omega
    have e4 : a * 131072 % 4294967296 = l * 131072 := by omega
    rw [e1, e2, e3, e4]
    clear e1 e2 e3 e4 ha
    omega
  · (try rw [show ((2 : Int) ^ (17)) = 131072 from rfl]); (try rw [show ((2 : Int) ^ (32 - 17)) = 32768 from rfl]); (try rw [show ((2 : Int) ^ (17 + 1)) = 262144 from rfl]); (try rw [show ((2 : Int) ^ (32 - (17 + 1))) = 16384 from rfl])
    obtain ⟨u, c, l, ha, b1, b2, b3⟩ : ∃ u c l : Int, a = u * 32768 + c * 16384 + l ∧ (0 ≤ u ∧ u < 131072) ∧ (0 ≤ c ∧ c ≤ 1) ∧ (0 ≤ l ∧ l < 16384) := ⟨a / 32768, a / 16384 % 2, a % 16384, by omega, by omega, by omega, by omega⟩
    have e1 : a * 131072 % 4294967296 = c * 2147483648 + l * 131072 := by omega
    have e2 : a / 32768 = u := by omega
    have e3 : a / 16384 = 2 * u + c := by omega
    have e4 : a * 262144 % 4294967296 = l * 262144 := by omega
    rw [e1, e2, e3, e4]
    clear e1 e2 e3 e4 ha
    omega
  · (try rw [show ((2 : Int) ^ (18)) = 262144 from rfl]); (try rw [show ((2 : Int) ^ (32 - 18)) = 16384 from rfl]); (try rw [show ((2 : Int) ^ (18 + 1)) = 524288 from rfl]); (try rw [show ((2 : Int) ^ (32 - (18 + 1))) = 8192 from rfl])
    obtain ⟨u, c, l, ha, b1, b2, b3⟩ : ∃ u c l : Int, a = u * 16384 + c * 8192 + l ∧ (0 ≤ u ∧ u < 262144) ∧ (0 ≤ c ∧ c ≤ 1) ∧ (0 ≤ l ∧ l < 8192) := ⟨a / 16384, a / 8192 % 2, a % 8192, by omega, by omega, by omega, by omega⟩
    have e1 : a * 262144 % 4294967296 = c * 2147483648 + l * 262144 := by omega
    have e2 : a / 16384 = u := by omega
    have e3 : a / 8192 = 2 * u + c := by omega
    have e4 : a * 524288 % 4294967296 = l * 524288 := by omega
    rw [e1, e2, e3, e4]
    clear e1 e2 e3 e4 ha
    omega
  · (try rw [show ((2 : Int) ^ (19)) = 524288 from rfl]); (try rw [show ((2 : Int) ^ (32 - 19)) = 8192 from rfl]); (try rw [show ((2 : Int) ^ (19 + 1)) = 1048576 from rfl]); (try rw [show ((2 : Int) ^ (32 - (19 + 1))) = 4096 from rfl])
    obtain ⟨u, c, l, ha, b1, b2, b3⟩ : ∃ u c l : Int, a = u * 8192 + c * 4096 + l ∧ (0 ≤ u ∧ u < 524288) ∧ (0 ≤ c ∧ c ≤ 1) ∧ (0 ≤ l ∧ l < 4096) := ⟨a / 8192, a / 4096 % 2, a % 4096, by omega, by omega, by omega, by omega⟩
    have e1 : a * 524288 % 4294967296 = c * 2147483648 + l * 524288 := by omega
    have e2 : a / 8192 = u := by omega
    have e3 : a / 4096 = 2 * u + c := by omega
    have e4 : a * 1048576 % 4294967296 = l * 1048576 := by omega
    rw [e1, e2, e3, e4]
    clear e1 e2 e3 e4 ha
    omega
  · (try rw [show ((2 : Int) ^ (20)) = 1048576 from rfl]); (try rw [show ((2 : Int) ^ (32 - 20)) = 4096 from rfl]); (try rw [show ((2 : Int) ^ (20 + 1)) = 2097152 from rfl]); (try rw [show ((2 : Int) ^ (32 - (20 + 1))) = 2048 from rfl])
    obtain ⟨u, c, l, ha, b1, b2, b3⟩ : ∃ u c l : Int, a = u * 4096 + c * 2048 + l ∧ (0 ≤ u ∧ u < 1048576) ∧ (0 ≤ c ∧ c ≤ 1) ∧ (0 ≤ l ∧ l < 2048) := ⟨a / 4096, a / 2048 % 2, a % 2048, by omega, by omega, by omega, by omega⟩
    have e1 : a * 1048576 % 4294967296 = c * 2147483648 + l * 1048576 := by omega
    have e2 : a / 4096 = u := by omega
    have e3 : a / 2048 = 2 * u + c := by omega
    have e4 : a * 2097152 % 4294967296 = l * 2097152 := by omega
    rw [e1, e2, e3, e4]
    clear e1 e2 e3 e4 ha
    omega
  · (try rw [show ((2 : Int) ^ (21)) = 2097152 from rfl]); (try rw [show ((2 : Int) ^ (32 - 21)) = 2048 from rfl]); (try rw [show ((2 : Int) ^ (21 + 1)) = 4194304 from rfl]); (try rw [show ((2 : Int) ^ (32 - (21 + 1))) = 1024 from rfl])
    obtain ⟨u, c, l, ha, b1, b2, b3⟩ : ∃ u c l : Int, a = u * 2048 + c * 1024 + l ∧ (0 ≤ u ∧ u < 2097152) ∧ (0 ≤ c ∧ c ≤ 1) ∧ (0 ≤ l ∧ l < 1024) := ⟨a / 2048, a / 1024 % 2, a % 1024, by omega, by omega, by omega, by omega⟩
    have e1 : a * 2097152 % 4294967296 = c * 2147483648 + l * 2097152 := by omega
    have e2 : a / 2048 = u := by omega
    have e3 : a / 1024 = 2 * u + c := by omega
    have e4 : a * 4194304 % 4294967296 = l * 4194304 := by omega
    rw [e1, e2, e3, e4]
    clear e1 e2 e3 e4 ha
    omega
  · (try rw [show ((2 : Int) ^ (22)) = 4194304 from rfl]); (try rw [show ((2 : Int) ^ (32 - 22)) = 1024 from rfl]); (try rw [show ((2 : Int) ^ (22 + 1)) = 8388608 from rfl]); (try rw [show ((2 : Int) ^ (32 - (22 + 1))) = 512 from rfl])
    obtain ⟨u, c, l, ha, b1, b2, b3⟩ : ∃ u c l : Int, a = u * 1024 + c * 512 + l ∧ (0 ≤ u ∧ u < 4194304) ∧ (0 ≤ c ∧ c ≤ 1) ∧ (0 ≤ l ∧ l < 512) := ⟨a / 1024, a / 512 % 2, a % 512, by omega, by omega, by omega, by omega⟩
    have e1 : a * 4194304 % 4294967296 = c * 2147483648 + l * 4194304 := by omega
    have e2 : a / 1024 = u := by omega
    have e3 : a / 512 = 2 * u + c := by omega
    have e4 : a * 8388608 % 4294967296 = l * 8388608 := by omega
    rw [e1, e2, e3, e4]
    clear e1 e2 e3 e4 ha
    omega
  · (try rw [show ((2 : Int) ^ (23)) = 8388608 from rfl]); (try rw [show ((2 : Int) ^ (32 - 23)) = 512 from rfl]); (try rw [show ((2 : Int) ^ (23 + 1)) = 16777216 from rfl]); (try rw [show ((2 : Int) ^ (32 - (23 + 1))) = 256 from rfl])
    obtain ⟨u, c, l, ha, b1, b2, b3⟩ : ∃ u c l : Int, a = u * 512 + c * 256 + l ∧ (0 ≤ u ∧ u < 8388608) ∧ (0 ≤ c ∧ c ≤ 1) ∧ (0 ≤ l ∧ l < 256) := ⟨a / 512, a / 256 % 2, a % 256, by omega, by omega, by omega, by omega⟩
    have e1 : a * 8388608 % 4294967296 = c * 2147483648 + l * 8388608 := by omega
    have e2 : a / 512 = u := by omega
    have e3 : a / 256 = 2 * u + c := by omega
    have e4 : a * 16777216 % 4294967296 = l * 16777216 := by omega
    rw [e1, e2, e3, e4]
    clear e1 e2 e3 e4 ha
    omega
  · (try rw [show ((2 : Int) ^ (24)) = 16777216 from rfl]); (try rw [show ((2 : Int) ^ (32 - 24)) = 256 from rfl]); (try rw [show ((2 : Int) ^ (24 + 1)) = 33554432 from rfl]); (try rw [show ((2 : Int) ^ (32 - (24 + 1))) = 128 from rfl])
    obtain ⟨u, c, l, ha, b1, b2, b3⟩ : ∃ u c l : Int, a = u * 256 + c * 128 + l ∧ (0 ≤ u ∧ u < 16777216) ∧ (0 ≤ c ∧ c ≤ 1) ∧ (0 ≤ l ∧ l < 128) := ⟨a / 256, a / 128 % 2, a % 128, by omega, by omega, by omega, by omega⟩
    have e1 : a * 16777216 % 4294967296 = c * 2147483648 + l * 16777216 := by omega
    have e2 : a / 256 = u := by omega
    have e3 : a / 128 = 2 * u + c := by omega
    have e4 : a * 33554432 % 4294967296 = l * 33554432 := by omega
    rw [e1, e2, e3, e4]
    clear e1 e2 e3 e4 ha
    omega
  · (try rw [show ((2 : Int) ^ (25)) = 33554432 from rfl]); (try rw [show ((2 : Int) ^ (32 - 25)) = 128 from rfl]); (try rw [show ((2 : Int) ^ (25 + 1)) = 67108864 from rfl]); (try rw [show ((2 : Int) ^ (32 - (25 + 1))) = 64 from rfl])
    obtain ⟨u, c, l, ha, b1, b2, b3⟩ : ∃ u c l : Int, a = u * 128 + c * 64 + l ∧ (0 ≤ u ∧ u < 33554432) ∧ (0 ≤ c ∧ c ≤ 1) ∧ (0 ≤ l ∧ l < 64) := ⟨a / 128, a / 64 % 2, a % 64, by omega, by omega, by omega, by omega⟩
    have e1 : a * 33554432 % 4294967296 = c * 2147483648 + l * 33554432 := by omega
    have e2 : a / 128 = u := by omega
    have e3 : a / 64 = 2 * u + c := by omega
    have e4 : a * 67108864 % 4294967296 = l * 67108864 := by omega
    rw [e1, e2, e3, e4]
    clear e1 e2 e3 e4 ha
    omega
  · (try rw [show ((2 : Int) ^ (26)) = 67108864 from rfl]); (try rw [show ((2 : Int) ^ (32 - 26)) = 64 from rfl]); (try rw [show ((2 : Int) ^ (26 + 1)) = 134217728 from rfl]); (try rw [show ((2 : Int) ^ (32 - (26 + 1))) = 32 from rfl])
    obtain ⟨u, c, l, ha, b1, b2, b3⟩ : ∃ u c l : Int, a = u * 64 + c * 32 + l ∧ (0 ≤ u ∧ u < 67108864) ∧ (0 ≤ c ∧ c ≤ 1) ∧ (0 ≤ l ∧ l < 32) := ⟨a / 64, a / 32 % 2, a % 32, by omega, by omega, by omega, by omega⟩
    have e1 : a * 67108864 % 4294967296 = c * 2147483648 + l * 67108864 := by omega
    have e2 : a / 64 = u := by omega
    have e3 : a / 32 = 2 * u + c := by omega
    have e4 : a * 134217728 % 4294967296 = l * 134217728 := by omega
    rw [e1, e2, e3, e4]
    clear e1 e2 e3 e4 ha
    omega
  · (try rw [show ((2 : Int) ^ (27)) = 134217728 from rfl]); (try rw [show ((2 : Int) ^ (32 - 27)) = 32 from rfl]); (try rw [show ((2 : Int) ^ (27 + 1)) = 268435456 from rfl]); (try rw [show ((2 : Int) ^ (32 - (27 + 1))) = 16 from rfl])
    obtain ⟨u, c, l, ha, b1, b2, b3⟩ : ∃ u c l : Int, a = u * 32 + c * 16 + l ∧ (0 ≤ u ∧ u < 134217728) ∧ (0 ≤ c ∧ c ≤ 1) ∧ (0 ≤ l ∧ l < 16) := ⟨a / 32, a / 16 % 2, a % 16, by omega, by omega, by omega, by omega⟩
    have e1 : a * 134217728 % 4294967296 = c * 2147483648 + l * 134217728 := by omega
    have e2 : a / 32 = u := by omega
    have e3 : a / 16 = 2 * u + c := by omega
    have e4 : a * 268435456 % 4294967296 = l * 268435456 := by omega
    rw [e1, e2, e3, e4]
    clear e1 e2 e3 e4 ha
    omega
  · (try rw [show ((2 : Int) ^ (28)) = 268435456 from rfl]); (try rw [show ((2 : Int) ^ (32 - 28)) = 16 from rfl]); (try rw [show ((2 : Int) ^ (28 + 1)) = 536870912 from rfl]); (try rw [show ((2 : Int) ^ (32 - (28 + 1))) = 8 from rfl])
    obtain ⟨u, c, l, ha, b1, b2, b3⟩ : ∃ u c l : Int, a = u * 16 + c * 8 + l ∧ (0 ≤ u ∧ u < 268435456) ∧ (0 ≤ c ∧ c ≤ 1) ∧ (0 ≤ l ∧ l < 8) := ⟨a / 16, a / 8 % 2, a % 8, by omega, by omega, by omega, by omega⟩
    have e1 : a * 268435456 % 4294967296 = c * 2147483648 + l * 268435456 := by omega
    have e2 : a / 16 = u := by omega
    have e3 : a / 8 = 2 * u + c := by omega
    have e4 : a * 536870912 % 4294967296 = l * 536870912 := by omega
    rw [e1, e2, e3, e4]
    clear e1 e2 e3 e4 ha
    omega
  · (try rw [show ((2 : Int) ^ (29)) = 536870912 from rfl]); (try rw [show ((2 : Int) ^ (32 - 29)) = 8 from rfl]); (try rw [show ((2 : Int) ^ (29 + 1)) = 1073741824 from rfl]); (try rw [show ((2 : Int) ^ (32 - (29 + 1))) = 4 from rfl])
    obtain ⟨u, c, l, ha, b1, b2, b3⟩ : ∃ u c l : Int, a = u * 8 + c * 4 + l ∧ (0 ≤ u ∧ u < 536870912) ∧ (0 ≤ c ∧ c ≤ 1) ∧ (0 ≤ l ∧ l < 4) := ⟨a / 8, a / 4 % 2, a % 4, by omega, by omega, by omega, by omega⟩
    have e1 : a * 536870912 % 4294967296 = c * 2147483648 + l * 536870912 := by omega
    have e2 : a / 8 = u := by omega
    have e3 : a / 4 = 2 * u + c := by omega
    have e4 : a * 1073741824 % 4294967296 = l * 1073741824 := by omega
    rw [e1, e2, e3, e4]
    clear e1 e2 e3 e4 ha
    omega
  · (try rw [show ((2 : Int) ^ (30)) = 1073741824 from rfl]); (try rw [show ((2 : Int) ^ (32 - 30)) = 4 from rfl]); (try rw [show ((2 : Int) ^ (30 + 1)) = 2147483648 from rfl]); (try rw [show ((2 : Int) ^ (32 - (30 + 1))) = 2 from rfl])
    obtain ⟨u, c, l, ha, b1, b2, b3⟩ : ∃ u c l : Int, a = u * 4 + c * 2 + l ∧ (0 ≤ u ∧ u < 1073741824) ∧ (0 ≤ c ∧ c ≤ 1) ∧ (0 ≤ l ∧ l < 2) := ⟨a / 4, a / 2 % 2, a % 2, by omega, by omega, by omega, by omega⟩
    have e1 : a * 1073741824 % 4294967296 = c * 2147483648 + l * 1073741824 := by omega
    have e2 : a / 4 = u := by omega
    have e3 : a / 2 = 2 * u + c := by omega
    have e4 : a * 2147483648 % 4294967296 = l * 2147483648 := by omega
    rw [e1, e2, e3, e4]
    clear e1 e2 e3 e4 ha
    omega
set_option maxHeartbeats 4000000 in
theorem rol_bit (a : Int) (h : 0 ≤ a ∧ a ≤ 4294967295) (j : Nat) (hj : 1 ≤ j ∧ j ≤ 30) :
    (a * 2 ^ j % 4294967296 + a / 2 ^ (32 - j)) / 2147483648 % 2 = a / 2 ^ (32 - (j + 1)) % 2 := by
  rcases (by omega : j = 1 ∨ j = 2 ∨ j = 3 ∨ j = 4 ∨ j = 5 ∨ j = 6 ∨ j = 7 ∨ j = 8 ∨ j = 9 ∨ j = 10 ∨ j = 11 ∨ j = 12 ∨ j = 13 ∨ j = 14 ∨ j = 15 ∨ j = 16 ∨ j = 17 ∨ j = 18 ∨ j = 19 ∨ j = 20 ∨ j = 21 ∨ j = 22 ∨ j = 23 ∨ j = 24 ∨ j = 25 ∨ j = 26 ∨ j = 27 ∨ j = 28 ∨ j = 29 ∨ j = 30) with rfl | rfl | rfl | rfl | rfl | rfl | rfl | rfl | rfl | rfl | rfl | rfl | rfl | rfl | rfl | rfl | rfl | rfl | rfl | rfl | rfl | rfl | rfl | rfl | rfl | rfl | rfl | rfl | rfl | rfl
  · (try rw [show ((2 : Int) ^ (1)) = 2 from rfl]); (try rw [show ((2 : Int) ^ (32 - 1)) = 2147483648 from rfl]); (try rw [show ((2 : Int) ^ (32 - (1 + 1))) = 1073741824 from rfl])
    obtain ⟨u, c, l, ha, b1, b2, b3⟩ : ∃ u c l : Int, a = u * 2147483648 + c * 1073741824 + l ∧ (0 ≤ u ∧ u < 2) ∧ (0 ≤ c ∧ c ≤ 1) ∧ (0 ≤ l ∧ l < 1073741824) := ⟨a / 2147483648, a / 1073741824 % 2, a % 1073741824, by omega, by omega, by omega, by omega⟩
    have e1 : a * 2 % 4294967296 = c * 2147483648 + l * 2 := by omega
    have e2 : a / 2147483648 = u := by omega
    have e3 : a / 1073741824 = 2 * u + c := by omega
    have e4 : a * 4 % 4294967296 = l * 4 := by omega
    rw [e1, e2, e3]
    clear e1 e2 e3 e4 ha
    have e5 : (c * 2147483648 + l * 2 + u) / 2147483648 = c := by omega
    rw [e5]
    clear e5
    omega
  · (try rw [show ((2 : Int) ^ (2)) = 4 from rfl]); (try rw [show ((2 : Int) ^ (32 - 2)) = 1073741824 from rfl]); (try rw [show ((2 : Int) ^ (32 - (2 + 1))) = 536870912 from rfl])
    obtain ⟨u, c, l, ha, b1, b2, b3⟩ : ∃ u c l : Int, a = u * 1073741824 + c * 536870912 + l ∧ (0 ≤ u ∧ u < 4) ∧ (0 ≤ c ∧ c ≤ 1) ∧ (0 ≤ l ∧ l < 536870912) := ⟨a / 1073741824, a / 536870912 % 2, a % 536870912, by omega, by omega, by omega, by omega⟩
    have e1 : a * 4 % 4294967296 = c * 2147483648 + l * 4 := by omega
    have e2 : a / 1073741824 = u := by omega
    have e3 : a / 536870912 = 2 * u + c := by omega
    have e4 : a * 8 % 4294967296 = l * 8 := by omega
    rw [e1, e2, e3]
    clear e1 e2 e3 e4 ha
    have e5 : (c * 2147483648 + l * 4 + u) / 2147483648 = c := by omega
    rw [e5]
    clear e5
    omega
  · (try rw [show ((2 : Int) ^ (3)) = 8 from rfl]); (try rw [show ((2 : Int) ^ (32 - 3)) = 536870912 from rfl]); (try rw [show ((2 : Int) ^ (32 - (3 + 1))) = 268435456 from rfl])
    obtain ⟨u, c, l, ha, b1, b2, b3⟩ : ∃ u c l : Int, a = u * 536870912 + c * 268435456 + l ∧ (0 ≤ u ∧ u < 8) ∧ (0 ≤ c ∧ c ≤ 1) ∧ (0 ≤ l ∧ l < 268435456) := ⟨a / 536870912, a / 268435456 % 2, a % 268435456, by omega, by omega, by omega, by omega⟩
    have e1 : a * 8 % 4294967296 = c * 2147483648 + l * 8 := by omega
    have e2 : a / 536870912 = u := by omega
    have e3 : a / 268435456 = 2 * u + c := by omega
    have e4 : a * 16 % 4294967296 = l * 16 := by omega
    rw [e1, e2, e3]
    clear e1 e2 e3 e4 ha
    have e5 : (c * 2147483648 + l * 8 + u) / 2147483648 = c := by omega
    rw [e5]
    clear e5
    omega
  · (try rw [show ((2 : Int) ^ (4)) = 16 from rfl]); (try rw [show ((2 : Int) ^ (32 - 4)) = 268435456 from rfl]); (try rw [show ((2 : Int) ^ (32 - (4 + 1))) = 134217728 from rfl])
    obtain ⟨u, c, l, ha, b1, b2, b3⟩ : ∃ u c l : Int, a = u * 268435456 + c * 134217728 + l ∧ (0 ≤ u ∧ u < 16) ∧ (0 ≤ c ∧ c ≤ 1) ∧ (0 ≤ l ∧ l < 134217728) := ⟨a / 268435456, a / 134217728 % 2, a % 134217728, by omega, by omega, by omega, by omega⟩
    have e1 : a * 16 % 4294967296 = c * 2147483648 + l * 16 := by omega
    have e2 : a / 268435456 = u := by omega
    have e3 : a / 134217728 = 2 * u + c := by omega
    have e4 : a * 32 % 4294967296 = l * 32 := by omega
    rw [e1, e2, e3]
    clear e1 e2 e3 e4 ha
    have e5 : (c * 2147483648 + l * 16 + u) / 2147483648 = c := by omega
    rw [e5]
    clear e5
    omega
  · (try rw [show ((2 : Int) ^ (5)) = 32 from rfl]); (try rw [show ((2 : Int) ^ (32 - 5)) = 134217728 from rfl]); (try rw [show ((2 : Int) ^ (32 - (5 + 1))) = 67108864 from rfl])
    obtain ⟨u, c, l, ha, b1, b2, b3⟩ : ∃ u c l : Int, a = u * 134217728 + c * 67108864 + l ∧ (0 ≤ u ∧ u < 32) ∧ (0 ≤ c ∧ c ≤ 1) ∧ (0 ≤ l ∧ l < 67108864) := ⟨a / 134217728, a / 67108864 % 2, a % 67108864, by omega, by omega, by omega, by omega⟩
    have e1 : a * 32 % 4294967296 = c * 2147483648 + l * 32 := by omega
    have e2 : a / 134217728 = u := by omega
    have e3 : a / 67108864 = 2 * u + c := by omega
    have e4 : a * 64 % 4294967296 = l * 64 := by omega
    rw [e1, e2, e3]
    clear e1 e2 e3 e4 ha
    have e5 : (c * 2147483648 + l * 32 + u) / 2147483648 = c := by omega
    rw [e5]
    clear e5
    omega
  · (try rw [show ((2 : Int) ^ (6)) = 64 from rfl]); (try rw [show ((2 : Int) ^ (32 - 6)) = 67108864 from rfl]); (try rw [show ((2 : Int) ^ (32 - (6 + 1))) = 33554432 from rfl])
    obtain ⟨u, c, l, ha, b1, b2, b3⟩ : ∃ u c l : Int, a = u * 67108864 + c * 33554432 + l ∧ (0 ≤ u ∧ u < 64) ∧ (0 ≤ c ∧ c ≤ 1) ∧ (0 ≤ l ∧ l < 33554432) := ⟨a / 67108864, a / 33554432 % 2, a % 33554432, by omega, by omega, by omega, by omega⟩
    have e1 : a * 64 % 4294967296 = c * 2147483648 + l * 64 := by omega
    have e2 : a / 67108864 = u := by omega
    have e3 : a / 33554432 = 2 * u + c := by omega
    have e4 : a * 128 % 4294967296 = l * 128 := by omega
    rw [e1, e2, e3]
    clear e1 e2 e3 e4 ha
    have e5 : (c * 2147483648 + l * 64 + u) / 2147483648 = c := by omega
    rw [e5]
    clear e5
    omega
  · (try rw [show ((2 : Int) ^ (7)) = 128 from rfl]); (try rw [show ((2 : Int) ^ (32 - 7)) = 33554432 from rfl]); (try rw [show ((2 : Int) ^ (32 - (7 + 1))) = 16777216 from rfl])
    obtain ⟨u, c, l, ha, b1, b2, b3⟩ : ∃ u c l : Int, a = u * 33554432 + c * 16777216 + l ∧ (0 ≤ u ∧ u < 128) ∧ (0 ≤ c ∧ c ≤ 1) ∧ (0 ≤ l ∧ l < 16777216) := ⟨a / 33554432, a / 16777216 % 2, a % 16777216, by omega, by omega, by omega, by omega⟩
    have e1 : a * 128 % 4294967296 = c * 2147483648 + l * 128 := by omega
    have e2 : a / 33554432 = u := by omega
    have e3 : a / 16777216 = 2 * u + c := by omega
    have e4 : a * 256 % 4294967296 = l * 256 := by omega
    rw [e1, e2, e3]
    clear e1 e2 e3 e4 ha
    have e5 : (c * 2147483648 + l * 128 + u) / 2147483648 = c := by omega
    rw [e5]
    clear e5
    omega
  · (try rw [show ((2 : Int) ^ (8)) = 256 from rfl]); (try rw [show ((2 : Int) ^ (32 - 8)) = 16777216 from rfl]); (try rw [show ((2 : Int) ^ (32 - (8 + 1))) = 8388608 from rfl])
    obtain ⟨u, c, l, ha, b1, b2, b3⟩ : ∃ u c l : Int, a = u * 16777216 + c * 8388608 + l ∧ (0 ≤ u ∧ u < 256) ∧ (0 ≤ c ∧ c ≤ 1) ∧ (0 ≤ l ∧ l < 8388608) := ⟨a / 16777216, a / 8388608 % 2, a % 8388608, by omega, by omega, by omega, by omega⟩
    have e1 : a * 256 % 4294967296 = c * 2147483648 + l * 256 := by omega
    have e2 : a / 16777216 = u := by omega
    have e3 : a / 8388608 = 2 * u + c := by omega
    have e4 : a * 512 % 4294967296 = l * 512 := by omega
    rw [e1, e2, e3]
    clear e1 e2 e3 e4 ha
    have e5 : (c * 2147483648 + l * 256 + u) / 2147483648 = c := by omega
    rw [e5]
    clear e5
    omega
  · (try rw [show ((2 : Int) ^ (9)) = 512 from rfl]); (try rw [show ((2 : Int) ^ (32 - 9)) = 8388608 from rfl]); (try rw [show ((2 : Int) ^ (32 - (9 + 1))) = 4194304 from rfl])
    obtain ⟨u, c, l, ha, b1, b2, b3⟩ : ∃ u c l : Int, a = u * 8388608 + c * 4194304 + l ∧ (0 ≤ u ∧ u < 512) ∧ (0 ≤ c ∧ c ≤ 1) ∧ (0 ≤ l ∧ l < 4194304) := ⟨a / 8388608, a / 4194304 % 2, a % 4194304, by omega, by omega, by omega, by omega⟩
    have e1 : a * 512 % 4294967296 = c * 2147483648 + l * 512 := by omega
    have e2 : a / 8388608 = u := by omega
    have e3 : a / 4194304 = 2 * u + c := by omega
    have e4 : a * 1024 % 4294967296 = l * 1024 := by omega
    rw [e1, e2, e3]
    clear e1 e2 e3 e4 ha
    have e5 : (c * 2147483648 + l * 512 + u) / 2147483648 = c := by omega
    rw [e5]
    clear e5
    omega
  · (try rw [show ((2 : Int) ^ (10)) = 1024 from rfl]); (try rw [show ((2 : Int) ^ (32 - 10)) = 4194304 from rfl]); (try rw [show ((2 : Int) ^ (32 - (10 + 1))) = 2097152 from rfl])
    obtain ⟨u, c, l, ha, b1, b2, b3⟩ : ∃ u c l : Int, a = u * 4194304 + c * 2097152 + l ∧ (0 ≤ u ∧ u < 1024) ∧ (0 ≤ c ∧ c ≤ 1) ∧ (0 ≤ l ∧ l < 2097152) := ⟨a / 4194304, a / 2097152 % 2, a % 2097152, by omega, by omega, by omega, by omega⟩
    have e1 : a * 1024 % 4294967296 = c * 2147483648 + l * 1024 := by omega
    have e2 : a / 4194304 = u := by omega
    have e3 : a / 2097152 = 2 * u + c := by omega
    have e4 : a * 2048 % 4294967296 = l * 2048 := by omega
    rw [e1, e2, e3]
    clear e1 e2 e3 e4 ha
    have e5 : (c * 2147483648 + l * 1024 + u) / 2147483648 = c := by omega
    rw [e5]
    clear e5
    omega
  · (try rw [show ((2 : Int) ^ (11)) = 2048 from rfl]); (try rw [show ((2 : Int) ^ (32 - 11)) = 2097152 from rfl]); (try rw [show ((2 : Int) ^ (32 - (11 + 1))) = 1048576 from rfl])
    obtain ⟨u, c, l, ha, b1, b2, b3⟩ : ∃ u c l : Int, a = u * 2097152 + c * 1048576 + l ∧ (0 ≤ u ∧ u < 2048) ∧ (0 ≤ c ∧ c ≤ 1) ∧ (0 ≤ l ∧ l < 1048576) := ⟨a / 2097152, a / 1048576 % 2, a % 1048576, by omega, by omega, by omega, by omega⟩
    have e1 : a * 2048 % 4294967296 = c * 2147483648 + l * 2048 := by omega
    have e2 : a / 2097152 = u := by omega
    have e3 : a / 1048576 = 2 * u + c := by omega
    have e4 : a * 4096 % 4294967296 = l * 4096 := by omega
    rw [e1, e2, e3]
    clear e1 e2 e3 e4 ha
    have e5 : (c * 2147483648 + l * 2048 + u) / 2147483648 = c := by omega
    rw [e5]
    clear e5
    omega
  · (try rw [show ((2 : Int) ^ (12)) = 4096 from rfl]); (try rw [show ((2 : Int) ^ (32 - 12)) = 1048576 from rfl]); (try rw [show ((2 : Int) ^ (32 - (12 + 1))) = 524288 from rfl])
    obtain ⟨u, c, l, ha, b1, b2, b3⟩ : ∃ u c l : Int, a = u * 1048576 + c * 524288 + l ∧ (0 ≤ u ∧ u < 4096) ∧ (0 ≤ c ∧ c ≤ 1) ∧ (0 ≤ l ∧ l < 524288) := ⟨a / 1048576, a / 524288 % 2, a % 524288, by omega, by omega, by omega, by omega⟩
    have e1 : a * 4096 % 4294967296 = c * 2147483648 + l * 4096 := by omega
    have e2 : a / 1048576 = u := by omega
    have e3 : a / 524288 = 2 * u + c := by omega
    have e4 : a * 8192 % 4294967296 = l * 8192 := by omega
    rw [e1, e2, e3]
    clear e1 e2 e3 e4 ha
    have e5 : (c * 2147483648 + l * 4096 + u) / 2147483648 = c := by omega
    rw [e5]
    clear e5
    omega
  · (try rw [show ((2 : Int) ^ (13)) = 8192 from rfl]); (try rw [show ((2 : Int) ^ (32 - 13)) = 524288 from rfl]); (try rw [show ((2 : Int) ^ (32 - (13 + 1))) = 262144 from rfl])
    obtain ⟨u, c, l, ha, b1, b2, b3⟩ : ∃ u c l : Int, a = u * 524288 + c * 262144 + l ∧ (0 ≤ u ∧ u < 8192) ∧ (0 ≤ c ∧ c ≤ 1) ∧ (0 ≤ l ∧ l < 262144) := ⟨a / 524288, a / 262144 % 2, a % 262144, by omega, by omega, by omega, by omega⟩
    have e1 : a * 8192 % 4294967296 = c * 2147483648 + l * 8192 := by omega
    have e2 : a / 524288 = u := by omega
    have e3 : a / 262144 = 2 * u + c := by omega
    have e4 : a * 16384 % 4294967296 = l * 16384 := by omega
    rw [e1, e2, e3]
    clear e1 e2 e3 e4 ha
    have e5 : (c * 2147483648 + l * 8192 + u) / 2147483648 = c := by omega
    rw [e5]
    clear e5
    omega
  · (try rw [show ((2 : Int) ^ (14)) = 16384 from rfl]); (try rw [show ((2 : Int) ^ (32 - 14)) = 262144 from rfl]); (try rw [show ((2 : Int) ^ (32 - (14 + 1))) = 131072 from rfl])
    obtain ⟨u, c, l, ha, b1, b2, b3⟩ : ∃ u c l : Int, a = u * 262144 + c * 131072 + l ∧ (0 ≤ u ∧ u < 16384) ∧ (0 ≤ c ∧ c ≤ 1) ∧ (0 ≤ l ∧ l < 131072) := ⟨a / 262144, a / 131072 % 2, a % 131072, by omega, by omega, by omega, by omega⟩
    have e1 : a * 16384 % 4294967296 = c * 2147483648 + l * 16384 := by omega
    have e2 : a / 262144 = u := by omega
    have e3 : a / 131072 = 2 * u + c := by omega
    have e4 : a * 32768 % 4294967296 = l * 32768 := by omega
    rw [e1, e2, e3]
    clear e1 e2 e3 e4 ha
    have e5 : (c * 2147483648 + l * 16384 + u) / 2147483648 = c := by omega
    rw [e5]
    clear e5
    omega
  · (try rw [show ((2 : Int) ^ (15)) = 32768 from rfl]); (try rw [show ((2 : Int) ^ (32 - 15)) = 131072 from rfl]); (try rw [show ((2 : Int) ^ (32 - (15 + 1))) = 65536 from rfl])
    obtain ⟨u, c, l, ha, b1, b2, b3⟩ : ∃ u c l : Int, a = u * 131072 + c * 65536 + l ∧ (0 ≤ u ∧ u < 32768) ∧ (0 ≤ c ∧ c ≤ 1) ∧ (0 ≤ l ∧ l < 65536) := ⟨a / 131072, a / 65536 % 2, a % 65536, by omega, by omega, by omega, by omega⟩
    have e1 : a * 32768 % 4294967296 = c * 2147483648 + l * 32768 := by omega
    have e2 : a / 131072 = u := by omega
    have e3 : a / 65536 = 2 * u + c := by omega
    have e4 : a * 65536 % 4294967296 = l * 65536 := by omega
    rw [e1, e2, e3]
    clear e1 e2 e3 e4 ha
    have e5 : (c * 2147483648 + l * 32768 + u) / 2147483648 = c := by omega
    rw [e5]
    clear e5
    omega
  · (try rw [show ((2 : Int) ^ (16)) = 65536 from rfl]); (try rw [show ((2 : Int) ^ (32 - 16)) = 65536 from rfl]); (try rw [show ((2 : Int) ^ (32 - (16 + 1))) = 32768 from rfl])
    obtain ⟨u, c, l, ha, b1, b2, b3⟩ : ∃ u c l : Int, a = u * 65536 + c * 32768 + l ∧ (0 ≤ u ∧ u < 65536) ∧ (0 ≤ c ∧ c ≤ 1) ∧ (0 ≤ l ∧ l < 32768) := ⟨a / 65536, a / 32768 % 2, a % 32768, by omega, by omega, by omega, by omega⟩
    have e1 : a * 65536 % 4294967296 = c * 2147483648 + l * 65536 := by omega
    have e2 : a / 65536 = u := by omega
    have e3 : a / 32768 = 2 * u + c := by omega
    have e4 : a * 131072 % 4294967296 = l * 131072 := by omega
    rw [e1, e2, e3]
    clear e1 e2 e3 e4 ha
    have e5 : (c * 2147483648 + l * 65536 + u) / 2147483648 = c := by omega
    rw [e5]
    clear e5
    omega
  · (try rw [show ((2 : Int) ^ (17)) = 131072 from rfl]); (try rw [show ((2 : Int) ^ (32 - 17)) = 32768 from rfl]); (try rw [show ((2 : Int) ^ (32 - (17 + 1))) = 16384 from rfl])
    obtain ⟨u, c, l, ha, b1, b2, b3⟩ : ∃ u c l : Int, a = u * 32768 + c * 16384 + l ∧ (0 ≤ u ∧ u < 131072) ∧ (0 ≤ c ∧ c ≤ 1) ∧ (0 ≤ l ∧ l < 16384) := ⟨a / 32768, a / 16384 % 2, a % 16384, by omega, by omega, by omega, by omega⟩
    have e1 : a * 131072 % 4294967296 = c * 2147483648 + l * 131072 := by omega
    have e2 : a / 32768 = u := by omega
    have e3 : a / 16384 = 2 * u + c := by omega
    have e4 : a * 262144 % 4294967296 = l * 262144 := by omega
    rw [e1, e2, e3]
    clear e1 e2 e3 e4 ha
    have e5 : (c * 2147483648 + l * 131072 + u) / 2147483648 = c := by omega
    rw [e5]
    clear e5
    omega
  · (try rw [show ((2 : Int) ^ (18)) = 262144 from rfl]); (try rw [show ((2 : Int) ^ (32 - 18)) = 16384 from rfl]); (try rw [show ((2 : Int) ^ (32 - (18 + 1))) = 8192 from rfl])
    obtain ⟨u, c, l, ha, b1, b2, b3⟩ : ∃ u c l : Int, a = u * 16384 + c * 8192 + l ∧ (0 ≤ u ∧ u < 262144) ∧ (0 ≤ c ∧ c ≤ 1) ∧ (0 ≤ l ∧ l < 8192) := ⟨a / 16384, a / 8192 % 2, a % 8192, by omega, by omega, by omega, by omega⟩
    have e1 : a * 262144 % 4294967296 = c * 2147483648 + l * 262144 := by omega
    have e2 : a / 16384 = u := by omega
    have e3 : a / 8192 = 2 * u + c := by omega
    have e4 : a * 524288 % 4294967296 = l * 524288 := by omega
    rw [e1, e2, e3]
    clear e1 e2 e3 e4 ha
    have e5 : (c * 2147483648 + l * 262144 + u) / 2147483648 = c := by omega
    rw [e5]
    clear e5
    omega
  · (try rw [show ((2 : Int) ^ (19)) = 524288 from rfl]); (try rw [show ((2 : Int) ^ (32 - 19)) = 8192 from rfl]); (try rw [show ((2 : Int) ^ (32 - (19 + 1))) = 4096 from rfl])
    obtain ⟨u, c, l, ha, b1, b2, b3⟩ : ∃ u c l : Int, a = u * 8192 + c * 4096 + l ∧ (0 ≤ u ∧ u < 524288) ∧ (0 ≤ c ∧ c ≤ 1) ∧ (0 ≤ l ∧ l < 4096) := ⟨a / 8192, a / 4096 % 2, a % 4096, by omega, by omega, by omega, by omega⟩
    have e1 : a * 524288 % 4294967296 = c * 2147483648 + l * 524288 := by omega
    have e2 : a / 8192 = u := by omega
    have e3 : a / 4096 = 2 * u + c := by omega
    have e4 : a * 1048576 % 4294967296 = l * 1048576 := by omega
    rw [e1, e2, e3]
    clear e1 e2 e3 e4 ha
    have e5 : (c * 2147483648 + l * 524288 + u) / 2147483648 = c := by omega
    rw [e5]
    clear e5
    omega
  · (try rw [show ((2 : Int) ^ (20)) = 1048576 from rfl]); (try rw [show ((2 : Int) ^ (32 - 20)) = 4096 from rfl]); (try rw [show ((2 : Int) ^ (32 - (20 + 1))) = 2048 from rfl])
    obtain ⟨u, c, l, ha, b1, b2, b3⟩ : ∃ u c l : Int, a = u * 4096 + c * 2048 + l ∧ (0 ≤ u ∧ u < 1048576) ∧ (0 ≤ c ∧ c ≤ 1) ∧ (0 ≤ l ∧ l < 2048) := ⟨a / 4096, a / 2048 % 2, a % 2048, by omega, by omega, by omega, by omega⟩
    have e1 : a * 1048576 % 4294967296 = c * 2147483648 + l * 1048576 := by omega
    have e2 : a / 4096 = u := by omega
    have e3 : a / 2048 = 2 * u + c := by omega
    have e4 : a * 2097152 % 4294967296 = l * 2097152 := by omega
    rw [e1, e2, e3]
    clear e1 e2 e3 e4 ha
    have e5 : (c * 2147483648 + l * 1048576 + u) / 2147483648 = c := by omega
    rw [e5]
    clear e5
    omega
  · (try rw [show ((2 : Int) ^ (21)) = 2097152 from rfl]); (try rw [show ((2 : Int) ^ (32 - 21)) = 2048 from rfl]); (try rw [show ((2 : Int) ^ (32 - (21 + 1))) = 1024 from rfl])
    obtain ⟨u, c, l, ha, b1, b2, b3⟩ : ∃ u c l : Int, a = u * 2048 + c * 1024 + l ∧ (0 ≤ u ∧ u < 2097152) ∧ (0 ≤ c ∧ c ≤ 1) ∧ (0 ≤ l ∧ l < 1024) := ⟨a / 2048, a / 1024 % 2, a % 1024, by omega, by omega, by omega, by omega⟩
    have e1 : a * 2097152 % 4294967296 = c * 2147483648 + l * 2097152 := by omega
    have e2 : a / 2048 = u := by omega
    have e3 : a / 1024 = 2 * u + c := by omega
    have e4 : a * 4194304 % 4294967296 = l * 4194304 := by omega
    rw [e1, e2, e3]
    clear e1 e2 e3 e4 ha
    have e5 : (c * 2147483648 + l * 2097152 + u) / 2147483648 = c := by omega
    rw [e5]
    clear e5
    omega
  · (try rw [show ((2 : Int) ^ (22)) = 4194304 from rfl]); (try rw [show ((2 : Int) ^ (32 - 22)) = 1024 from rfl]); (try rw [show ((2 : Int) ^ (32 - (22 + 1))) = 512 from rfl])
    obtain ⟨u, c, l, ha, b1, b2, b3⟩ : ∃ u c l : Int, a = u * 1024 + c * 512 + l ∧ (0 ≤ u ∧ u < 4194304) ∧ (0 ≤ c ∧ c ≤ 1) ∧ (0 ≤ l ∧ l < 512) := ⟨a / 1024, a / 512 % 2, a % 512, by omega, by omega, by omega, by omega⟩
    have e1 : a * 4194304 % 4294967296 = c * 2147483648 + l * 4194304 := by omega
    have e2 : a / 1024 = u := by omega
    have e3 : a / 512 = 2 * u + c := by omega
    have e4 : a * 8388608 % 4294967296 = l * 8388608 := by omega
    rw [e1, e2, e3]
    clear e1 e2 e3 e4 ha
    have e5 : (c * 2147483648 + l * 4194304 + u) / 2147483648 = c := by omega
    rw [e5]
    clear e5
    omega
  · (try rw [show ((2 : Int) ^ (23)) = 8388608 from rfl]); (try rw [show ((2 : Int) ^ (32 - 23)) = 512 from rfl]); (try rw [show ((2 : Int) ^ (32 - (23 + 1))) = 256 from rfl])
    obtain ⟨u, c, l, ha, b1, b2, b3⟩ : ∃ u c l : Int, a = u * 512 + c * 256 + l ∧ (0 ≤ u ∧ u < 8388608) ∧ (0 ≤ c ∧ c ≤ 1) ∧ (0 ≤ l ∧ l < 256) := ⟨a / 512, a / 256 % 2, a % 256, by omega, by omega, by omega, by omega⟩
    have e1 : a * 8388608 % 4294967296 = c * 2147483648 + l * 8388608 := by omega
    have e2 : a / 512 = u := by omega
    have e3 : a / 256 = 2 * u + c := by omega
    have e4 : a * 16777216 % 4294967296 = l * 16777216 := by omega
    rw [e1, e2, e3]
    clear e1 e2 e3 e4 ha
    have e5 : (c * 2147483648 + l * 8388608 + u) / 2147483648 = c := by omega
    rw [e5]
    clear e5
    omega
  · (try rw [show ((2 : Int) ^ (24)) = 16777216 from rfl]); (try rw [show ((2 : Int) ^ (32 - 24)) = 256 from rfl]); (try rw [show ((2 : Int) ^ (32 - (24 + 1))) = 128 from rfl])
    obtain ⟨u, c, l, ha, b1, b2, b3⟩ : ∃ u c l : Int, a = u * 256 + c * 128 + l ∧ (0 ≤ u ∧ u < 16777216) ∧ (0 ≤ c ∧ c ≤ 1) ∧ (0 ≤ l ∧ l < 128) := ⟨a / 256, a / 128 % 2, a % 128, by omega, by omega, by omega, by omega⟩
    have e1 : a * 16777216 % 4294967296 = c * 2147483648 + l * 16777216 := by omega
    have e2 : a / 256 = u := by omega
    have e3 : a / 128 = 2 * u + c := by omega
    have e4 : a * 33554432 % 4294967296 = l * 33554432 := by omega
    rw [e1, e2, e3]
    clear e1 e2 e3 e4 ha
    have e5 : (c * 2147483648 + l * 16777216 + u) / 2147483648 = c := by omega
    rw [e5]
    clear e5
    omega
  · (try rw [show ((2 : Int) ^ (25)) = 33554432 from rfl]); (try rw [show ((2 : Int) ^ (32 - 25)) = 128 from rfl]); (try rw [show ((2 : Int) ^ (32 - (25 + 1))) = 64 from rfl])
    obtain ⟨u, c, l, ha, b1, b2, b3⟩ : ∃ u c l : Int, a = u * 128 + c * 64 + l ∧ (0 ≤ u ∧ u < 33554432) ∧ (0 ≤ c ∧ c ≤ 1) ∧ (0 ≤ l ∧ l < 64) := ⟨a / 128, a / 64 % 2, a % 64, by omega, by omega, by omega, by omega⟩
    have e1 : a * 33554432 % 4294967296 = c * 2147483648 + l * 33554432 := by omega
    have e2 : a / 128 = u := by omega
    have e3 : a / 64 = 2 * u + c := by omega
    have e4 : a * 67108864 % 4294967296 = l * 67108864 := by omega
    rw [e1, e2, e3]
    clear e1 e2 e3 e4 ha
    have e5 : (c * 2147483648 + l * 33554432 + u) / 2147483648 = c := by omega
    rw [e5]
    clear e5
    omega
  · (try rw [show ((2 : Int) ^ (26)) = 67108864 from rfl]); (try rw [show ((2 : Int) ^ (32 - 26)) = 64 from rfl]); (try rw [show ((2 : Int) ^ (32 - (26 + 1))) = 32 from rfl])
    obtain ⟨u, c, l, ha, b1, b2, b3⟩ : ∃ u c l : Int, a = u * 64 + c * 32 + l ∧ (0 ≤ u ∧ u < 67108864) ∧ (0 ≤ c ∧ c ≤ 1) ∧ (0 ≤ l ∧ l < 32) := ⟨a / 64, a / 32 % 2, a % 32, by omega, by omega, by omega, by omega⟩
    have e1 : a * 67108864 % 4294967296 = c * 2147483648 + l * 67108864 := by omega
    have e2 : a / 64 = u := by omega
    have e3 : a / 32 = 2 * u + c := by omega
    have e4 : a * 134217728 % 4294967296 = l * 134217728 := by omega
    rw [e1, e2, e3]
    clear e1 e2 e3 e4 ha
    have e5 : (c * 2147483648 + l * 67108864 + u) / 2147483648 = c := by omega
    rw [e5]
    clear e5
    omega
  · (try rw [show ((2 : Int) ^ (27)) = 134217728 from rfl]); (try rw [show ((2 : Int) ^ (32 - 27)) = 32 from rfl]); (try rw [show ((2 : Int) ^ (32 - (27 + 1))) = 16 from rfl])
    obtain ⟨u, c, l, ha, b1, b2, b3⟩ : ∃ u c l : Int, a = u * 32 + c * 16 + l ∧ (0 ≤ u ∧ u < 134217728) ∧ (0 ≤ c ∧ c ≤ 1) ∧ (0 ≤ l ∧ l < 16) := ⟨a / 32, a / 16 % 2, a % 16, by omega, by omega, by omega, by omega⟩
    have e1 : a * 134217728 % 4294967296 = c * 2147483648 + l * 134217728 := by omega
    have e2 : a / 32 = u := by omega
    have e3 : a / 16 = 2 * u + c := by omega
    have e4 : a * 268435456 % 4294967296 = l * 268435456 := by omega
    rw [e1, e2, e3]
    clear e1 e2 e3 e4 ha
    have e5 : (c * 2147483648 + l * 134217728 + u) / 2147483648 = c := by omega
    rw [e5]
    clear e5
    omega
  · (try rw [show ((2 : Int) ^ (28)) = 268435456 from rfl]); (try rw [show ((2 : Int) ^ (32 - 28)) = 16 from rfl]); (try rw [show ((2 : Int) ^ (32 - (28 + 1))) = 8 from rfl])
    obtain ⟨u, c, l, ha, b1, b2, b3⟩ : ∃ u c l : Int, a = u * 16 + c * 8 + l ∧ (0 ≤ u ∧ u < 268435456) ∧ (0 ≤ c ∧ c ≤ 1) ∧ (0 ≤ l ∧ l < 8) := ⟨a / 16, a / 8 % 2, a % 8, by omega, by omega, by omega, by omega⟩
    have e1 : a * 268435456 % 4294967296 = c * 2147483648 + l * 268435456 := by omega
    have e2 : a / 16 = u := by omega
    have e3 : a / 8 = 2 * u + c := by omega
    have e4 : a * 536870912 % 4294967296 = l * 536870912 := by omega
    rw [e1, e2, e3]
    clear e1 e2 e3 e4 ha
    have e5 : (c * 2147483648 + l * 268435456 + u) / 2147483648 = c := by omega
    rw [e5]
    clear e5
    omega
  · (try rw [show ((2 : Int) ^ (29)) = 536870912 from rfl]); (try rw [show ((2 : Int) ^ (32 - 29)) = 8 from rfl]); (try rw [show ((2 : Int) ^ (32 - (29 + 1))) = 4 from rfl])
    obtain ⟨u, c, l, ha, b1, b2, b3⟩ : ∃ u c l : Int, a = u * 8 + c * 4 + l ∧ (0 ≤ u ∧ u < 536870912) ∧ (0 ≤ c ∧ c ≤ 1) ∧ (0 ≤ l ∧ l < 4) := ⟨a / 8, a / 4 % 2, a % 4, by omega, by omega, by omega, by omega⟩
    have e1 : a * 536870912 % 4294967296 = c * 2147483648 + l * 536870912 := by omega
    have e2 : a / 8 = u := by omega
    have e3 : a / 4 = 2 * u + c := by omega
    have e4 : a * 1073741824 % 4294967296 = l * 1073741824 := by omega
    rw [e1, e2, e3]
    clear e1 e2 e3 e4 ha
    have e5 : (c * 2147483648 + l * 536870912 + u) / 2147483648 = c := by omega
    rw [e5]
    clear e5
    omega
  · (try rw [show ((2 : Int) ^ (30)) = 1073741824 from rfl]); (try rw [show ((2 : Int) ^ (32 - 30)) = 4 from rfl]); (try rw [show ((2 : Int) ^ (32 - (30 + 1))) = 2 from rfl])
    obtain ⟨u, c, l, ha, b1, b2, b3⟩ : ∃ u c l : Int, a = u * 4 + c * 2 + l ∧ (0 ≤ u ∧ u < 1073741824) ∧ (0 ≤ c ∧ c ≤ 1) ∧ (0 ≤ l ∧ l < 2) := ⟨a / 4, a / 2 % 2, a % 2, by omega, by omega, by omega, by omega⟩
    have e1 : a * 1073741824 % 4294967296 = c * 2147483648 + l * 1073741824 := by omega
    have e2 : a / 4 = u := by omega
    have e3 : a / 2 = 2 * u + c := by omega
    have e4 : a * 2147483648 % 4294967296 = l * 2147483648 := by omega
    rw [e1, e2, e3]
    clear e1 e2 e3 e4 ha
    have e5 : (c * 2147483648 + l * 1073741824 + u) / 2147483648 = c := by omega
    rw [e5]
    clear e5
    omega
set_option maxHeartbeats 4000000 in
theorem ror_step (a : Int) (h : 0 ≤ a ∧ a ≤ 4294967295) (j : Nat) (hj : 1 ≤ j ∧ j ≤ 30) :
    (a * 2 ^ (32 - j) % 4294967296 + a / 2 ^ j) * 2147483648 % 4294967296 + (a * 2 ^ (32 - j) % 4294967296 + a / 2 ^ j) / 2 = a * 2 ^ (32 - (j + 1)) % 4294967296 + a / 2 ^ (j + 1) := by
  rcases (by omega : j = 1 ∨ j = 2 ∨ j = 3 ∨ j = 4 ∨ j = 5 ∨ j = 6 ∨ j = 7 ∨ j = 8 ∨ j = 9 ∨ j = 10 ∨ j = 11 ∨ j = 12 ∨ j = 13 ∨ j = 14 ∨ j = 15 ∨ j = 16 ∨ j = 17 ∨ j = 18 ∨ j = 19 ∨ j = 20 ∨ j = 21 ∨ j = 22 ∨ j = 23 ∨ j = 24 ∨ j = 25 ∨ j = 26 ∨ j = 27 ∨ j = 28 ∨ j = 29 ∨ j = 30) with rfl | rfl | rfl | rfl | rfl | rfl | rfl | rfl | rfl | rfl | rfl | rfl | rfl | rfl | rfl | rfl | rfl | rfl | rfl | rfl | rfl | rfl | rfl | rfl | rfl | rfl | rfl | rfl | rfl | rfl
  · (try rw [show ((2 : Int) ^ (1)) = 2 from rfl]); (try rw [show ((2 : Int) ^ (32 - 1)) = 2147483648 from rfl]); (try rw [show ((2 : Int) ^ (1 + 1)) = 4 from rfl]); (try rw [show ((2 : Int) ^ (32 - (1 + 1))) = 1073741824 from rfl])
    obtain ⟨u, c, l, ha, b1, b2, b3⟩ : ∃ u c l : Int, a = u * 4 + c * 2 + l ∧ (0 ≤ u ∧ u < 1073741824) ∧ (0 ≤ c ∧ c ≤ 1) ∧ (0 ≤ l ∧ l < 2) := ⟨a / 4, a / 2 % 2, a % 2, by omega, by omega, by omega, by omega⟩
    have e1 : a * 2147483648 % 4294967296 = l * 2147483648 := by omega
    have e2 : a / 2 = 2 * u + c := by omega
    have e3 : a * 1073741824 % 4294967296 = c * 2147483648 + l * 1073741824 := by omega
    have e4 : a / 4 = u := by omega
    rw [e1, e2, e3, e4]
    clear e1 e2 e3 e4 ha
    have e5 : (l * 2147483648 + (2 * u + c)) * 2147483648 % 4294967296 = c * 2147483648 := by omega
    have e6 : (l * 2147483648 + (2 * u + c)) / 2 = l * 1073741824 + u := by omega
    rw [e5, e6]
    clear e5 e6
    omega
  · (try rw [show ((2 : Int) ^ (2)) = 4 from rfl]); (try rw [show ((2 : Int) ^ (32 - 2)) = 1073741824 from rfl]); (try rw [show ((2 : Int) ^ (2 + 1)) = 8 from rfl]); (try rw [show ((2 : Int) ^ (32 - (2 + 1))) = 536870912 from rfl])
    obtain ⟨u, c, l, ha, b1, b2, b3⟩ : ∃ u c l : Int, a = u * 8 + c * 4 + l ∧ (0 ≤ u ∧ u < 536870912) ∧ (0 ≤ c ∧ c ≤ 1) ∧ (0 ≤ l ∧ l < 4) := ⟨a / 8, a / 4 % 2, a % 4, by omega, by omega, by omega, by omega⟩
    have e1 : a * 1073741824 % 4294967296 = l * 1073741824 := by omega
    have e2 : a / 4 = 2 * u + c := by omega
    have e3 : a * 536870912 % 4294967296 = c * 2147483648 + l * 536870912 := by omega
    have e4 : a / 8 = u := by omega
    rw [e1, e2, e3, e4]
    clear e1 e2 e3 e4 ha
    have e5 : (l * 1073741824 + (2 * u + c)) * 2147483648 % 4294967296 = c * 2147483648 := by omega
    have e6 : (l * 1073741824 + (2 * u + c)) / 2 = l * 536870912 + u := by omega
    rw [e5, e6]
    clear e5 e6
    omega
  · (try rw [show ((2 : Int) ^ (3)) = 8 from rfl]); (try rw [show ((2 : Int) ^ (32 - 3)) = 536870912 from rfl]); (try rw [show ((2 : Int) ^ (3 + 1)) = 16 from rfl]); (try rw [show ((2 : Int) ^ (32 - (3 + 1))) = 268435456 from rfl])
    obtain ⟨u, c, l, ha, b1, b2, b3⟩ : ∃ u c l : Int, a = u * 16 + c * 8 + l ∧ (0 ≤ u ∧ u < 268435456) ∧ (0 ≤ c ∧ c ≤ 1) ∧ (0 ≤ l ∧ l < 8) := ⟨a / 16, a / 8 % 2, a % 8, by omega, by omega, by omega, by omega⟩
    have e1 : a * 536870912 % 4294967296 = l * 536870912 := by omega
    have e2 : a / 8 = 2 * u + c := by omega
    have e3 : a * 268435456 % 4294967296 = c * 2147483648 + l * 268435456 := by omega
    have e4 : a / 16 = u := by omega
    rw [e1, e2, e3, e4]
    clear e1 e2 e3 e4 ha
    have e5 : (l * 536870912 + (2 * u + c)) * 2147483648 % 4294967296 = c * 2147483648 := by omega
    have e6 : (l * 536870912 + (2 * u + c)) / 2 = l * 268435456 + u := by omega
    rw [e5, e6]
    clear e5 e6
    omega
  · (try rw [show ((2 : Int) ^ (4)) = 16 from rfl]); (try rw [show ((2 : Int) ^ (32 - 4)) = 268435456 from rfl]); (try rw [show ((2 : Int) ^ (4 + 1)) = 32 from rfl]); (try rw [show ((2 : Int) ^ (32 - (4 + 1))) = 134217728 from rfl])
    obtain ⟨u, c, l, ha, b1, b2, b3⟩ : ∃ u c l : Int, a = u * 32 + c * 16 + l ∧ (0 ≤ u ∧ u < 134217728) ∧ (0 ≤ c ∧ c ≤ 1) ∧ (0 ≤ l ∧ l < 16) := ⟨a / 32, a / 16 % 2, a % 16, by omega, by omega, by omega, by omega⟩
    have e1 : a * 268435456 % 4294967296 = l * 268435456 := by omega
    have e2 : a / 16 = 2 * u + c := by omega
    have e3 : a * 134217728 % 4294967296 = c * 2147483648 + l * 134217728 := by omega
    have e4 : a / 32 = u := by omega
    rw [e1, e2, e3, e4]
    clear e1 e2 e3 e4 ha
    have e5 : (l * 268435456 + (2 * u + c)) * 2147483648 % 4294967296 = c * 2147483648 := by omega
    have e6 : (l * 268435456 + (2 * u + c)) / 2 = l * 134217728 + u := by omega
    rw [e5, e6]
    clear e5 e6
    omega
  · (try rw [show ((2 : Int) ^ (5)) = 32 from rfl]); (try rw [show ((2 : Int) ^ (32 - 5)) = 134217728 from rfl]); (try rw [show ((2 : Int) ^ (5 + 1)) = 64 from rfl]); (try rw [show ((2 : Int) ^ (32 - (5 + 1))) = 67108864 from rfl])
    obtain ⟨u, c, l, ha, b1, b2, b3⟩ : ∃ u c l : Int, a = u * 64 + c * 32 + l ∧ (0 ≤ u ∧ u < 67108864) ∧ (0 ≤ c ∧ c ≤ 1) ∧ (0 ≤ l ∧ l < 32) := ⟨a / 64, a / 32 % 2, a % 32, by omega, by omega, by omega, by omega⟩
    have e1 : a * 134217728 % 4294967296 = l * 134217728 := by omega
    have e2 : a / 32 = 2 * u + c := by omega
    have e3 : a * 67108864 % 4294967296 = c * 2147483648 + l * 67108864 := by omega
    have e4 : a / 64 = u := by omega
    rw [e1, e2, e3, e4]
    clear e1 e2 e3 e4 ha
    have e5 : (l * 134217728 + (2 * u + c)) * 2147483648 % 4294967296 = c * 2147483648 := by omega
    have e6 : (l * 134217728 + (2 * u + c)) / 2 = l * 67108864 + u := by omega
    rw [e5, e6]
    clear e5 e6
    omega
  · (try rw [show ((2 : Int) ^ (6)) = 64 from rfl]); (try rw [show ((2 : Int) ^ (32 - 6)) = 67108864 from rfl]); (try rw [show ((2 : Int) ^ (6 + 1)) = 128 from rfl]); (try rw [show ((2 : Int) ^ (32 - (6 + 1))) = 33554432 from rfl])
    obtain ⟨u, c, l, ha, b1, b2, b3⟩ : ∃ u c l : Int, a = u * 128 + c * 64 + l ∧ (0 ≤ u ∧ u < 33554432) ∧ (0 ≤ c ∧ c ≤ 1) ∧ (0 ≤ l ∧ l < 64) := ⟨a / 128, a / 64 % 2, a % 64, by omega, by omega, by omega, by omega⟩
    have e1 : a * 67108864 % 4294967296 = l * 67108864 := by omega
    have e2 : a / 64 = 2 * u + c := by omega
    have e3 : a * 33554432 % 4294967296 = c * 2147483648 + l * 33554432 := by omega
    have e4 : a / 128 = u := by omega
    rw [e1, e2, e3, e4]
    clear e1 e2 e3 e4 ha
    have e5 : (l * 67108864 + (2 * u + c)) * 2147483648 % 4294967296 = c * 2147483648 := by omega
    have e6 : (l * 67108864 + (2 * u + c)) / 2 = l * 33554432 + u := by omega
    rw [e5, e6]
    clear e5 e6
    omega
  · (try rw [show ((2 : Int) ^ (7)) = 128 from rfl]); (try rw [show ((2 : Int) ^ (32 - 7)) = 33554432 from rfl]); (try rw [show ((2 : Int) ^ (7 + 1)) = 256 from rfl]); (try rw [show ((2 : Int) ^ (32 - (7 + 1))) = 16777216 from rfl])
    obtain ⟨u, c, l, ha, b1, b2, b3⟩ : ∃ u c l : Int, a = u * 256 + c * 128 + l ∧ (0 ≤ u ∧ u < 16777216) ∧ (0 ≤ c ∧ c ≤ 1) ∧ (0 ≤ l ∧ l < 128) := ⟨a / 256, a / 128 % 2, a % 128, by omega, by omega, by omega, by omega⟩
    have e1 : a * 33554432 % 4294967296 = l * 33554432 := by omega
    have e2 : a / 128 = 2 * u + c := by omega
    have e3 : a * 16777216 % 4294967296 = c * 2147483648 + l * 16777216 := by omega
    have e4 : a / 256 = u := by omega
    rw [e1, e2, e3, e4]
    clear e1 e2 e3 e4 ha
    have e5 : (l * 33554432 + (2 * u + c)) * 2147483648 % 4294967296 = c * 2147483648 := by omega
    have e6 : (l * 33554432 + (2 * u + c)) / 2 = l * 16777216 + u := by omega
    rw [e5, e6]
    clear e5 e6
    omega
  · (try rw [show ((2 : Int) ^ (8)) = 256 from rfl]); (try rw [show ((2 : Int) ^ (32 - 8)) = 16777216 from rfl]); (try rw [show ((2 : Int) ^ (8 + 1)) = 512 from rfl]); (try rw [show ((2 : Int) ^ (32 - (8 + 1))) = 8388608 from rfl])
    obtain ⟨u, c, l, ha, b1, b2, b3⟩ : ∃ u c l : Int, a = u * 512 + c * 256 + l ∧ (0 ≤ u ∧ u < 8388608) ∧ (0 ≤ c ∧ c ≤ 1) ∧ (0 ≤ l ∧ l < 256) := ⟨a / 512, a / 256 % 2, a % 256, by omega, by omega, by omega, by omega⟩
    have e1 : a * 16777216 % 4294967296 = l * 16777216 := by omega
    have e2 : a / 256 = 2 * u + c := by omega
    have e3 : a * 8388608 % 4294967296 = c * 2147483648 + l * 8388608 := by omega
    have e4 : a / 512 = u := by omega
    rw [e1, e2, e3, e4]
    clear e1 e2 e3 e4 ha
    have e5 : (l * 16777216 + (2 * u + c)) * 2147483648 % 4294967296 = c * 2147483648 := by omega
    have e6 : (l * 16777216 + (2 * u + c)) / 2 = l * 8388608 + u := by omega
    rw [e5, e6]
    clear e5 e6
    omega
  · (try rw [show ((2 : Int) ^ (9)) = 512 from rfl]); (try rw [show ((2 : Int) ^ (32 - 9)) = 8388608 from rfl]); (try rw [show ((2 : Int) ^ (9 + 1)) = 1024 from rfl]); (try rw [show ((2 : Int) ^ (32 - (9 + 1))) = 4194304 from rfl])
    obtain ⟨u, c, l, ha, b1, b2, b3⟩ : ∃ u c l : Int, a = u * 1024 + c * 512 + l ∧ (0 ≤ u ∧ u < 4194304) ∧ (0 ≤ c ∧ c ≤ 1) ∧ (0 ≤ l ∧ l < 512) := ⟨a / 1024, a / 512 % 2, a % 512, by omega, by omega, by omega, by omega⟩
    have e1 : a * 8388608 % 4294967296 = l * 8388608 := by omega
    have e2 : a / 512 = 2 * u + c := by omega
    have e3 : a * 4194304 % 4294967296 = c * 2147483648 + l * 4194304 := by omega
    have e4 : a / 1024 = u := by omega
    rw [e1, e2, e3, e4]
    clear e1 e2 e3 e4 ha
    have e5 : (l * 8388608 + (2 * u + c)) * 2147483648 % 4294967296 = c * 2147483648 := by omega
    have e6 : (l * 8388608 + (2 * u + c)) / 2 = l * 4194304 + u := by omega
    rw [e5, e6]
    clear e5 e6
    omega
  · (try rw [show ((2 : Int) ^ (10)) = 1024 from rfl]); (try rw [show ((2 : Int) ^ (32 - 10)) = 4194304 from rfl]); (try rw [show ((2 : Int) ^ (10 + 1)) = 2048 from rfl]); (try rw [show ((2 : Int) ^ (32 - (10 + 1))) = 2097152 from rfl])
    obtain ⟨u, c, l, ha, b1, b2, b3⟩ : ∃ u c l : Int, a = u * 2048 + c * 1024 + l ∧ (0 ≤ u ∧ u < 2097152) ∧ (0 ≤ c ∧ c ≤ 1) ∧ (0 ≤ l ∧ l < 1024) := ⟨a / 2048, a / 1024 % 2, a % 1024, by omega, by omega, by omega, by omega⟩
    have e1 : a * 4194304 % 4294967296 = l * 4194304 := by omega
    have e2 : a / 1024 = 2 * u + c := by omega
    have e3 : a * 2097152 % 4294967296 = c * 2147483648 + l * 2097152 := by omega
    have e4 : a / 2048 = u := by omega
    rw [e1, e2, e3, e4]
    clear e1 e2 e3 e4 ha
    have e5 : (l * 4194304 + (2 * u + c)) * 2147483648 % 4294967296 = c * 2147483648 := by omega
    have e6 : (l * 4194304 + (2 * u + c)) / 2 = l * 2097152 + u := by omega
    rw [e5, e6]
    clear e5 e6
    omega
  · (try rw [show ((2 : Int) ^ (11)) = 2048 from rfl]); (try rw [show ((2 : Int) ^ (32 - 11)) = 2097152 from rfl]); (try rw [show ((2 : Int) ^ (11 + 1)) = 4096 from rfl]); (try rw [show ((2 : Int) ^ (32 - (11 + 1))) = 1048576 from rfl])
    obtain ⟨u, c, l, ha, b1, b2, b3⟩ : ∃ u c l : Int, a = u * 4096 + c * 2048 + l ∧ (0 ≤ u ∧ u < 1048576) ∧ (0 ≤ c ∧ c ≤ 1) ∧ (0 ≤ l ∧ l < 2048) := ⟨a / 4096, a / 2048 % 2, a % 2048, by omega, by omega, by omega, by omega⟩
    have e1 : a * 2097152 % 4294967296 = l * 2097152 := by omega
    have e2 : a / 2048 = 2 * u + c := by omega
    have e3 : a * 1048576 % 4294967296 = c * 2147483648 + l * 1048576 := by omega
    have e4 : a / 4096 = u := by omega
    rw [e1, e2, e3, e4]
    clear e1 e2 e3 e4 ha
    have e5 : (l * 2097152 + (2 * u + c)) * 2147483648 % 4294967296 = c * 2147483648 := by omega
    have e6 : (l * 2097152 + (2 * u + c)) / 2 = l * 1048576 + u := by omega
    rw [e5, e6]
    clear e5 e6
    omega
  · (try rw [show ((2 : Int) ^ (12)) = 4096 from rfl]); (try rw [show ((2 : Int) ^ (32 - 12)) = 1048576 from rfl]); (try rw [show ((2 : Int) ^ (12 + 1)) = 8192 from rfl]); (try rw [show ((2 : Int) ^ (32 - (12 + 1))) = 524288 from rfl])
    obtain ⟨u, c, l, ha, b1, b2, b3⟩ : ∃ u c l : Int, a = u * 8192 + c * 4096 + l ∧ (0 ≤ u ∧ u < 524288) ∧ (0 ≤ c ∧ c ≤ 1) ∧ (0 ≤ l ∧ l < 4096) := ⟨a / 8192, a / 4096 % 2, a % 4096, by omega, by omega, by omega, by omega⟩
    have e1 : a * 1048576 % 4294967296 = l * 1048576 := by omega
    have e2 : a / 4096 = 2 * u + c := by omega
    have e3 : a * 524288 % 4294967296 = c * 2147483648 + l * 524288 := by omega
    have e4 : a / 8192 = u := by omega
    rw [e1, e2, e3, e4]
    clear e1 e2 e3 e4 ha
    have e5 : (l * 1048576 + (2 * u + c)) * 2147483648 % 4294967296 = c * 2147483648 := by omega
    have e6 : (l * 1048576 + (2 * u + c)) / 2 = l * 524288 + u := by omega
    rw [e5, e6]
    clear e5 e6
    omega
  · (try rw [show ((2 : Int) ^ (13)) = 8192 from rfl]); (try rw [show ((2 : Int) ^ (32 - 13)) = 524288 from rfl]); (try rw [show ((2 : Int) ^ (13 + 1)) = 16384 from rfl]); (try rw [show ((2 : Int) ^ (32 - (13 + 1))) = 262144 from rfl])
    obtain ⟨u, c, l, ha, b1, b2, b3⟩ : ∃ u c l : Int, a = u * 16384 + c * 8192 + l ∧ (0 ≤ u ∧ u < 262144) ∧ (0 ≤ c ∧ c ≤ 1) ∧ (0 ≤ l ∧ l < 8192) := ⟨a / 16384, a / 8192 % 2, a % 8192, by omega, by omega, by omega, by omega⟩
    have e1 : a * 524288 % 4294967296 = l * 524288 := by omega
    have e2 : a / 8192 = 2 * u + c := by omega
    have e3 : a * 262144 % 4294967296 = c * 2147483648 + l * 262144 := by omega
    have e4 : a / 16384 = u := by omega
    rw [e1, e2, e3, e4]
    clear e1 e2 e3 e4 ha
    have e5 : (l * 524288 + (2 * u + c)) * 2147483648 % 4294967296 = c * 2147483648 := by omega
    have e6 : (l * 524288 + (2 * u + c)) / 2 = l * 262144 + u := by omega
    rw [e5, e6]
    clear e5 e6
    omega
  · (try rw [show ((2 : Int) ^ (14)) = 16384 from rfl]); (try rw [show ((2 : Int) ^ (32 - 14)) = 262144 from rfl]); (try rw [show ((2 : Int) ^ (14 + 1)) = 32768 from rfl]); (try rw [show ((2 : Int) ^ (32 - (14 + 1))) = 131072 from rfl])
    obtain ⟨u, c, l, ha, b1, b2, b3⟩ : ∃ u c l : Int, a = u * 32768 + c * 16384 + l ∧ (0 ≤ u ∧ u < 131072) ∧ (0 ≤ c ∧ c ≤ 1) ∧ (0 ≤ l ∧ l < 16384) := ⟨a / 32768, a / 16384 % 2, a % 16384, by omega, by omega, by omega, by omega⟩
    have e1 : a * 262144 % 4294967296 = l * 262144 := by omega
    have e2 : a / 16384 = 2 * u + c := by omega
    have e3 : a * 131072 % 4294967296 = c * 2147483648 + l * 131072 := by omega
    have e4 : a / 32768 = u := by omega
    rw [e1, e2, e3, e4]
    clear e1 e2 e3 e4 ha
    have e5 : (l * 262144 + (2 * u + c)) * 2147483648 % 4294967296 = c * 2147483648 := by omega
    have e6 : (l * 262144 + (2 * u + c)) / 2 = l * 131072 + u := by omega
    rw [e5, e6]
    clear e5 e6
    omega
  · (try rw [show ((2 : Int) ^ (15)) = 32768 from rfl]); (try rw [show ((2 : Int) ^ (32 - 15)) = 131072 from rfl]); (try rw [show ((2 : Int) ^ (15 + 1)) = 65536 from rfl]); (try rw [show ((2 : Int) ^ (32 - (15 + 1))) = 65536 from rfl])
    obtain ⟨u, c, l, ha, b1, b2, b3⟩ : ∃ u c l : Int, a = u * 65536 + c * 32768 + l ∧ (0 ≤ u ∧ u < 65536) ∧ (0 ≤ c ∧ c ≤ 1) ∧ (0 ≤ l ∧ l < 32768) := ⟨a / 65536, a / 32768 % 2, a % 32768, by omega, by omega, by omega, by omega⟩
    have e1 : a * 131072 % 4294967296 = l * 131072 := by omega
    have e2 : a / 32768 = 2 * u + c := by omega
    have e3 : a * 65536 % 4294967296 = c * 2147483648 + l * 65536 := by omega
    have e4 : a / 65536 = u := by omega
    rw [e1, e2, e3, e4]
    clear e1 e2 e3 e4 ha
    have e5 : (l * 131072 + (2 * u + c)) * 2147483648 % 4294967296 = c * 2147483648 := by omega
    have e6 : (l * 131072 + (2 * u + c)) / 2 = l * 65536 + u := by omega
    rw [e5, e6]
    clear e5 e6
    omega
  · (try rw [show ((2 : Int) ^ (16)) = 65536 from rfl]); (try rw [show ((2 : Int) ^ (32 - 16)) = 65536 from rfl]); (try rw [show ((2 : Int) ^ (16 + 1)) = 131072 from rfl]); (try rw [show ((2 : Int) ^ (32 - (16 + 1))) = 32768 from rfl])
    obtain ⟨u, c, l, ha, b1, b2, b3⟩ : ∃ u c l : Int, a = u * 131072 + c * 65536 + l ∧ (0 ≤ u ∧ u < 32768) ∧ (0 ≤ c ∧ c ≤ 1) ∧ (0 ≤ l ∧ l < 65536) := ⟨a / 131072, a / 65536 % 2, a % 65536, by omega, by omega, by omega, by omega⟩
    have e1 : a * 65536 % 4294967296 = l * 65536 := by omega
    have e2 : a / 65536 = 2 * u + c := by omega
    have e3 : a * 32768 % 4294967296 = c * 2147483648 + l * 32768 := by omega
    have e4 : a / 131072 = u := by omega
    rw [e1, e2, e3, e4]
    clear e1 e2 e3 e4 ha
    have e5 : (l * 65536 + (2 * u + c)) * 2147483648 % 4294967296 = c * 2147483648 := by omega
    have e6 : (l * 65536 + (2 * u + c)) / 2 = l * 32768 + u := by omega
    rw [e5, e6]
    clear e5 e6
    omega
  · (try rw [show ((2 : Int) ^ (17)) = 131072 from rfl]); (try rw [show ((2 : Int) ^ (32 - 17)) = 32768 from rfl]); (try rw [show ((2 : Int) ^ (17 + 1)) = 262144 from rfl]); (try rw [show ((2 : Int) ^ (32 - (17 + 1))) = 16384 from rfl])
    obtain ⟨u, c, l, ha, b1, b2, b3⟩ : ∃ u c l : Int, a = u * 262144 + c * 131072 + l ∧ (0 ≤ u ∧ u < 16384) ∧ (0 ≤ c ∧ c ≤ 1) ∧ (0 ≤ l ∧ l < 131072) := ⟨a / 262144, a / 131072 % 2, a % 131072, by omega, by omega, by omega, by omega⟩
    have e1 : a * 32768 % 4294967296 = l * 32768 := by omega
    have e2 : a / 131072 = 2 * u + c := by omega
    have e3 : a * 16384 % 4294967296 = c * 2147483648 + l * 16384 := by omega
    have e4 : a / 262144 = u := by omega
    rw [e1, e2, e3, e4]
    clear e1 e2 e3 e4 ha
    have e5 : (l * 32768 + (2 * u + c)) * 2147483648 % 4294967296 = c * 2147483648 := by omega
    have e6 : (l * 32768 + (2 * u + c)) / 2 = l * 16384 + u := by omega
    rw [e5, e6]
    clear e5 e6
    omega
  · (try rw [show ((2 : Int) ^ (18)) = 262144 from rfl]); (try rw [show ((2 : Int) ^ (32 - 18)) = 16384 from rfl]); (try rw [show ((2 : Int) ^ (18 + 1)) = 524288 from rfl]); (try rw [show ((2 : Int) ^ (32 - (18 + 1))) = 8192 from rfl])
    obtain ⟨u, c, l, ha, b1, b2, b3⟩ : ∃ u c l : Int, a = u * 524288 + c * 262144 + l ∧ (0 ≤ u ∧ u < 8192) ∧ (0 ≤ c ∧ c ≤ 1) ∧ (0 ≤ l ∧ l < 262144) := ⟨a / 524288, a / 262144 % 2, a % 262144, by omega, by omega, by omega, by omega⟩
    have e1 : a * 16384 % 4294967296 = l * 16384 := by omega
    have e2 : a / 262144 = 2 * u + c := by omega
    have e3 : a * 8192 % 4294967296 = c * 2147483648 + l * 8192 := by omega
    have e4 : a / 524288 = u := by omega
    rw [e1, e2, e3, e4]
    clear e1 e2 e3 e4 ha
    have e5 : (l * 16384 + (2 * u + c)) * 2147483648 % 4294967296 = c * 2147483648 := by omega
    have e6 : (l * 16384 + (2 * u + c)) / 2 = l * 8192 + u := by omega
    rw [e5, e6]
    clear e5 e6
    omega
  · (try rw [show ((2 : Int) ^ (19)) = 524288 from rfl]); (try rw [show ((2 : Int) ^ (32 - 19)) = 8192 from rfl]); (try rw [show ((2 : Int) ^ (19 + 1)) = 1048576 from rfl]); (try rw [show ((2 : Int) ^ (32 - (19 + 1))) = 4096 from rfl])
    obtain ⟨u, c, l, ha, b1, b2, b3⟩ : ∃ u c l : Int, a = u * 1048576 + c * 524288 + l ∧ (0 ≤ u ∧ u < 4096) ∧ (0 ≤ c ∧ c ≤ 1) ∧ (0 ≤ l ∧ l < 524288) := ⟨a / 1048576, a / 524288 % 2, a % 524288, by omega, by omega, by omega, by omega⟩
    have e1 : a * 8192 % 4294967296 = l * 8192 := by omega
    have e2 : a / 524288 = 2 * u + c := by omega
    have e3 : a * 4096 % 4294967296 = c * 2147483648 + l * 4096 := by omega
    have e4 : a / 1048576 = u := by omega
    rw [e1, e2, e3, e4]
    clear e1 e2 e3 e4 ha
    have e5 : (l * 8192 + (2 * u + c)) * 2147483648 % 4294967296 = c * 2147483648 := by omega
    have e6 : (l * 8192 + (2 * u + c)) / 2 = l * 4096 + u := by omega
    rw [e5, e6]
    clear e5 e6
    omega
  · (try rw [show ((2 : Int) ^ (20)) = 1048576 from rfl]); (try rw [show ((2 : Int) ^ (32 - 20)) = 4096 from rfl]); (try rw [show ((2 : Int) ^ (20 + 1)) = 2097152 from rfl]); (try rw [show ((2 : Int) ^ (32 - (20 + 1))) = 2048 from rfl])
    obtain ⟨u, c, l, ha, b1, b2, b3⟩ : ∃ u c l : Int, a = u * 2097152 + c * 1048576 + l ∧ (0 ≤ u ∧ u < 2048) ∧ (0 ≤ c ∧ c ≤ 1) ∧ (0 ≤ l ∧ l < 1048576) := ⟨a / 2097152, a / 1048576 % 2, a % 1048576, by omega, by omega, by omega, by omega⟩
    have e1 : a * 4096 % 4294967296 = l * 4096 := by omega
    have e2 : a / 1048576 = 2 * u + c := by omega
    have e3 : a * 2048 % 4294967296 = c * 2147483648 + l * 2048 := by omega
    have e4 : a / 2097152 = u := by omega
    rw [e1, e2, e3, e4]
    clear e1 e2 e3 e4 ha
    have e5 : (l * 4096 + (2 * u + c)) * 2147483648 % 4294967296 = c * 2147483648 := by omega
    have e6 : (l * 4096 + (2 * u + c)) / 2 = l * 2048 + u := by omega
    rw [e5, e6]
    clear e5 e6
    omega
  · (try rw [show ((2 : Int) ^ (21)) = 2097152 from rfl]); (try rw [show ((2 : Int) ^ (32 - 21)) = 2048 from rfl]); (try rw [show ((2 : Int) ^ (21 + 1)) = 4194304 from rfl]); (try rw [show ((2 : Int) ^ (32 - (21 + 1))) = 1024 from rfl])
    obtain ⟨u, c, l, ha, b1, b2, b3⟩ : ∃ u c l : Int, a = u * 4194304 + c * 2097152 + l ∧ (0 ≤ u ∧ u < 1024) ∧ (0 ≤ c ∧ c ≤ 1) ∧ (0 ≤ l ∧ l < 2097152) := ⟨a / 4194304, a / 2097152 % 2, a % 2097152, by omega, by omega, by omega, by omega⟩
    have e1 : a * 2048 % 4294967296 = l * 2048 := by omega
    have e2 : a / 2097152 = 2 * u + c := by omega
    have e3 : a * 1024 % 4294967296 = c * 2147483648 + l * 1024 := by omega
    have e4 : a / 4194304 = u := by omega
    rw [e1, e2, e3, e4]
    clear e1 e2 e3 e4 ha
    have e5 : (l * 2048 + (2 * u + c)) * 2147483648 % 4294967296 = c * 2147483648 := by omega
    have e6 : (l * 2048 + (2 * u + c)) / 2 = l * 1024 + u := by omega
    rw [e5, e6]
    clear e5 e6
    omega
  · (try rw [show ((2 : Int) ^ (22)) = 4194304 from rfl]); (try rw [show ((2 : Int) ^ (32 - 22)) = 1024 from rfl]); (try rw [show ((2 : Int) ^ (22 + 1)) = 8388608 from rfl]); (try rw [show ((2 : Int) ^ (32 - (22 + 1))) = 512 from rfl])
    obtain ⟨u, c, l, ha, b1, b2, b3⟩ : ∃ u c l : Int, a = u * 8388608 + c * 4194304 + l ∧ (0 ≤ u ∧ u < 512) ∧ (0 ≤ c ∧ c ≤ 1) ∧ (0 ≤ l ∧ l < 4194304) := ⟨a / 8388608, a / 4194304 % 2, a % 4194304, by omega, by omega, by omega, by omega⟩
    have e1 : a * 1024 % 4294967296 = l * 1024 := by omega
    have e2 : a / 4194304 = 2 * u + c := by omega
    have e3 : a * 512 % 4294967296 = c * 2147483648 + l * 512 := by omega
    have e4 : a / 8388608 = u := by omega
    rw [e1, e2, e3, e4]
    clear e1 e2 e3 e4 ha
    have e5 : (l * 1024 + (2 * u + c)) * 2147483648 % 4294967296 = c * 2147483648 := by omega
    have e6 : (l * 1024 + (2 * u + c)) / 2 = l * 512 + u := by omega
    rw [e5, e6]
    clear e5 e6
    omega
  · (try rw [show ((2 : Int) ^ (23)) = 8388608 from rfl]); (try rw [show ((2 : Int) ^ (32 - 23)) = 512 from rfl]); (try rw [show ((2 : Int) ^ (23 + 1)) = 16777216 from rfl]); (try rw [show ((2 : Int) ^ (32 - (23 + 1))) = 256 from rfl])
    obtain ⟨u, c, l, ha, b1, b2, b3⟩ : ∃ u c l : Int, a = u * 16777216 + c * 8388608 + l ∧ (0 ≤ u ∧ u < 256) ∧ (0 ≤ c ∧ c ≤ 1) ∧ (0 ≤ l ∧ l < 8388608) := ⟨a / 16777216, a / 8388608 % 2, a % 8388608, by omega, by omega, by omega, by omega⟩
    have e1 : a * 512 % 4294967296 = l * 512 := by omega
    have e2 : a / 8388608 = 2 * u + c := by omega
    have e3 : a * 256 % 4294967296 = c * 2147483648 + l * 256 := by omega
    have e4 : a / 16777216 = u := by omega
    rw [e1, e2, e3, e4]
    clear e1 e2 e3 e4 ha
    have e5 : (l * 512 + (2 * u + c)) * 2147483648 % 4294967296 = c * 2147483648 := by omega
    have e6 : (l * 512 + (2 * u + c)) / 2 = l * 256 + u := by omega
    rw [e5, e6]
    clear e5 e6
    omega
  · (try rw [show ((2 : Int) ^ (24)) = 16777216 from rfl]); (try rw [show ((2 : Int) ^ (32 - 24)) = 256 from rfl]); (try rw [show ((2 : Int) ^ (24 + 1)) = 33554432 from rfl]); (try rw [show ((2 : Int) ^ (32 - (24 + 1))) = 128 from rfl])
    obtain ⟨u, c, l, ha, b1, b2, b3⟩ : ∃ u c l : Int, a = u * 33554432 + c * 16777216 + l ∧ (0 ≤ u ∧ u < 128) ∧ (0 ≤ c ∧ c ≤ 1) ∧ (0 ≤ l ∧ l < 16777216) := ⟨a / 33554432, a / 16777216 % 2, a % 16777216, by omega, by omega, by omega, by omega⟩
    have e1 : a * 256 % 4294967296 = l * 256 := by omega
    have e2 : a / 16777216 = 2 * u + c := by omega
    have e3 : a * 128 % 4294967296 = c * 2147483648 + l * 128 := by omega
    have e4 : a / 33554432 = u := by omega
    rw [e1, e2, e3, e4]
    clear e1 e2 e3 e4 ha
    have e5 : (l * 256 + (2 * u + c)) * 2147483648 % 4294967296 = c * 2147483648 := by omega
    have e6 : (l * 256 + (2 * u + c)) / 2 = l * 128 + u := by omega
    rw [e5, e6]
    clear e5 e6
    omega
  · (try rw [show ((2 : Int) ^ (25)) = 33554432 from rfl]); (try rw [show ((2 : Int) ^ (32 - 25)) = 128 from rfl]); (try rw [show ((2 : Int) ^ (25 + 1)) = 67108864 from rfl]); (try rw [show ((2 : Int) ^ (32 - (25 + 1))) = 64 from rfl])
    obtain ⟨u, c, l, ha, b1, b2, b3⟩ : ∃ u c l : Int, a = u * 67108864 + c * 33554432 + l ∧ (0 ≤ u ∧ u < 64) ∧ (0 ≤ c ∧ c ≤ 1) ∧ (0 ≤ l ∧ l < 33554432) := ⟨a / 67108864, a / 33554432 % 2, a % 33554432, by omega, by omega, by omega, by omega⟩
    have e1 : a * 128 % 4294967296 = l * 128 := by omega
    have e2 : a / 33554432 = 2 * u + c := by omega
    have e3 : a * 64 % 4294967296 = c * 2147483648 + l * 64 := by omega
    have e4 : a / 67108864 = u := by omega
    rw [e1, e2, e3, e4]
    clear e1 e2 e3 e4 ha
    have e5 : (l * 128 + (2 * u + c)) * 2147483648 % 4294967296 = c * 2147483648 := by omega
    have e6 : (l * 128 + (2 * u + c)) / 2 = l * 64 + u := by omega
    rw [e5, e6]
    clear e5 e6
    omega
  · (try rw [show ((2 : Int) ^ (26)) = 67108864 from rfl]); (try rw [show ((2 : Int) ^ (32 - 26)) = 64 from rfl]); (try rw [show ((2 : Int) ^ (26 + 1)) = 134217728 from rfl]); (try rw [show ((2 : Int) ^ (32 - (26 + 1))) = 32 from rfl])
    obtain ⟨u, c, l, ha, b1, b2, b3⟩ : ∃ u c l : Int, a = u * 134217728 + c * 67108864 + l ∧ (0 ≤ u ∧ u < 32) ∧ (0 ≤ c ∧ c ≤ 1) ∧ (0 ≤ l ∧ l < 67108864) := ⟨a / 134217728, a / 67108864 % 2, a % 67108864, by omega, by omega, by omega, by omega⟩
    have e1 : a * 64 % 4294967296 = l * 64 := by omega
    have e2 : a / 67108864 = 2 * u + c := by omega
    have e3 : a * 32 % 4294967296 = c * 2147483648 + l * 32 := by omega
    have e4 : a / 134217728 = u := by omega
    rw [e1, e2, e3, e4]
    clear e1 e2 e3 e4 ha
    have e5 : (l * 64 + (2 * u + c)) * 2147483648 % 4294967296 = c * 2147483648 := by omega
    have e6 : (l * 64 + (2 * u + c)) / 2 = l * 32 + u := by omega
    rw [e5, e6]
    clear e5 e6
    omega
  · (try rw [show ((2 : Int) ^ (27)) = 134217728 from rfl]); (try rw [show ((2 : Int) ^ (32 - 27)) = 32 from rfl]); (try rw [show ((2 : Int) ^ (27 + 1)) = 268435456 from rfl]); (try rw [show ((2 : Int) ^ (32 - (27 + 1))) = 16 from rfl])
    obtain ⟨u, c, l, ha, b1, b2, b3⟩ : ∃ u c l : Int, a = u * 268435456 + c * 134217728 + l ∧ (0 ≤ u ∧ u < 16) ∧ (0 ≤ c ∧ c ≤ 1) ∧ (0 ≤ l ∧ l < 134217728) := ⟨a / 268435456, a / 134217728 % 2, a % 134217728, by omega, by omega, by omega, by omega⟩
    have e1 : a * 32 % 4294967296 = l * 32 := by omega
    have e2 : a / 134217728 = 2 * u + c := by omega
    have e3 : a * 16 % 4294967296 = c * 2147483648 + l * 16 := by omega
    have e4 : a / 268435456 = u := by omega
    rw [e1, e2, e3, e4]
    clear e1 e2 e3 e4 ha
    have e5 : (l * 32 + (2 * u + c)) * 2147483648 % 4294967296 = c * 2147483648 := by omega
    have e6 : (l * 32 + (2 * u + c)) / 2 = l * 16 + u := by omega
    rw [e5, e6]
    clear e5 e6
    omega
  · (try rw [show ((2 : Int) ^ (28)) = 268435456 from rfl]); (try rw [show ((2 : Int) ^ (32 - 28)) = 16 from rfl]); (try rw [show ((2 : Int) ^ (28 + 1)) = 536870912 from rfl]); (try rw [show ((2 : Int) ^ (32 - (28 + 1))) = 8 from rfl])
    obtain ⟨u, c, l, ha, b1, b2, b3⟩ : ∃ u c l : Int, a = u * 536870912 + c * 268435456 + l ∧ (0 ≤ u ∧ u < 8) ∧ (0 ≤ c ∧ c ≤ 1) ∧ (0 ≤ l ∧ l < 268435456) := ⟨a / 536870912, a / 268435456 % 2, a % 268435456, by omega, by omega, by omega, by omega⟩
    have e1 : a * 16 % 4294967296 = l * 16 := by omega
    have e2 : a / 268435456 = 2 * u + c := by omega
    have e3 : a * 8 % 4294967296 = c * 2147483648 + l * 8 := by omega
    have e4 : a / 536870912 = u := by omega
    rw [e1, e2, e3, e4]
    clear e1 e2 e3 e4 ha
    have e5 : (l * 16 + (2 * u + c)) * 2147483648 % 4294967296 = c * 2147483648 := by omega
    have e6 : (l * 16 + (2 * u + c)) / 2 = l * 8 + u := by omega
    rw [e5, e6]
    clear e5 e6
    omega
  · (try rw [show ((2 : Int) ^ (29)) = 536870912 from rfl]); (try rw [show ((2 : Int) ^ (32 - 29)) = 8 from rfl]); (try rw [show ((2 : Int) ^ (29 + 1)) = 1073741824 from rfl]); (try rw [show ((2 : Int) ^ (32 - (29 + 1))) = 4 from rfl])
    obtain ⟨u, c, l, ha, b1, b2, b3⟩ : ∃ u c l : Int, a = u * 1073741824 + c * 536870912 + l ∧ (0 ≤ u ∧ u < 4) ∧ (0 ≤ c ∧ c ≤ 1) ∧ (0 ≤ l ∧ l < 536870912) := ⟨a / 1073741824, a / 536870912 % 2, a % 536870912, by omega, by omega, by omega, by omega⟩
    have e1 : a * 8 % 4294967296 = l * 8 := by omega
    have e2 : a / 536870912 = 2 * u + c := by omega
    have e3 : a * 4 % 4294967296 = c * 2147483648 + l * 4 := by omega
    have e4 : a / 1073741824 = u := by omega
    rw [e1, e2, e3, e4]
    clear e1 e2 e3 e4 ha
    have e5 : (l * 8 + (2 * u + c)) * 2147483648 % 4294967296 = c * 2147483648 := by omega
    have e6 : (l * 8 + (2 * u + c)) / 2 = l * 4 + u := by omega
    rw [e5, e6]
    clear e5 e6
    omega
  · (try rw [show ((2 : Int) ^ (30)) = 1073741824 from rfl]); (try rw [show ((2 : Int) ^ (32 - 30)) = 4 from rfl]); (try rw [show ((2 : Int) ^ (30 + 1)) = 2147483648 from rfl]); (try rw [show ((2 : Int) ^ (32 - (30 + 1))) = 2 from rfl])
    obtain ⟨u, c, l, ha, b1, b2, b3⟩ : ∃ u c l : Int, a = u * 2147483648 + c * 1073741824 + l ∧ (0 ≤ u ∧ u < 2) ∧ (0 ≤ c ∧ c ≤ 1) ∧ (0 ≤ l ∧ l < 1073741824) := ⟨a / 2147483648, a / 1073741824 % 2, a % 1073741824, by omega, by omega, by omega, by omega⟩
    have e1 : a * 4 % 4294967296 = l * 4 := by omega
    have e2 : a / 1073741824 = 2 * u + c := by omega
    have e3 : a * 2 % 4294967296 = c * 2147483648 + l * 2 := by omega
    have e4 : a / 2147483648 = u := by omega
    rw [e1, e2, e3, e4]
    clear e1 e2 e3 e4 ha
    have e5 : (l * 4 + (2 * u + c)) * 2147483648 % 4294967296 = c * 2147483648 := by omega
    have e6 : (l * 4 + (2 * u + c)) / 2 = l * 2 + u := by omega
    rw [e5, e6]
    clear e5 e6
    omega
set_option maxHeartbeats 4000000 in
theorem ror_bit (a : Int) (h : 0 ≤ a ∧ a ≤ 4294967295) (j : Nat) (hj : 1 ≤ j ∧ j ≤ 30) :
    (a * 2 ^ (32 - j) % 4294967296 + a / 2 ^ j) % 2 = a / 2 ^ j % 2 := by
  rcases (by omega : j = 1 ∨ j = 2 ∨ j = 3 ∨ j = 4 ∨ j = 5 ∨ j = 6 ∨ j = 7 ∨ j = 8 ∨ j = 9 ∨ j = 10 ∨ j = 11 ∨ j = 12 ∨ j = 13 ∨ j = 14 ∨ j = 15 ∨ j = 16 ∨ j = 17 ∨ j = 18 ∨ j = 19 ∨ j = 20 ∨ j = 21 ∨ j = 22 ∨ j = 23 ∨ j = 24 ∨ j = 25 ∨ j = 26 ∨ j = 27 ∨ j = 28 ∨ j = 29 ∨ j = 30) with rfl | rfl | rfl | rfl | rfl | rfl | rfl | rfl | rfl | rfl | rfl | rfl | rfl | rfl | rfl | rfl | rfl | rfl | rfl | rfl | rfl | rfl | rfl | rfl | rfl | rfl | rfl | rfl | rfl | rfl
  · (try rw [show ((2 : Int) ^ (1)) = 2 from rfl]); (try rw [show ((2 : Int) ^ (32 - 1)) = 2147483648 from rfl])
    obtain ⟨u, c, l, ha, b1, b2, b3⟩ : ∃ u c l : Int, a = u * 4 + c * 2 + l ∧ (0 ≤ u ∧ u < 1073741824) ∧ (0 ≤ c ∧ c ≤ 1) ∧ (0 ≤ l ∧ l < 2) := ⟨a / 4, a / 2 % 2, a % 2, by omega, by omega, by omega, by omega⟩
    have e1 : a * 2147483648 % 4294967296 = l * 2147483648 := by omega
    have e2 : a / 2 = 2 * u + c := by omega
    have e3 : a * 1073741824 % 4294967296 = c * 2147483648 + l * 1073741824 := by omega
    have e4 : a / 4 = u := by omega
    rw [e1, e2]
    clear e1 e2 e3 e4 ha
    omega
  · (try rw [show ((2 : Int) ^ (2)) = 4 from rfl]); (try rw [show ((2 : Int) ^ (32 - 2)) = 1073741824 from rfl])
    obtain ⟨u, c, l, ha, b1, b2, b3⟩ : ∃ u c l : Int, a = u * 8 + c * 4 + l ∧ (0 ≤ u ∧ u < 536870912) ∧ (0 ≤ c ∧ c ≤ 1) ∧ (0 ≤ l ∧ l < 4) := ⟨a / 8, a / 4 % 2, a % 4, by omega, by omega, by omega, by omega⟩
    have e1 : a * 1073741824 % 4294967296 = l * 1073741824 := by omega
    have e2 : a / 4 = 2 * u + c := by omega
    have e3 : a * 536870912 % 4294967296 = c * 2147483648 + l * 536870912 := by omega
    have e4 : a / 8 = u := by omega
    rw [e1, e2]
    clear e1 e2 e3 e4 ha
    omega
  · (try rw [show ((2 : Int) ^ (3)) = 8 from rfl]); (try rw [show ((2 : Int) ^ (32 - 3)) = 536870912 from rfl])
    obtain ⟨u, c, l, ha, b1, b2, b3⟩ : ∃ u c l : Int, a = u * 16 + c * 8 + l ∧ (0 ≤ u ∧ u < 268435456) ∧ (0 ≤ c ∧ c ≤ 1) ∧ (0 ≤ l ∧ l < 8) := ⟨a / 16, a / 8 % 2, a % 8, by omega, by omega, by omega, by omega⟩
    have e1 : a * 536870912 % 4294967296 = l * 536870912 := by omega
    have e2 : a / 8 = 2 * u + c := by omega
    have e3 : a * 268435456 % 4294967296 = c * 2147483648 + l * 268435456 := by omega
    have e4 : a / 16 = u := by omega
    rw [e1, e2]
    clear e1 e2 e3 e4 ha
    omega
  · (try rw [show ((2 : Int) ^ (4)) = 16 from rfl]); (try rw [show ((2 : Int) ^ (32 - 4)) = 268435456 from rfl])
    obtain ⟨u, c, l, ha, b1, b2, b3⟩ : ∃ u c l : Int, a = u * 32 + c * 16 + l ∧ (0 ≤ u ∧ u < 134217728) ∧ (0 ≤ c ∧ c ≤ 1) ∧ (0 ≤ l ∧ l < 16) := ⟨a / 32, a / 16 % 2, a % 16, by omega, by omega, by omega, by omega⟩
    have e1 : a * 268435456 % 4294967296 = l * 268435456 := by omega
    have e2 : a / 16 = 2 * u + c := by omega
    have e3 : a * 134217728 % 4294967296 = c * 2147483648 + l * 134217728 := by omega
    have e4 : a / 32 = u := by omega
    rw [e1, e2]
    clear e1 e2 e3 e4 ha
    omega
  · (try rw [show ((2 : Int) ^ (5)) = 32 from rfl]); (try rw [show ((2 : Int) ^ (32 - 5)) = 134217728 from rfl])
    obtain ⟨u, c, l, ha, b1, b2, b3⟩ : ∃ u c l : Int, a = u * 64 + c * 32 + l ∧ (0 ≤ u ∧ u < 67108864) ∧ (0 ≤ c ∧ c ≤ 1) ∧ (0 ≤ l ∧ l < 32) := ⟨a / 64, a / 32 % 2, a % 32, by omega, by omega, by omega, by omega⟩
    have e1 : a * 134217728 % 4294967296 = l * 134217728 := by omega
    have e2 : a / 32 = 2 * u + c := by omega
    have e3 : a * 67108864 % 4294967296 = c * 2147483648 + l * 67108864 := by omega
    have e4 : a / 64 = u := by omega
    rw [e1, e2]
    clear e1 e2 e3 e4 ha
    omega
  · (try rw [show ((2 : Int) ^ (6)) = 64 from rfl]); (try rw [show ((2 : Int) ^ (32 - 6)) = 67108864 from rfl])
    obtain ⟨u, c, l, ha, b1, b2, b3⟩ : ∃ u c l : Int, a = u * 128 + c * 64 + l ∧ (0 ≤ u ∧ u < 33554432) ∧ (0 ≤ c ∧ c ≤ 1) ∧ (0 ≤ l ∧ l < 64) := ⟨a / 128, a / 64 % 2, a % 64, by omega, by omega, by omega, by omega⟩
    have e1 : a * 67108864 % 4294967296 = l * 67108864 := by omega
    have e2 : a / 64 = 2 * u + c := by omega
    have e3 : a * 33554432 % 4294967296 = c * 2147483648 + l * 33554432 := by omega
    have e4 : a / 128 = u := by omega
    rw [e1, e2]
    clear e1 e2 e3 e4 ha
    omega
  · (try rw [show ((2 : Int) ^ (7)) = 128 from rfl]); (try rw [show ((2 : Int) ^ (32 - 7)) = 33554432 from rfl])
    obtain ⟨u, c, l, ha, b1, b2, b3⟩ : ∃ u c l : Int, a = u * 256 + c * 128 + l ∧ (0 ≤ u ∧ u < 16777216) ∧ (0 ≤ c ∧ c ≤ 1) ∧ (0 ≤ l ∧ l < 128) := ⟨a / 256, a / 128 % 2, a % 128, by omega, by omega, by omega, by omega⟩
    have e1 : a * 33554432 % 4294967296 = l * 33554432 := by omega
    have e2 : a / 128 = 2 * u + c := by omega
    have e3 : a * 16777216 % 4294967296 = c * 2147483648 + l * 16777216 := by omega
    have e4 : a / 256 = u := by omega
    rw [e1, e2]
    clear e1 e2 e3 e4 ha
    omega
  · (try rw [show ((2 : Int) ^ (8)) = 256 from rfl]); (try rw [show ((2 : Int) ^ (32 - 8)) = 16777216 from rfl])
    obtain ⟨u, c, l, ha, b1, b2, b3⟩ : ∃ u c l : Int, a = u * 512 + c * 256 + l ∧ (0 ≤ u ∧ u < 8388608) ∧ (0 ≤ c ∧ c ≤ 1) ∧ (0 ≤ l ∧ l < 256) := ⟨a / 512, a / 256 % 2, a % 256, by omega, by omega, by omega, by omega⟩
    have e1 : a * 16777216 % 4294967296 = l * 16777216 := by omega
    have e2 : a / 256 = 2 * u + c := by omega
    have e3 : a * 8388608 % 4294967296 = c * 2147483648 + l * 8388608 := by omega
    have e4 : a / 512 = u := by omega
    rw [e1, e2]
    clear e1 e2 e3 e4 ha
    omega
  · (try rw [show ((2 : Int) ^ (9)) = 512 from rfl]); (try rw [show ((2 : Int) ^ (32 - 9)) = 8388608 from rfl])
    obtain ⟨u, c, l, ha, b1, b2, b3⟩ : ∃ u c l : Int, a = u * 1024 + c * 512 + l ∧ (0 ≤ u ∧ u < 4194304) ∧ (0 ≤ c ∧ c ≤ 1) ∧ (0 ≤ l ∧ l < 512) := ⟨a / 1024, a / 512 % 2, a % 512, by omega, by omega, by omega, by omega⟩
    have e1 : a * 8388608 % 4294967296 = l * 8388608 := by omega
    have e2 : a / 512 = 2 * u + c := by omega
    have e3 : a * 4194304 % 4294967296 = c * 2147483648 + l * 4194304 := by omega
    have e4 : a / 1024 = u := by omega
    rw [e1, e2]
    clear e1 e2 e3 e4 ha
    omega
  · (try rw [show ((2 : Int) ^ (10)) = 1024 from rfl]); (try rw [show ((2 : Int) ^ (32 - 10)) = 4194304 from rfl])
    obtain ⟨u, c, l, ha, b1, b2, b3⟩ : ∃ u c l : Int, a = u * 2048 + c * 1024 + l ∧ (0 ≤ u ∧ u < 2097152) ∧ (0 ≤ c ∧ c ≤ 1) ∧ (0 ≤ l ∧ l < 1024) := ⟨a / 2048, a / 1024 % 2, a % 1024, by omega, by omega, by omega, by omega⟩
    have e1 : a * 4194304 % 4294967296 = l * 4194304 := by omega
    have e2 : a / 1024 = 2 * u + c := by omega
    have e3 : a * 2097152 % 4294967296 = c * 2147483648 + l * 2097152 := by omega
    have e4 : a / 2048 = u := by omega
    rw [e1, e2]
    clear e1 e2 e3 e4 ha
    omega
  · (try rw [show ((2 : Int) ^ (11)) = 2048 from rfl]); (try rw [show ((2 : Int) ^ (32 - 11)) = 2097152 from rfl])
    obtain ⟨u, c, l, ha, b1, b2, b3⟩ : ∃ u c l : Int, a = u * 4096 + c * 2048 + l ∧ (0 ≤ u ∧ u < 1048576) ∧ (0 ≤ c ∧ c ≤ 1) ∧ (0 ≤ l ∧ l < 2048) := ⟨a / 4096, a / 2048 % 2, a % 2048, by omega, by omega, by omega, by omega⟩
    have e1 : a * 2097152 % 4294967296 = l * 2097152 := by omega
    have e2 : a / 2048 = 2 * u + c := by omega
    have e3 : a * 1048576 % 4294967296 = c * 2147483648 + l * 1048576 := by omega
    have e4 : a / 4096 = u := by omega
    rw [e1, e2]
    clear e1 e2 e3 e4 ha
    omega
  · (try rw [show ((2 : Int) ^ (12)) = 4096 from rfl]); (try rw [show ((2 : Int) ^ (32 - 12)) = 1048576 from rfl])
    obtain ⟨u, c, l, ha, b1, b2, b3⟩ : ∃ u c l : Int, a = u * 8192 + c * 4096 + l ∧ (0 ≤ u ∧ u < 524288) ∧ (0 ≤ c ∧ c ≤ 1) ∧ (0 ≤ l ∧ l < 4096) := ⟨a / 8192, a / 4096 % 2, a % 4096, by omega, by omega, by omega, by omega⟩
    have e1 : a * 1048576 % 4294967296 = l * 1048576 := by omega
    have e2 : a / 4096 = 2 * u + c := by omega
    have e3 : a * 524288 % 4294967296 = c * 2147483648 + l * 524288 := by omega
    have e4 : a / 8192 = u := by omega
    rw [e1, e2]
    clear e1 e2 e3 e4 ha
    omega
  · (try rw [show ((2 : Int) ^ (13)) = 8192 from rfl]); (try rw [show ((2 : Int) ^ (32 - 13)) = 524288 from rfl])
    obtain ⟨u, c, l, ha, b1, b2, b3⟩ : ∃ u c l : Int, a = u * 16384 + c * 8192 + l ∧ (0 ≤ u ∧ u < 262144) ∧ (0 ≤ c ∧ c ≤ 1) ∧ (0 ≤ l ∧ l < 8192) := ⟨a / 16384, a / 8192 % 2, a % 8192, by omega, by omega, by omega, by omega⟩
    have e1 : a * 524288 % 4294967296 = l * 524288 := by omega
    have e2 : a / 8192 = 2 * u + c := by omega
    have e3 : a * 262144 % 4294967296 = c * 2147483648 + l * 262144 := by omega
    have e4 : a / 16384 = u := by omega
    rw [e1, e2]
    clear e1 e2 e3 e4 ha
    omega
  · (try rw [show ((2 : Int) ^ (14)) = 16384 from rfl]); (try rw [show ((2 : Int) ^ (32 - 14)) = 262144 from rfl])
    obtain ⟨u, c, l, ha, b1, b2, b3⟩ : ∃ u c l : Int, a = u * 32768 + c * 16384 + l ∧ (0 ≤ u ∧ u < 131072) ∧ (0 ≤ c ∧ c ≤ 1) ∧ (0 ≤ l ∧ l < 16384) := ⟨a / 32768, a / 16384 % 2, a % 16384, by omega, by omega, by omega, by omega⟩
    have e1 : a * 262144 % 4294967296 = l * 262144 := by omega
    have e2 : a / 16384 = 2 * u + c := by omega
    have e3 : a * 131072 % 4294967296 = c * 2147483648 + l * 131072 := by omega
    have e4 : a / 32768 = u := by omega
    rw [e1, e2]
    clear e1 e2 e3 e4 ha
    omega
  · (try rw [show ((2 : Int) ^ (15)) = 32768 from rfl]); (try rw [show ((2 : Int) ^ (32 - 15)) = 131072 from rfl])
    obtain ⟨u, c, l, ha, b1, b2, b3⟩ : ∃ u c l : Int, a = u * 65536 + c * 32768 + l ∧ (0 ≤ u ∧ u < 65536) ∧ (0 ≤ c ∧ c ≤ 1) ∧ (0 ≤ l ∧ l < 32768) := ⟨a / 65536, a / 32768 % 2, a % 32768, by omega, by omega, by omega, by omega⟩
    have e1 : a * 131072 % 4294967296 = l * 131072 := by omega
    have e2 : a / 32768 = 2 * u + c := by omega
    have e3 : a * 65536 % 4294967296 = c * 2147483648 + l * 65536 := by omega
    have e4 : a / 65536 = u := by omega
    rw [e1, e2]
    clear e1 e2 e3 e4 ha
    omega
  · (try rw [show ((2 : Int) ^ (16)) = 65536 from rfl]); (try rw [show ((2 : Int) ^ (32 - 16)) = 65536 from rfl])
    obtain ⟨u, c, l, ha, b1, b2, b3⟩ : ∃ u c l : Int, a = u * 131072 + c * 65536 + l ∧ (0 ≤ u ∧ u < 32768) ∧ (0 ≤ c ∧ c ≤ 1) ∧ (0 ≤ l ∧ l < 65536) := ⟨a / 131072, a / 65536 % 2, a % 65536, by omega, by omega, by omega, by omega⟩
    have e1 : a * 65536 % 4294967296 = l * 65536 := by omega
    have e2 : a / 65536 = 2 * u + c := by omega
    have e3 : a * 32768 % 4294967296 = c * 2147483648 + l * 32768 := by omega
    have e4 : a / 131072 = u := by omega
    rw [e1, e2]
    clear e1 e2 e3 e4 ha
    omega
  · (try rw [show ((2 : Int) ^ (17)) = 131072 from rfl]); (try rw [show ((2 : Int) ^ (32 - 17)) = 32768 from rfl])
    obtain ⟨u, c, l, ha, b1, b2, b3⟩ : ∃ u c l : Int, a = u * 262144 + c * 131072 + l ∧ (0 ≤ u ∧ u < 16384) ∧ (0 ≤ c ∧ c ≤ 1) ∧ (0 ≤ l ∧ l < 131072) := ⟨a / 262144, a / 131072 % 2, a % 131072, by omega, by omega, by omega, by omega⟩
    have e1 : a * 32768 % 4294967296 = l * 32768 := by omega
    have e2 : a / 131072 = 2 * u + c := by omega
    have e3 : a * 16384 % 4294967296 = c * 2147483648 + l * 16384 := by omega
    have e4 : a / 262144 = u := by omega
    rw [e1, e2]
    clear e1 e2 e3 e4 ha
    omega
  · (try rw [show ((2 : Int) ^ (18)) = 262144 from rfl]); (try rw [show ((2 : Int) ^ (32 - 18)) = 16384 from rfl])
    obtain ⟨u, c, l, ha, b1, b2, b3⟩ : ∃ u c l : Int, a = u * 524288 + c * 262144 + l ∧ (0 ≤ u ∧ u < 8192) ∧ (0 ≤ c ∧ c ≤ 1) ∧ (0 ≤ l ∧ l < 262144) := ⟨a / 524288, a / 262144 % 2, a % 262144, by omega, by omega, by omega, by omega⟩
    have e1 : a * 16384 % 4294967296 = l * 16384 := by omega
    have e2 : a / 262144 = 2 * u + c := by omega
    have e3 : a * 8192 % 4294967296 = c * 2147483648 + l * 8192 := by omega
    have e4 : a / 524288 = u := by omega
    rw [e1, e2]
    clear e1 e2 e3 e4 ha
    omega
  · (try rw [show ((2 : Int) ^ (19)) = 524288 from rfl]); (try rw [show ((2 : Int) ^ (32 - 19)) = 8192 from rfl])
    obtain ⟨u, c, l, ha, b1, b2, b3⟩ : ∃ u c l : Int, a = u * 1048576 + c * 524288 + l ∧ (0 ≤ u ∧ u < 4096) ∧ (0 ≤ c ∧ c ≤ 1) ∧ (0 ≤ l ∧ l < 524288) := ⟨a / 1048576, a / 524288 % 2, a % 524288, by omega, by omega, by omega, by omega⟩
    have e1 : a * 8192 % 4294967296 = l * 8192 := by omega
    have e2 : a / 524288 = 2 * u + c := by omega
    have e3 : a * 4096 % 4294967296 = c * 2147483648 + l * 4096 := by omega
    have e4 : a / 1048576 = u := by omega
    rw [e1, e2]
    clear e1 e2 e3 e4 ha
    omega
  · (try rw [show ((2 : Int) ^ (20)) = 1048576 from rfl]); (try rw [show ((2 : Int) ^ (32 - 20)) = 4096 from rfl])
    obtain ⟨u, c, l, ha, b1, b2, b3⟩ : ∃ u c l : Int, a = u * 2097152 + c * 1048576 + l ∧ (0 ≤ u ∧ u < 2048) ∧ (0 ≤ c ∧ c ≤ 1) ∧ (0 ≤ l ∧ l < 1048576) := ⟨a / 2097152, a / 1048576 % 2, a % 1048576, by omega, by omega, by omega, by omega⟩
    have e1 : a * 4096 % 4294967296 = l * 4096 := by omega
    have e2 : a / 1048576 = 2 * u + c := by omega
    have e3 : a * 2048 % 4294967296 = c * 2147483648 + l * 2048 := by omega
    have e4 : a / 2097152 = u := by omega
    rw [e1, e2]
    clear e1 e2 e3 e4 ha
    omega
  · (try rw [show ((2 : Int) ^ (21)) = 2097152 from rfl]); (try rw [show ((2 : Int) ^ (32 - 21)) = 2048 from rfl])
    obtain ⟨u, c, l, ha, b1, b2, b3⟩ : ∃ u c l : Int, a = u * 4194304 + c * 2097152 + l ∧ (0 ≤ u ∧ u < 1024) ∧ (0 ≤ c ∧ c ≤ 1) ∧ (0 ≤ l ∧ l < 2097152) := ⟨a / 4194304, a / 2097152 % 2, a % 2097152, by omega, by omega, by omega, by omega⟩
    have e1 : a * 2048 % 4294967296 = l * 2048 := by omega
    have e2 : a / 2097152 = 2 * u + c := by omega
    have e3 : a * 1024 % 4294967296 = c * 2147483648 + l * 1024 := by omega
    have e4 : a / 4194304 = u := by omega
    rw [e1, e2]
    clear e1 e2 e3 e4 ha
    omega
  · (try rw [show ((2 : Int) ^ (22)) = 4194304 from rfl]); (try rw [show ((2 : Int) ^ (32 - 22)) = 1024 from rfl])
    obtain ⟨u, c, l, ha, b1, b2, b3⟩ : ∃ u c l : Int, a = u * 8388608 + c * 4194304 + l ∧ (0 ≤ u ∧ u < 512) ∧ (0 ≤ c ∧ c ≤ 1) ∧ (0 ≤ l ∧ l < 4194304) := ⟨a / 8388608, a / 4194304 % 2, a % 4194304, by omega, by omega, by omega, by omega⟩
    have e1 : a * 1024 % 4294967296 = l * 1024 := by omega
    have e2 : a / 4194304 = 2 * u + c := by omega
    have e3 : a * 512 % 4294967296 = c * 2147483648 + l * 512 := by omega
    have e4 : a / 8388608 = u := by omega
    rw [e1, e2]
    clear e1 e2 e3 e4 ha
    omega
  · (try rw [show ((2 : Int) ^ (23)) = 8388608 from rfl]); (try rw [show ((2 : Int) ^ (32 - 23)) = 512 from rfl])
    obtain ⟨u, c, l, ha, b1, b2, b3⟩ : ∃ u c l : Int, a = u * 16777216 + c * 8388608 + l ∧ (0 ≤ u ∧ u < 256) ∧ (0 ≤ c ∧ c ≤ 1) ∧ (0 ≤ l ∧ l < 8388608) := ⟨a / 16777216, a / 8388608 % 2, a % 8388608, by omega, by omega, by omega, by omega⟩
    have e1 : a * 512 % 4294967296 = l * 512 := by omega
    have e2 : a / 8388608 = 2 * u + c := by omega
    have e3 : a * 256 % 4294967296 = c * 2147483648 + l * 256 := by omega
    have e4 : a / 16777216 = u := by omega
    rw [e1, e2]
    clear e1 e2 e3 e4 ha
    omega
  · (try rw [show ((2 : Int) ^ (24)) = 16777216 from rfl]); (try rw [show ((2 : Int) ^ (32 - 24)) = 256 from rfl])
    obtain ⟨u, c, l, ha, b1, b2, b3⟩ : ∃ u c l : Int, a = u * 33554432 + c * 16777216 + l ∧ (0 ≤ u ∧ u < 128) ∧ (0 ≤ c ∧ c ≤ 1) ∧ (0 ≤ l ∧ l < 16777216) := ⟨a / 33554432, a / 16777216 % 2, a % 16777216, by omega, by omega, by omega, by omega⟩
    have e1 : a * 256 % 4294967296 = l * 256 := by omega
    have e2 : a / 16777216 = 2 * u + c := by omega
    have e3 : a * 128 % 4294967296 = c * 2147483648 + l * 128 := by omega
    have e4 : a / 33554432 = u := by omega
    rw [e1, e2]
    clear e1 e2 e3 e4 ha
    omega
  · (try rw [show ((2 : Int) ^ (25)) = 33554432 from rfl]); (try rw [show ((2 : Int) ^ (32 - 25)) = 128 from rfl])
    obtain ⟨u, c, l, ha, b1, b2, b3⟩ : ∃ u c l : Int, a = u * 67108864 + c * 33554432 + l ∧ (0 ≤ u ∧ u < 64) ∧ (0 ≤ c ∧ c ≤ 1) ∧ (0 ≤ l ∧ l < 33554432) := ⟨a / 67108864, a / 33554432 % 2, a % 33554432, by omega, by omega, by omega, by omega⟩
    have e1 : a * 128 % 4294967296 = l * 128 := by omega
    have e2 : a / 33554432 = 2 * u + c := by omega
    have e3 : a * 64 % 4294967296 = c * 2147483648 + l * 64 := by omega
    have e4 : a / 67108864 = u := by omega
    rw [e1, e2]
    clear e1 e2 e3 e4 ha
    omega
  · (try rw [show ((2 : Int) ^ (26)) = 67108864 from rfl]); (try rw [show ((2 : Int) ^ (32 - 26)) = 64 from rfl])
    obtain ⟨u, c, l, ha, b1, b2, b3⟩ : ∃ u c l : Int, a = u * 134217728 + c * 67108864 + l ∧ (0 ≤ u ∧ u < 32) ∧ (0 ≤ c ∧ c ≤ 1) ∧ (0 ≤ l ∧ l < 67108864) := ⟨a / 134217728, a / 67108864 % 2, a % 67108864, by omega, by omega, by omega, by omega⟩
    have e1 : a * 64 % 4294967296 = l * 64 := by omega
    have e2 : a / 67108864 = 2 * u + c := by omega
    have e3 : a * 32 % 4294967296 = c * 2147483648 + l * 32 := by omega
    have e4 : a / 134217728 = u := by omega
    rw [e1, e2]
    clear e1 e2 e3 e4 ha
    omega
  · (try rw [show ((2 : Int) ^ (27)) = 134217728 from rfl]); (try rw [show ((2 : Int) ^ (32 - 27)) = 32 from rfl])
    obtain ⟨u, c, l, ha, b1, b2, b3⟩ : ∃ u c l : Int, a = u * 268435456 + c * 134217728 + l ∧ (0 ≤ u ∧ u < 16) ∧ (0 ≤ c ∧ c ≤ 1) ∧ (0 ≤ l ∧ l < 134217728) := ⟨a / 268435456, a / 134217728 % 2, a % 134217728, by omega, by omega, by omega, by omega⟩
    have e1 : a * 32 % 4294967296 = l * 32 := by omega
    have e2 : a / 134217728 = 2 * u + c := by omega
    have e3 : a * 16 % 4294967296 = c * 2147483648 + l * 16 := by omega
    have e4 : a / 268435456 = u := by omega
    rw [e1, e2]
    clear e1 e2 e3 e4 ha
    omega
  · (try rw [show ((2 : Int) ^ (28)) = 268435456 from rfl]); (try rw [show ((2 : Int) ^ (32 - 28)) = 16 from rfl])
    obtain ⟨u, c, l, ha, b1, b2, b3⟩ : ∃ u c l : Int, a = u * 536870912 + c * 268435456 + l ∧ (0 ≤ u ∧ u < 8) ∧ (0 ≤ c ∧ c ≤ 1) ∧ (0 ≤ l ∧ l < 268435456) := ⟨a / 536870912, a / 268435456 % 2, a % 268435456, by omega, by omega, by omega, by omega⟩
    have e1 : a * 16 % 4294967296 = l * 16 := by omega
    have e2 : a / 268435456 = 2 * u + c := by omega
    have e3 : a * 8 % 4294967296 = c * 2147483648 + l * 8 := by omega
    have e4 : a / 536870912 = u := by omega
    rw [e1, e2]
    clear e1 e2 e3 e4 ha
    omega
  · (try rw [show ((2 : Int) ^ (29)) = 536870912 from rfl]); (try rw [show ((2 : Int) ^ (32 - 29)) = 8 from rfl])
    obtain ⟨u, c, l, ha, b1, b2, b3⟩ : ∃ u c l : Int, a = u * 1073741824 + c * 536870912 + l ∧ (0 ≤ u ∧ u < 4) ∧ (0 ≤ c ∧ c ≤ 1) ∧ (0 ≤ l ∧ l < 536870912) := ⟨a / 1073741824, a / 536870912 % 2, a % 536870912, by omega, by omega, by omega, by omega⟩
    have e1 : a * 8 % 4294967296 = l * 8 := by omega
    have e2 : a / 536870912 = 2 * u + c := by omega
    have e3 : a * 4 % 4294967296 = c * 2147483648 + l * 4 := by omega
    have e4 : a / 1073741824 = u := by omega
    rw [e1, e2]
    clear e1 e2 e3 e4 ha
    omega
  · (try rw [show ((2 : Int) ^ (30)) = 1073741824 from rfl]); (try rw [show ((2 : Int) ^ (32 - 30)) = 4 from rfl])
    obtain ⟨u, c, l, ha, b1, b2, b3⟩ : ∃ u c l : Int, a = u * 2147483648 + c * 1073741824 + l ∧ (0 ≤ u ∧ u < 2) ∧ (0 ≤ c ∧ c ≤ 1) ∧ (0 ≤ l ∧ l < 1073741824) := ⟨a / 2147483648, a / 1073741824 % 2, a % 1073741824, by omega, by omega, by omega, by omega⟩
    have e1 : a * 4 % 4294967296 = l * 4 := by omega
    have e2 : a / 1073741824 = 2 * u + c := by omega
    have e3 : a * 2 % 4294967296 = c * 2147483648 + l * 2 := by omega
    have e4 : a / 2147483648 = u := by omega
    rw [e1, e2]
    clear e1 e2 e3 e4 ha
    omega
set_option maxHeartbeats 4000000 in
theorem shl_step (a : Int) (h : 0 ≤ a ∧ a ≤ 4294967295) (j : Nat) (hj : 1 ≤ j ∧ j ≤ 30) :
    a * 2 ^ j % 4294967296 * 2 % 4294967296 = a * 2 ^ (j + 1) % 4294967296 ∧ a * 2 ^ j % 4294967296 / 2147483648 % 2 = a / 2 ^ (32 - (j + 1)) % 2 := by
  rcases (by omega : j = 1 ∨ j = 2 ∨ j = 3 ∨ j = 4 ∨ j = 5 ∨ j = 6 ∨ j = 7 ∨ j = 8 ∨ j = 9 ∨ j = 10 ∨ j = 11 ∨ j = 12 ∨ j = 13 ∨ j = 14 ∨ j = 15 ∨ j = 16 ∨ j = 17 ∨ j = 18 ∨ j = 19 ∨ j = 20 ∨ j = 21 ∨ j = 22 ∨ j = 23 ∨ j = 24 ∨ j = 25 ∨ j = 26 ∨ j = 27 ∨ j = 28 ∨ j = 29 ∨ j = 30) with rfl | rfl | rfl | rfl | rfl | rfl | rfl | rfl | rfl | rfl | rfl | rfl | rfl | rfl | rfl | rfl | rfl | rfl | rfl | rfl | rfl | rfl | rfl | rfl | rfl | rfl | rfl | rfl | rfl | rfl
  · (try rw [show ((2 : Int) ^ (1)) = 2 from rfl]); (try rw [show ((2 : Int) ^ (1 + 1)) = 4 from rfl]); (try rw [show ((2 : Int) ^ (32 - (1 + 1))) = 1073741824 from rfl])
    obtain ⟨u, c, l, ha, b1, b2, b3⟩ : ∃ u c l : Int, a = u * 2147483648 + c * 1073741824 + l ∧ (0 ≤ u ∧ u < 2) ∧ (0 ≤ c ∧ c ≤ 1) ∧ (0 ≤ l ∧ l < 1073741824) := ⟨a / 2147483648, a / 1073741824 % 2, a % 1073741824, by omega, by omega, by omega, by omega⟩
    have e1 : a * 2 % 4294967296 = c * 2147483648 + l * 2 := by omega
    have e2 : a / 2147483648 = u := by omega
    have e3 : a / 1073741824 = 2 * u + c := by omega
    have e4 : a * 4 % 4294967296 = l * 4 := by omega
    rw [e1, e3, e4]
    clear e1 e2 e3 e4 ha
    have e5 : (c * 2147483648 + l * 2) / 2147483648 = c := by omega
    have e6 : (c * 2147483648 + l * 2) * 2 % 4294967296 = l * 4 := by omega
    rw [e5, e6]
    clear e5 e6
    exact ⟨rfl, by omega⟩
  · (try rw [show ((2 : Int) ^ (2)) = 4 from rfl]); (try rw [show ((2 : Int) ^ (2 + 1)) = 8 from rfl]); (try rw [show ((2 : Int) ^ (32 - (2 + 1))) = 536870912 from rfl])
    obtain ⟨u, c, l, ha, b1, b2, b3⟩ : ∃ u c l : Int, a = u * 1073741824 + c * 536870912 + l ∧ (0 ≤ u ∧ u < 4) ∧ (0 ≤ c ∧ c ≤ 1) ∧ (0 ≤ l ∧ l < 536870912) := ⟨a / 1073741824, a / 536870912 % 2, a % 536870912, by omega, by omega, by omega, by omega⟩
    have e1 : a * 4 % 4294967296 = c * 2147483648 + l * 4 := by omega
    have e2 : a / 1073741824 = u := by omega
    have e3 : a / 536870912 = 2 * u + c := by omega
    have e4 : a * 8 % 4294967296 = l * 8 := by omega
    rw [e1, e3, e4]
    clear e1 e2 e3 e4 ha
    have e5 : (c * 2147483648 + l * 4) / 2147483648 = c := by omega
    have e6 : (c * 2147483648 + l * 4) * 2 % 4294967296 = l * 8 := by omega
    rw [e5, e6]
    clear e5 e6
    exact ⟨rfl, by omega⟩
  · (try rw [show ((2 : Int) ^ (3)) = 8 from rfl]); (try rw [show ((2 : Int) ^ (3 + 1)) = 16 from rfl]); (try rw [show ((2 : Int) ^ (32 - (3 + 1))) = 268435456 from rfl])
    obtain ⟨u, c, l, ha, b1, b2, b3⟩ : ∃ u c l : Int, a = u * 536870912 + c * 268435456 + l ∧ (0 ≤ u ∧ u < 8) ∧ (0 ≤ c ∧ c ≤ 1) ∧ (0 ≤ l ∧ l < 268435456) := ⟨a / 536870912, a / 268435456 % 2, a % 268435456, by omega, by omega, by omega, by omega⟩
    have e1 : a * 8 % 4294967296 = c * 2147483648 + l * 8 := by omega
    have e2 : a / 536870912 = u := by omega
    have e3 : a / 268435456 = 2 * u + c := by omega
    have e4 : a * 16 % 4294967296 = l * 16 := by omega
    rw [e1, e3, e4]
    clear e1 e2 e3 e4 ha
    have e5 : (c * 2147483648 + l * 8) / 2147483648 = c := by omega
    have e6 : (c * 2147483648 + l * 8) * 2 % 4294967296 = l * 16 := by omega
    rw [e5, e6]
    clear e5 e6
    exact ⟨rfl, by omega⟩
  · (try rw [show ((2 : Int) ^ (4)) = 16 from rfl]); (try rw [show ((2 : Int) ^ (4 + 1)) = 32 from rfl]); (try rw [show ((2 : Int) ^ (32 - (4 + 1))) = 134217728 from rfl])
    obtain ⟨u, c, l, ha, b1, b2, b3⟩ : ∃ u c l : Int, a = u * 268435456 + c * 134217728 + l ∧ (0 ≤ u ∧ u < 16) ∧ (0 ≤ c ∧ c ≤ 1) ∧ (0 ≤ l ∧ l < 134217728) := ⟨a / 268435456, a / 134217728 % 2, a % 134217728, by omega, by omega, by omega, by omega⟩
    have e1 : a * 16 % 4294967296 = c * 2147483648 + l * 16 := by omega
    have e2 : a / 268435456 = u := by omega
    have e3 : a / 134217728 = 2 * u + c := by omega
    have e4 : a * 32 % 4294967296 = l * 32 := by omega
    rw [e1, e3, e4]
    clear e1 e2 e3 e4 ha
    have e5 : (c * 2147483648 + l * 16) / 2147483648 = c := by omega
    have e6 : (c * 2147483648 + l * 16) * 2 % 4294967296 = l * 32 := by omega
    rw [e5, e6]
    clear e5 e6
    exact ⟨rfl, by omega⟩
  · (try rw [show ((2 : Int) ^ (5)) = 32 from rfl]); (try rw [show ((2 : Int) ^ (5 + 1)) = 64 from rfl]); (try rw [show ((2 : Int) ^ (32 - (5 + 1))) = 67108864 from rfl])
    obtain ⟨u, c, l, ha, b1, b2, b3⟩ : ∃ u c l : Int, a = u * 134217728 + c * 67108864 + l ∧ (0 ≤ u ∧ u < 32) ∧ (0 ≤ c ∧ c ≤ 1) ∧ (0 ≤ l ∧ l < 67108864) := ⟨a / 134217728, a / 67108864 % 2, a % 67108864, by omega, by omega, by omega, by omega⟩
    have e1 : a * 32 % 4294967296 = c * 2147483648 + l * 32 := by omega
    have e2 : a / 134217728 = u := by omega
    have e3 : a / 67108864 = 2 * u + c := by omega
    have e4 : a * 64 % 4294967296 = l * 64 := by omega
    rw [e1, e3, e4]
    clear e1 e2 e3 e4 ha
    have e5 : (c * 2147483648 + l * 32) / 2147483648 = c := by omega
    have e6 : (c * 2147483648 + l * 32) * 2 % 4294967296 = l * 64 := by omega
    rw [e5, e6]
    clear e5 e6
    exact ⟨rfl, by omega⟩
  · (try rw [show ((2 : Int) ^ (6)) = 64 from rfl]); (try rw [show ((2 : Int) ^ (6 + 1)) = 128 from rfl]); (try rw [show ((2 : Int) ^ (32 - (6 + 1))) = 33554432 from rfl])
    obtain ⟨u, c, l, ha, b1, b2, b3⟩ : ∃ u c l : Int, a = u * 67108864 + c * 33554432 + l ∧ (0 ≤ u ∧ u < 64) ∧ (0 ≤ c ∧ c ≤ 1) ∧ (0 ≤ l ∧ l < 33554432) := ⟨a / 67108864, a / 33554432 % 2, a % 33554432, by omega, by omega, by omega, by omega⟩
    have e1 : a * 64 % 4294967296 = c * 2147483648 + l * 64 := by omega
    have e2 : a / 67108864 = u := by omega
    have e3 : a / 33554432 = 2 * u + c := by omega
    have e4 : a * 128 % 4294967296 = l * 128 := by omega
    rw [e1, e3, e4]
    clear e1 e2 e3 e4 ha
    have e5 : (c * 2147483648 + l * 64) / 2147483648 = c := by omega
    have e6 : (c * 2147483648 + l * 64) * 2 % 4294967296 = l * 128 := by omega
    rw [e5, e6]
    clear e5 e6
    exact ⟨rfl, by omega⟩
  · (try rw [show ((2 : Int) ^ (7)) = 128 from rfl]); (try rw [show ((2 : Int) ^ (7 + 1)) = 256 from rfl]); (try rw [show ((2 : Int) ^ (32 - (7 + 1))) = 16777216 from rfl])
    obtain ⟨u, c, l, ha, b1, b2, b3⟩ : ∃ u c l : Int, a = u * 33554432 + c * 16777216 + l ∧ (0 ≤ u ∧ u < 128) ∧ (0 ≤ c ∧ c ≤ 1) ∧ (0 ≤ l ∧ l < 16777216) := ⟨a / 33554432, a / 16777216 % 2, a % 16777216, by omega, by omega, by omega, by omega⟩
    have e1 : a * 128 % 4294967296 = c * 2147483648 + l * 128 := by omega
    have e2 : a / 33554432 = u := by omega
    have e3 : a / 16777216 = 2 * u + c := by omega
    have e4 : a * 256 % 4294967296 = l * 256 := by omega
    rw [e1, e3, e4]
    clear e1 e2 e3 e4 ha
    have e5 : (c * 2147483648 + l * 128) / 2147483648 = c := by omega
    have e6 : (c * 2147483648 + l * 128) * 2 % 4294967296 = l * 256 := by omega
    rw [e5, e6]
    clear e5 e6
    exact ⟨rfl, by omega⟩
  · (try rw [show ((2 : Int) ^ (8)) = 256 from rfl]); (try rw [show ((2 : Int) ^ (8 + 1)) = 512 from rfl]); (try rw [show ((2 : Int) ^ (32 - (8 + 1))) = 8388608 from rfl])
    obtain ⟨u, c, l, ha, b1, b2, b3⟩ : ∃ u c l : Int, a = u * 16777216 + c * 8388608 + l ∧ (0 ≤ u ∧ u < 256) ∧ (0 ≤ c ∧ c ≤ 1) ∧ (0 ≤ l ∧ l < 8388608) := ⟨a / 16777216, a / 8388608 % 2, a % 8388608, by omega, by omega, by omega, by omega⟩
    have e1 : a * 256 % 4294967296 = c * 2147483648 + l * 256 := by omega
    have e2 : a / 16777216 = u := by omega
    have e3 : a / 8388608 = 2 * u + c := by omega
    have e4 : a * 512 % 4294967296 = l * 512 := by omega
    rw [e1, e3, e4]
    clear e1 e2 e3 e4 ha
    have e5 : (c * 2147483648 + l * 256) / 2147483648 = c := by omega
    have e6 : (c * 2147483648 + l * 256) * 2 % 4294967296 = l * 512 := by omega
    rw [e5, e6]
    clear e5 e6
    exact ⟨rfl, by omega⟩
  · (try rw [show ((2 : Int) ^ (9)) = 512 from rfl]); (try rw [show ((2 : Int) ^ (9 + 1)) = 1024 from rfl]); (try rw [show ((2 : Int) ^ (32 - (9 + 1))) = 4194304 from rfl])
    obtain ⟨u, c, l, ha, b1, b2, b3⟩ : ∃ u c l : Int, a = u * 8388608 + c * 4194304 + l ∧ (0 ≤ u ∧ u < 512) ∧ (0 ≤ c ∧ c ≤ 1) ∧ (0 ≤ l ∧ l < 4194304) := ⟨a / 8388608, a / 4194304 % 2, a % 4194304, by omega, by omega, by omega, by omega⟩
    have e1 : a * 512 % 4294967296 = c * 2147483648 + l * 512 := by omega
    have e2 : a / 8388608 = u := by omega
    have e3 : a / 4194304 = 2 * u + c := by omega
    have e4 : a * 1024 % 4294967296 = l * 1024 := by omega
    rw [e1, e3, e4]
    clear e1 e2 e3 e4 ha
    have e5 : (c * 2147483648 + l * 512) / 2147483648 = c := by omega
    have e6 : (c * 2147483648 + l * 512) * 2 % 4294967296 = l * 1024 := by omega
    rw [e5, e6]
    clear e5 e6
    exact ⟨rfl, by omega⟩
  · (try rw [show ((2 : Int) ^ (10)) = 1024 from rfl]); (try rw [show ((2 : Int) ^ (10 + 1)) = 2048 from rfl]); (try rw [show ((2 : Int) ^ (32 - (10 + 1))) = 2097152 from rfl])
    obtain ⟨u, c, l, ha, b1, b2, b3⟩ : ∃ u c l : Int, a = u * 4194304 + c * 2097152 + l ∧ (0 ≤ u ∧ u < 1024) ∧ (0 ≤ c ∧ c ≤ 1) ∧ (0 ≤ l ∧ l < 2097152) := ⟨a / 4194304, a / 2097152 % 2, a % 2097152, by omega, by omega, by omega, by omega⟩
    have e1 : a * 1024 % 4294967296 = c * 2147483648 + l * 1024 := by omega
    have e2 : a / 4194304 = u := by omega
    have e3 : a / 2097152 = 2 * u + c := by omega
    have e4 : a * 2048 % 4294967296 = l * 2048 := by omega
    rw [e1, e3, e4]
    clear e1 e2 e3 e4 ha
    have e5 : (c * 2147483648 + l * 1024) / 2147483648 = c := by omega
    have e6 : (c * 2147483648 + l * 1024) * 2 % 4294967296 = l * 2048 := by omega
    rw [e5, e6]
    clear e5 e6
    exact ⟨rfl, by omega⟩
  · (try rw [show ((2 : Int) ^ (11)) = 2048 from rfl]); (try rw [show ((2 : Int) ^ (11 + 1)) = 4096 from rfl]); (try rw [show ((2 : Int) ^ (32 - (11 + 1))) = 1048576 from rfl])
    obtain ⟨u, c, l, ha, b1, b2, b3⟩ : ∃ u c l : Int, a = u * 2097152 + c * 1048576 + l ∧ (0 ≤ u ∧ u < 2048) ∧ (0 ≤ c ∧ c ≤ 1) ∧ (0 ≤ l ∧ l < 1048576) := ⟨a / 2097152, a / 1048576 % 2, a % 1048576, by omega, by omega, by omega, by omega⟩
    have e1 : a * 2048 % 4294967296 = c * 2147483648 + l * 2048 := by omega
    have e2 : a / 2097152 = u := by omega
    have e3 : a / 1048576 = 2 * u + c := by omega
    have e4 : a * 4096 % 4294967296 = l * 4096 := by omega
    rw [e1, e3, e4]
    clear e1 e2 e3 e4 ha
    have e5 : (c * 2147483648 + l * 2048) / 2147483648 = c := by omega
    have e6 : (c * 2147483648 + l * 2048) * 2 % 4294967296 = l * 4096 := by omega
    rw [e5, e6]
    clear e5 e6
    exact ⟨rfl, by omega⟩
  · (try rw [show ((2 : Int) ^ (12)) = 4096 from rfl]); (try rw [show ((2 : Int) ^ (12 + 1)) = 8192 from rfl]); (try rw [show ((2 : Int) ^ (32 - (12 + 1))) = 524288 from rfl])
    obtain ⟨u, c, l, ha, b1, b2, b3⟩ : ∃ u c l : Int, a = u * 1048576 + c * 524288 + l ∧ (0 ≤ u ∧ u < 4096) ∧ (0 ≤ c ∧ c ≤ 1) ∧ (0 ≤ l ∧ l < 524288) := ⟨a / 1048576, a / 524288 % 2, a % 524288, by omega, by omega, by omega, by omega⟩
    have e1 : a * 4096 % 4294967296 = c * 2147483648 + l * 4096 := by omega
    have e2 : a / 1048576 = u := by omega
    have e3 : a / 524288 = 2 * u + c := by omega
    have e4 : a * 8192 % 4294967296 = l * 8192 := by omega
    rw [e1, e3, e4]
    clear e1 e2 e3 e4 ha
    have e5 : (c * 2147483648 + l * 4096) / 2147483648 = c := by omega
    have e6 : (c * 2147483648 + l * 4096) * 2 % 4294967296 = l * 8192 := by omega
    rw [e5, e6]
    clear e5 e6
    exact ⟨rfl, by omega⟩
  · (try rw [show ((2 : Int) ^ (13)) = 8192 from rfl]); (try rw [show ((2 : Int) ^ (13 + 1)) = 16384 from rfl]); (try rw [show ((2 : Int) ^ (32 - (13 + 1))) = 262144 from rfl])
    obtain ⟨u, c, l, ha, b1, b2, b3⟩ : ∃ u c l : Int, a = u * 524288 + c * 262144 + l ∧ (0 ≤ u ∧ u < 8192) ∧ (0 ≤ c ∧ c ≤ 1) ∧ (0 ≤ l ∧ l < 262144) := ⟨a / 524288, a / 262144 % 2, a % 262144, by omega, by omega, by omega, by omega⟩
    have e1 : a * 8192 % 4294967296 = c * 2147483648 + l * 8192 := by omega
    have e2 : a / 524288 = u := by omega
    have e3 : a / 262144 = 2 * u + c := by omega
    have e4 : a * 16384 % 4294967296 = l * 16384 := by omega
    rw [e1, e3, e4]
    clear e1 e2 e3 e4 ha
    have e5 : (c * 2147483648 + l * 8192) / 2147483648 = c := by omega
    have e6 : (c * 2147483648 + l * 8192) * 2 % 4294967296 = l * 16384 := by omega
    rw [e5, e6]
    clear e5 e6
    exact ⟨rfl, by omega⟩
  · (try rw [show ((2 : Int) ^ (14)) = 16384 from rfl]); (try rw [show ((2 : Int) ^ (14 + 1)) = 32768 from rfl]); (try rw [show ((2 : Int) ^ (32 - (14 + 1))) = 131072 from rfl])
    obtain ⟨u, c, l, ha, b1, b2, b3⟩ : ∃ u c l : Int, a = u * 262144 + c * 131072 + l ∧ (0 ≤ u ∧ u < 16384) ∧ (0 ≤ c ∧ c ≤ 1) ∧ (0 ≤ l ∧ l < 131072) := ⟨a / 262144, a / 131072 % 2, a % 131072, by omega, by omega, by omega, by omega⟩
    have e1 : a * 16384 % 4294967296 = c * 2147483648 + l * 16384 := by omega
    have e2 : a / 262144 = u := by omega
    have e3 : a / 131072 = 2 * u + c := by omega
    have e4 : a * 32768 % 4294967296 = l * 32768 := by omega
    rw [e1, e3, e4]
    clear e1 e2 e3 e4 ha
    have e5 : (c * 2147483648 + l * 16384) / 2147483648 = c := by omega
    have e6 : (c * 2147483648 + l * 16384) * 2 % 4294967296 = l * 32768 := by omega
    rw [e5, e6]
    clear e5 e6
    exact ⟨rfl, by omega⟩
  · (try rw [show ((2 : Int) ^ (15)) = 32768 from rfl]); (try rw [show ((2 : Int) ^ (15 + 1)) = 65536 from rfl]); (try rw [show ((2 : Int) ^ (32 - (15 + 1))) = 65536 from rfl])
    obtain ⟨u, c, l, ha, b1, b2, b3⟩ : ∃ u c l : Int, a = u * 131072 + c * 65536 + l ∧ (0 ≤ u ∧ u < 32768) ∧ (0 ≤ c ∧ c ≤ 1) ∧ (0 ≤ l ∧ l < 65536) := ⟨a / 131072, a / 65536 % 2, a % 65536, by omega, by omega, by omega, by omega⟩
    have e1 : a * 32768 % 4294967296 = c * 2147483648 + l * 32768 := by omega
    have e2 : a / 131072 = u := by omega
    have e3 : a / 65536 = 2 * u + c := by omega
    have e4 : a * 65536 % 4294967296 = l * 65536 := by omega
    rw [e1, e3, e4]
    clear e1 e2 e3 e4 ha
    have e5 : (c * 2147483648 + l * 32768) / 2147483648 = c := by omega
    have e6 : (c * 2147483648 + l * 32768) * 2 % 4294967296 = l * 65536 := by omega
    rw [e5, e6]
    clear e5 e6
    exact ⟨rfl, by omega⟩
  · (try rw [show ((2 : Int) ^ (16)) = 65536 from rfl]); (try rw [show ((2 : Int) ^ (16 + 1)) = 131072 from rfl]); (try rw [show ((2 : Int) ^ (32 - (16 + 1))) = 32768 from rfl])
    obtain ⟨u, c, l, ha, b1, b2, b3⟩ : ∃ u c l : Int, a = u * 65536 + c * 32768 + l ∧ (0 ≤ u ∧ u < 65536) ∧ (0 ≤ c ∧ c ≤ 1) ∧ (0 ≤ l ∧ l < 32768) := ⟨a / 65536, a / 32768 % 2, a % 32768, by omega, by omega, by omega, by omega⟩
    have e1 : a * 65536 % 4294967296 = c * 2147483648 + l * 65536 := by omega
    have e2 : a / 65536 = u := by omega
    have e3 : a / 32768 = 2 * u + c := by omega
    have e4 : a * 131072 % 4294967296 = l * 131072 := by omega
    rw [e1, e3, e4]
    clear e1 e2 e3 e4 ha
    have e5 : (c * 2147483648 + l * 65536) / 2147483648 = c := by omega
    have e6 : (c * 2147483648 + l * 65536) * 2 % 4294967296 = l * 131072 := by omega
    rw [e5, e6]
    clear e5 e6
    exact ⟨rfl, by omega⟩
  · (try rw [show ((2 : Int) ^ (17)) = 131072 from rfl]); (try rw [show ((2 : Int) ^ (17 + 1)) = 262144 from rfl]); (try rw [show ((2 : Int) ^ (32 - (17 + 1))) = 16384 from rfl])
    obtain ⟨u, c, l, ha, b1, b2, b3⟩ : ∃ u c l : Int, a = u * 32768 + c * 16384 + l ∧ (0 ≤ u ∧ u < 131072) ∧ (0 ≤ c ∧ c ≤ 1) ∧ (0 ≤ l ∧ l < 16384) := ⟨a / 32768, a / 16384 % 2, a % 16384, by omega, by omega, by omega, by omega⟩
    have e1 : a * 131072 % 4294967296 = c * 2147483648 + l * 131072 := by omega
    have e2 : a / 32768 = u := by omega
    have e3 : a / 16384 = 2 * u + c := by omega
    have e4 : a * 262144 % 4294967296 = l * 262144 := by omega
    rw [e1, e3, e4]
    clear e1 e2 e3 e4 ha
    have e5 : (c * 2147483648 + l * 131072) / 2147483648 = c := by omega
    have e6 : (c * 2147483648 + l * 131072) * 2 % 4294967296 = l * 262144 := by omega
    rw [e5, e6]
    clear e5 e6
    exact ⟨rfl, by omega⟩
  · (try rw [show ((2 : Int) ^ (18)) = 262144 from rfl]); (try rw [show ((2 : Int) ^ (18 + 1)) = 524288 from rfl]); (try rw [show ((2 : Int) ^ (32 - (18 + 1))) = 8192 from rfl])
    obtain ⟨u, c, l, ha, b1, b2, b3⟩ : ∃ u c l : Int, a = u * 16384 + c * 8192 + l ∧ (0 ≤ u ∧ u < 262144) ∧ (0 ≤ c ∧ c ≤ 1) ∧ (0 ≤ l ∧ l < 8192) := ⟨a / 16384, a / 8192 % 2, a % 8192, by omega, by omega, by omega, by omega⟩
    have e1 : a * 262144 % 4294967296 = c * 2147483648 + l * 262144 := by omega
    have e2 : a / 16384 = u := by omega
    have e3 : a / 8192 = 2 * u + c := by omega
    have e4 : a * 524288 % 4294967296 = l * 524288 := by omega
    rw [e1, e3, e4]
    clear e1 e2 e3 e4 ha
    have e5 : (c * 2147483648 + l * 262144) / 2147483648 = c := by omega
    have e6 : (c * 2147483648 + l * 262144) * 2 % 4294967296 = l * 524288 := by omega
    rw [e5, e6]
    clear e5 e6
    exact ⟨rfl, by omega⟩
  · (try rw [show ((2 : Int) ^ (19)) = 524288 from rfl]); (try rw [show ((2 : Int) ^ (19 + 1)) = 1048576 from rfl]); (try rw [show ((2 : Int) ^ (32 - (19 + 1))) = 4096 from rfl])
    obtain ⟨u, c, l, ha, b1, b2, b3⟩ : ∃ u c l : Int, a = u * 8192 + c * 4096 + l ∧ (0 ≤ u ∧ u < 524288) ∧ (0 ≤ c ∧ c ≤ 1) ∧ (0 ≤ l ∧ l < 4096) := ⟨a / 8192, a / 4096 % 2, a % 4096, by omega, by omega, by omega, by omega⟩
    have e1 : a * 524288 % 4294967296 = c * 2147483648 + l * 524288 := by omega
    have e2 : a / 8192 = u := by omega
    have e3 : a / 4096 = 2 * u + c := by omega
    have e4 : a * 1048576 % 4294967296 = l * 1048576 := by omega
    rw [e1, e3, e4]
    clear e1 e2 e3 e4 ha
    have e5 : (c * 2147483648 + l * 524288) / 2147483648 = c := by omega
    have e6 : (c * 2147483648 + l * 524288) * 2 % 4294967296 = l * 1048576 := by omega
    rw [e5, e6]
    clear e5 e6
    exact ⟨rfl, by omega⟩
  · (try rw [show ((2 : Int) ^ (20)) = 1048576 from rfl]); (try rw [show ((2 : Int) ^ (20 + 1)) = 2097152 from rfl]); (try rw [show ((2 : Int) ^ (32 - (20 + 1))) = 2048 from rfl])
    obtain ⟨u, c, l, ha, b1, b2, b3⟩ : ∃ u c l : Int, a = u * 4096 + c * 2048 + l ∧ (0 ≤ u ∧ u < 1048576) ∧ (0 ≤ c ∧ c ≤ 1) ∧ (0 ≤ l ∧ l < 2048) := ⟨a / 4096, a / 2048 % 2, a % 2048, by omega, by omega, by omega, by omega⟩
    have e1 : a * 1048576 % 4294967296 = c * 2147483648 + l * 1048576 := by omega
    have e2 : a / 4096 = u := by omega
    have e3 : a / 2048 = 2 * u + c := by omega
    have e4 : a * 2097152 % 4294967296 = l * 2097152 := by omega
    rw [e1, e3, e4]
    clear e1 e2 e3 e4 ha
    have e5 : (c * 2147483648 + l * 1048576) / 2147483648 = c := by omega
    have e6 : (c * 2147483648 + l * 1048576) * 2 % 4294967296 = l * 2097152 := by omega
    rw [e5, e6]
    clear e5 e6
    exact ⟨rfl, by omega⟩
  · (try rw [show ((2 : Int) ^ (21)) = 2097152 from rfl]); (try rw [show ((2 : Int) ^ (21 + 1)) = 4194304 from rfl]); (try rw [show ((2 : Int) ^ (32 - (21 + 1))) = 1024 from rfl])
    obtain ⟨u, c, l, ha, b1, b2, b3⟩ : ∃ u c l : Int, a = u * 2048 + c * 1024 + l ∧ (0 ≤ u ∧ u < 2097152) ∧ (0 ≤ c ∧ c ≤ 1) ∧ (0 ≤ l ∧ l < 1024) := ⟨a / 2048, a / 1024 % 2, a % 1024, by omega, by omega, by omega, by omega⟩
    have e1 : a * 2097152 % 4294967296 = c * 2147483648 + l * 2097152 := by omega
    have e2 : a / 2048 = u := by omega
    have e3 : a / 1024 = 2 * u + c := by omega
    have e4 : a * 4194304 % 4294967296 = l * 4194304 := by omega
    rw [e1, e3, e4]
    clear e1 e2 e3 e4 ha
    have e5 : (c * 2147483648 + l * 2097152) / 2147483648 = c := by omega
    have e6 : (c * 2147483648 + l * 2097152) * 2 % 4294967296 = l * 4194304 := by omega
    rw [e5, e6]
    clear e5 e6
    exact ⟨rfl, by omega⟩
  · (try rw [show ((2 : Int) ^ (22)) = 4194304 from rfl]); (try rw [show ((2 : Int) ^ (22 + 1)) = 8388608 from rfl]); (try rw [show ((2 : Int) ^ (32 - (22 + 1))) = 512 from rfl])
    obtain ⟨u, c, l, ha, b1, b2, b3⟩ : ∃ u c l : Int, a = u * 1024 + c * 512 + l ∧ (0 ≤ u ∧ u < 4194304) ∧ (0 ≤ c ∧ c ≤ 1) ∧ (0 ≤ l ∧ l < 512) := ⟨a / 1024, a / 512 % 2, a % 512, by omega, by omega, by omega, by omega⟩
    have e1 : a * 4194304 % 4294967296 = c * 2147483648 + l * 4194304 := by omega
    have e2 : a / 1024 = u := by omega
    have e3 : a / 512 = 2 * u + c := by omega
    have e4 : a * 8388608 % 4294967296 = l * 8388608 := by omega
    rw [e1, e3, e4]
    clear e1 e2 e3 e4 ha
    have e5 : (c * 2147483648 + l * 4194304) / 2147483648 = c := by omega
    have e6 : (c * 2147483648 + l * 4194304) * 2 % 4294967296 = l * 8388608 := by omega
    rw [e5, e6]
    clear e5 e6
    exact ⟨rfl, by omega⟩
  · (try rw [show ((2 : Int) ^ (23)) = 8388608 from rfl]); (try rw [show ((2 : Int) ^ (23 + 1)) = 16777216 from rfl]); (try rw [show ((2 : Int) ^ (32 - (23 + 1))) = 256 from rfl])
    obtain ⟨u, c, l, ha, b1, b2, b3⟩ : ∃ u c l : Int, a = u * 512 + c * 256 + l ∧ (0 ≤ u ∧ u < 8388608) ∧ (0 ≤ c ∧ c ≤ 1) ∧ (0 ≤ l ∧ l < 256) := ⟨a / 512, a / 256 % 2, a % 256, by omega, by omega, by omega, by omega⟩
    have e1 : a * 8388608 % 4294967296 = c * 2147483648 + l * 8388608 := by omega
    have e2 : a / 512 = u := by omega
    have e3 : a / 256 = 2 * u + c := by omega
    have e4 : a * 16777216 % 4294967296 = l * 16777216 := by omega
    rw [e1, e3, e4]
    clear e1 e2 e3 e4 ha
    have e5 : (c * 2147483648 + l * 8388608) / 2147483648 = c := by omega
    have e6 : (c * 2147483648 + l * 8388608) * 2 % 4294967296 = l * 16777216 := by omega
    rw [e5, e6]
    clear e5 e6
    exact ⟨rfl, by omega⟩
  · (try rw [show ((2 : Int) ^ (24)) = 16777216 from rfl]); (try rw [show ((2 : Int) ^ (24 + 1)) = 33554432 from rfl]); (try rw [show ((2 : Int) ^ (32 - (24 + 1))) = 128 from rfl])
    obtain ⟨u, c, l, ha, b1, b2, b3⟩ : ∃ u c l : Int, a = u * 256 + c * 128 + l ∧ (0 ≤ u ∧ u < 16777216) ∧ (0 ≤ c ∧ c ≤ 1) ∧ (0 ≤ l ∧ l < 128) := ⟨a / 256, a / 128 % 2, a % 128, by omega, by omega, by omega, by omega⟩
    have e1 : a * 16777216 % 4294967296 = c * 2147483648 + l * 16777216 := by omega
    have e2 : a / 256 = u := by omega
    have e3 : a / 128 = 2 * u + c := by omega
    have e4 : a * 33554432 % 4294967296 = l * 33554432 := by omega
    rw [e1, e3, e4]
    clear e1 e2 e3 e4 ha
    have e5 : (c * 2147483648 + l * 16777216) / 2147483648 = c := by omega
    have e6 : (c * 2147483648 + l * 16777216) * 2 % 4294967296 = l * 33554432 := by omega
    rw [e5, e6]
    clear e5 e6
    exact ⟨rfl, by omega⟩
  · (try rw [show ((2 : Int) ^ (25)) = 33554432 from rfl]); (try rw [show ((2 : Int) ^ (25 + 1)) = 67108864 from rfl]); (try rw [show ((2 : Int) ^ (32 - (25 + 1))) = 64 from rfl])
    obtain ⟨u, c, l, ha, b1, b2, b3⟩ : ∃ u c l : Int, a = u * 128 + c * 64 + l ∧ (0 ≤ u ∧ u < 33554432) ∧ (0 ≤ c ∧ c ≤ 1) ∧ (0 ≤ l ∧ l < 64) := ⟨a / 128, a / 64 % 2, a % 64, by omega, by omega, by omega, by omega⟩
    have e1 : a * 33554432 % 4294967296 = c * 2147483648 + l * 33554432 := by omega
    have e2 : a / 128 = u := by omega
    have e3 : a / 64 = 2 * u + c := by omega
    have e4 : a * 67108864 % 4294967296 = l * 67108864 := by omega
    rw [e1, e3, e4]
    clear e1 e2 e3 e4 ha
    have e5 : (c * 2147483648 + l * 33554432) / 2147483648 = c := by omega
    have e6 : (c * 2147483648 + l * 33554432) * 2 % 4294967296 = l * 67108864 := by omega
    rw [e5, e6]
    clear e5 e6
    exact ⟨rfl, by omega⟩
  · (try rw [show ((2 : Int) ^ (26)) = 67108864 from rfl]); (try rw [show ((2 : Int) ^ (26 + 1)) = 134217728 from rfl]); (try rw [show ((2 : Int) ^ (32 - (26 + 1))) = 32 from rfl])
    obtain ⟨u, c, l, ha, b1, b2, b3⟩ : ∃ u c l : Int, a = u * 64 + c * 32 + l ∧ (0 ≤ u ∧ u < 67108864) ∧ (0 ≤ c ∧ c ≤ 1) ∧ (0 ≤ l ∧ l < 32) := ⟨a / 64, a / 32 % 2, a % 32, by omega, by omega, by omega, by omega⟩
    have e1 : a * 67108864 % 4294967296 = c * 2147483648 + l * 67108864 := by omega
    have e2 : a / 64 = u := by omega
    have e3 : a / 32 = 2 * u + c := by omega
    have e4 : a * 134217728 % 4294967296 = l * 134217728 := by omega
    rw [e1, e3, e4]
    clear e1 e2 e3 e4 ha
    have e5 : (c * 2147483648 + l * 67108864) / 2147483648 = c := by omega
    have e6 : (c * 2147483648 + l * 67108864) * 2 % 4294967296 = l * 134217728 := by omega
    rw [e5, e6]
    clear e5 e6
    exact ⟨rfl, by omega⟩
  · (try rw [show ((2 : Int) ^ (27)) = 134217728 from rfl]); (try rw [show ((2 : Int) ^ (27 + 1)) = 268435456 from rfl]); (try rw [show ((2 : Int) ^ (32 - (27 + 1))) = 16 from rfl])
    obtain ⟨u, c, l, ha, b1, b2, b3⟩ : ∃ u c l : Int, a = u * 32 + c * 16 + l ∧ (0 ≤ u ∧ u < 134217728) ∧ (0 ≤ c ∧ c ≤ 1) ∧ (0 ≤ l ∧ l < 16) := ⟨a / 32, a / 16 % 2, a % 16, by omega, by omega, by omega, by omega⟩
    have e1 : a * 134217728 % 4294967296 = c * 2147483648 + l * 134217728 := by omega
    have e2 : a / 32 = u := by omega
    have e3 : a / 16 = 2 * u + c := by omega
    have e4 : a * 268435456 % 4294967296 = l * 268435456 := by omega
    rw [e1, e3, e4]
    clear e1 e2 e3 e4 ha
    have e5 : (c * 2147483648 + l * 134217728) / 2147483648 = c := by omega
    have e6 : (c * 2147483648 + l * 134217728) * 2 % 4294967296 = l * 268435456 := by omega
    rw [e5, e6]
    clear e5 e6
    exact ⟨rfl, by omega⟩
  · (try rw [show ((2 : Int) ^ (28)) = 268435456 from rfl]); (try rw [show ((2 : Int) ^ (28 + 1)) = 536870912 from rfl]); (try rw [show ((2 : Int) ^ (32 - (28 + 1))) = 8 from rfl])
    obtain ⟨u, c, l, ha, b1, b2, b3⟩ : ∃ u c l : Int, a = u * 16 + c * 8 + l ∧ (0 ≤ u ∧ u < 268435456) ∧ (0 ≤ c ∧ c ≤ 1) ∧ (0 ≤ l ∧ l < 8) := ⟨a / 16, a / 8 % 2, a % 8, by omega, by omega, by omega, by omega⟩
    have e1 : a * 268435456 % 4294967296 = c * 2147483648 + l * 268435456 := by omega
    have e2 : a / 16 = u := by omega
    have e3 : a / 8 = 2 * u + c := by omega
    have e4 : a * 536870912 % 4294967296 = l * 536870912 := by omega
    rw [e1, e3, e4]
    clear e1 e2 e3 e4 ha
    have e5 : (c * 2147483648 + l * 268435456) / 2147483648 = c := by omega
    have e6 : (c * 2147483648 + l * 268435456) * 2 % 4294967296 = l * 536870912 := by omega
    rw [e5, e6]
    clear e5 e6
    exact ⟨rfl, by omega⟩
  · (try rw [show ((2 : Int) ^ (29)) = 536870912 from rfl]); (try rw [show ((2 : Int) ^ (29 + 1)) = 1073741824 from rfl]); (try rw [show ((2 : Int) ^ (32 - (29 + 1))) = 4 from rfl])
    obtain ⟨u, c, l, ha, b1, b2, b3⟩ : ∃ u c l : Int, a = u * 8 + c * 4 + l ∧ (0 ≤ u ∧ u < 536870912) ∧ (0 ≤ c ∧ c ≤ 1) ∧ (0 ≤ l ∧ l < 4) := ⟨a / 8, a / 4 % 2, a % 4, by omega, by omega, by omega, by omega⟩
    have e1 : a * 536870912 % 4294967296 = c * 2147483648 + l * 536870912 := by omega
    have e2 : a / 8 = u := by omega
    have e3 : a / 4 = 2 * u + c := by omega
    have e4 : a * 1073741824 % 4294967296 = l * 1073741824 := by omega
    rw [e1, e3, e4]
    clear e1 e2 e3 e4 ha
    have e5 : (c * 2147483648 + l * 536870912) / 2147483648 = c := by omega
    have e6 : (c * 2147483648 + l * 536870912) * 2 % 4294967296 = l * 1073741824 := by omega
    rw [e5, e6]
    clear e5 e6
    exact ⟨rfl, by omega⟩
  · (try rw [show ((2 : Int) ^ (30)) = 1073741824 from rfl]); (try rw [show ((2 : Int) ^ (30 + 1)) = 2147483648 from rfl]); (try rw [show ((2 : Int) ^ (32 - (30 + 1))) = 2 from rfl])
    obtain ⟨u, c, l, ha, b1, b2, b3⟩ : ∃ u c l : Int, a = u * 4 + c * 2 + l ∧ (0 ≤ u ∧ u < 1073741824) ∧ (0 ≤ c ∧ c ≤ 1) ∧ (0 ≤ l ∧ l < 2) := ⟨a / 4, a / 2 % 2, a % 2, by omega, by omega, by omega, by omega⟩
    have e1 : a * 1073741824 % 4294967296 = c * 2147483648 + l * 1073741824 := by omega
    have e2 : a / 4 = u := by omega
    have e3 : a / 2 = 2 * u + c := by omega
    have e4 : a * 2147483648 % 4294967296 = l * 2147483648 := by omega
    rw [e1, e3, e4]
    clear e1 e2 e3 e4 ha
    have e5 : (c * 2147483648 + l * 1073741824) / 2147483648 = c := by omega
    have e6 : (c * 2147483648 + l * 1073741824) * 2 % 4294967296 = l * 2147483648 := by omega
    rw [e5, e6]
    clear e5 e6
    exact ⟨rfl, by omega⟩
set_option maxHeartbeats 4000000 in
theorem shr_step (a : Int) (h : 0 ≤ a ∧ a ≤ 4294967295) (j : Nat) (hj : 1 ≤ j ∧ j ≤ 30) :
    a / 2 ^ j / 2 = a / 2 ^ (j + 1) := by
  rcases (by omega : j = 1 ∨ j = 2 ∨ j = 3 ∨ j = 4 ∨ j = 5 ∨ j = 6 ∨ j = 7 ∨ j = 8 ∨ j = 9 ∨ j = 10 ∨ j = 11 ∨ j = 12 ∨ j = 13 ∨ j = 14 ∨ j = 15 ∨ j = 16 ∨ j = 17 ∨ j = 18 ∨ j = 19 ∨ j = 20 ∨ j = 21 ∨ j = 22 ∨ j = 23 ∨ j = 24 ∨ j = 25 ∨ j = 26 ∨ j = 27 ∨ j = 28 ∨ j = 29 ∨ j = 30) with rfl | rfl | rfl | rfl | rfl | rfl | rfl | rfl | rfl | rfl | rfl | rfl | rfl | rfl | rfl | rfl | rfl | rfl | rfl | rfl | rfl | rfl | rfl | rfl | rfl | rfl | rfl | rfl | rfl | rfl
  · (try rw [show ((2 : Int) ^ (1)) = 2 from rfl]); (try rw [show ((2 : Int) ^ (1 + 1)) = 4 from rfl]); omega
  · (try rw [show ((2 : Int) ^ (2)) = 4 from rfl]); (try rw [show ((2 : Int) ^ (2 + 1)) = 8 from rfl]); omega
  · (try rw [show ((2 : Int) ^ (3)) = 8 from rfl]); (try rw [show ((2 : Int) ^ (3 + 1)) = 16 from rfl]); omega
  · (try rw [show ((2 : Int) ^ (4)) = 16 from rfl]); (try rw [show ((2 : Int) ^ (4 + 1)) = 32 from rfl]); omega
  · (try rw [show ((2 : Int) ^ (5)) = 32 from rfl]); (try rw [show ((2 : Int) ^ (5 + 1)) = 64 from rfl]); omega
  · (try rw [show ((2 : Int) ^ (6)) = 64 from rfl]); (try rw [show ((2 : Int) ^ (6 + 1)) = 128 from rfl]); omega
  · (try rw [show ((2 : Int) ^ (7)) = 128 from rfl]); (try rw [show ((2 : Int) ^ (7 + 1)) = 256 from rfl]); omega
  · (try rw [show ((2 : Int) ^ (8)) = 256 from rfl]); (try rw [show ((2 : Int) ^ (8 + 1)) = 512 from rfl]); omega
  · (try rw [show ((2 : Int) ^ (9)) = 512 from rfl]); (try rw [show ((2 : Int) ^ (9 + 1)) = 1024 from rfl]); omega
  · (try rw [show ((2 : Int) ^ (10)) = 1024 from rfl]); (try rw [show ((2 : Int) ^ (10 + 1)) = 2048 from rfl]); omega
  · (try rw [show ((2 : Int) ^ (11)) = 2048 from rfl]); (try rw [show ((2 : Int) ^ (11 + 1)) = 4096 from rfl]); omega
  · (try rw [show ((2 : Int) ^ (12)) = 4096 from rfl]); (try rw [show ((2 : Int) ^ (12 + 1)) = 8192 from rfl]); omega
  · (try rw [show ((2 : Int) ^ (13)) = 8192 from rfl]); (try rw [show ((2 : Int) ^ (13 + 1)) = 16384 from rfl]); omega
  · (try rw [show ((2 : Int) ^ (14)) = 16384 from rfl]); (try rw [show ((2 : Int) ^ (14 + 1)) = 32768 from rfl]); omega
  · (try rw [show ((2 : Int) ^ (15)) = 32768 from rfl]); (try rw [show ((2 : Int) ^ (15 + 1)) = 65536 from rfl]); omega
  · (try rw [show ((2 : Int) ^ (16)) = 65536 from rfl]); (try rw [show ((2 : Int) ^ (16 + 1)) = 131072 from rfl]); omega
  · (try rw [show ((2 : Int) ^ (17)) = 131072 from rfl]); (try rw [show ((2 : Int) ^ (17 + 1)) = 262144 from rfl]); omega
  · (try rw [show ((2 : Int) ^ (18)) = 262144 from rfl]); (try rw [show ((2 : Int) ^ (18 + 1)) = 524288 from rfl]); omega
  · (try rw [show ((2 : Int) ^ (19)) = 524288 from rfl]); (try rw [show ((2 : Int) ^ (19 + 1)) = 1048576 from rfl]); omega
  · (try rw [show ((2 : Int) ^ (20)) = 1048576 from rfl]); (try rw [show ((2 : Int) ^ (20 + 1)) = 2097152 from rfl]); omega
  · (try rw [show ((2 : Int) ^ (21)) = 2097152 from rfl]); (try rw [show ((2 : Int) ^ (21 + 1)) = 4194304 from rfl]); omega
  · (try rw [show ((2 : Int) ^ (22)) = 4194304 from rfl]); (try rw [show ((2 : Int) ^ (22 + 1)) = 8388608 from rfl]); omega
  · (try rw [show ((2 : Int) ^ (23)) = 8388608 from rfl]); (try rw [show ((2 : Int) ^ (23 + 1)) = 16777216 from rfl]); omega
  · (try rw [show ((2 : Int) ^ (24)) = 16777216 from rfl]); (try rw [show ((2 : Int) ^ (24 + 1)) = 33554432 from rfl]); omega
  · (try rw [show ((2 : Int) ^ (25)) = 33554432 from rfl]); (try rw [show ((2 : Int) ^ (25 + 1)) = 67108864 from rfl]); omega
  · (try rw [show ((2 : Int) ^ (26)) = 67108864 from rfl]); (try rw [show ((2 : Int) ^ (26 + 1)) = 134217728 from rfl]); omega
  · (try rw [show ((2 : Int) ^ (27)) = 134217728 from rfl]); (try rw [show ((2 : Int) ^ (27 + 1)) = 268435456 from rfl]); omega
  · (try rw [show ((2 : Int) ^ (28)) = 268435456 from rfl]); (try rw [show ((2 : Int) ^ (28 + 1)) = 536870912 from rfl]); omega
  · (try rw [show ((2 : Int) ^ (29)) = 536870912 from rfl]); (try rw [show ((2 : Int) ^ (29 + 1)) = 1073741824 from rfl]); omega
  · (try rw [show ((2 : Int) ^ (30)) = 1073741824 from rfl]); (try rw [show ((2 : Int) ^ (30 + 1)) = 2147483648 from rfl]); omega
theorem sar_half (s a P : Int) (hs : -2147483648 ≤ s / P ∧ s / P ≤ 2147483647) : wrap32 (s / P % 4294967296) = s / P := by unfold wrap32; omega
set_option maxHeartbeats 4000000 in
theorem sar_step (a : Int) (h : 0 ≤ a ∧ a ≤ 4294967295) (j : Nat) (hj : 1 ≤ j ∧ j ≤ 30) :
    wrap32 (wrap32 a / 2 ^ j % 4294967296) / 2 % 4294967296 = wrap32 a / 2 ^ (j + 1) % 4294967296 ∧ wrap32 a / 2 ^ j % 4294967296 % 2 = a / 2 ^ j % 2 := by
  rcases (by omega : j = 1 ∨ j = 2 ∨ j = 3 ∨ j = 4 ∨ j = 5 ∨ j = 6 ∨ j = 7 ∨ j = 8 ∨ j = 9 ∨ j = 10 ∨ j = 11 ∨ j = 12 ∨ j = 13 ∨ j = 14 ∨ j = 15 ∨ j = 16 ∨ j = 17 ∨ j = 18 ∨ j = 19 ∨ j = 20 ∨ j = 21 ∨ j = 22 ∨ j = 23 ∨ j = 24 ∨ j = 25 ∨ j = 26 ∨ j = 27 ∨ j = 28 ∨ j = 29 ∨ j = 30) with rfl | rfl | rfl | rfl | rfl | rfl | rfl | rfl | rfl | rfl | rfl | rfl | rfl | rfl | rfl | rfl | rfl | rfl | rfl | rfl | rfl | rfl | rfl | rfl | rfl | rfl | rfl | rfl | rfl | rfl
  · (try rw [show ((2 : Int) ^ (1)) = 2 from rfl]); (try rw [show ((2 : Int) ^ (1 + 1)) = 4 from rfl])
    have hb := bd32 a
    have hw : wrap32 a = a ∨ wrap32 a = a - 4294967296 := by unfold wrap32; omega
    generalize wrap32 a = s at *
    rw [sar_half s a 2 (by omega)]
    omega
  · (try rw [show ((2 : Int) ^ (2)) = 4 from rfl]); (try rw [show ((2 : Int) ^ (2 + 1)) = 8 from rfl])
    have hb := bd32 a
    have hw : wrap32 a = a ∨ wrap32 a = a - 4294967296 := by unfold wrap32; omega
    generalize wrap32 a = s at *
    rw [sar_half s a 4 (by omega)]
    omega
  · (try rw [show ((2 : Int) ^ (3)) = 8 from rfl]); (try rw [show ((2 : Int) ^ (3 + 1)) = 16 from rfl])
    have hb := bd32 a
    have hw : wrap32 a = a ∨ wrap32 a = a - 4294967296 := by unfold wrap32; omega
    generalize wrap32 a = s at *
    rw [sar_half s a 8 (by omega)]
    omega
  · (try rw [show ((2 : Int) ^ (4)) = 16 from rfl]); (try rw [show ((2 : Int) ^ (4 + 1)) = 32 from rfl])
    have hb := bd32 a
    have hw : wrap32 a = a ∨ wrap32 a = a - 4294967296 := by unfold wrap32; omega
    generalize wrap32 a = s at *
    rw [sar_half s a 16 (by omega)]
    omega
  · (try rw [show ((2 : Int) ^ (5)) = 32 from rfl]); (try rw [show ((2 : Int) ^ (5 + 1)) = 64 from rfl])
    have hb := bd32 a
    have hw : wrap32 a = a ∨ wrap32 a = a - 4294967296 := by unfold wrap32; omega
    generalize wrap32 a = s at *
    rw [sar_half s a 32 (by omega)]
    omega
  · (try rw [show ((2 : Int) ^ (6)) = 64 from rfl]); (try rw [show ((2 : Int) ^ (6 + 1)) = 128 from rfl])
    have hb := bd32 a
    have hw : wrap32 a = a ∨ wrap32 a = a - 4294967296 := by unfold wrap32; omega
    generalize wrap32 a = s at *
    rw [sar_half s a 64 (by omega)]
    omega
  · (try rw [show ((2 : Int) ^ (7)) = 128 from rfl]); (try rw [show ((2 : Int) ^ (7 + 1)) = 256 from rfl])
    have hb := bd32 a
    have hw : wrap32 a = a ∨ wrap32 a = a - 4294967296 := by unfold wrap32; omega
    generalize wrap32 a = s at *
    rw [sar_half s a 128 (by omega)]
    omega
  · (try rw [show ((2 : Int) ^ (8)) = 256 from rfl]); (try rw [show ((2 : Int) ^ (8 + 1)) = 512 from rfl])
    have hb := bd32 a
    have hw : wrap32 a = a ∨ wrap32 a = a - 4294967296 := by unfold wrap32; omega
    generalize wrap32 a = s at *
    rw [sar_half s a 256 (by omega)]
    omega
  · (try rw [show ((2 : Int) ^ (9)) = 512 from rfl]); (try rw [show ((2 : Int) ^ (9 + 1)) = 1024 from rfl])
    have hb := bd32 a
    have hw : wrap32 a = a ∨ wrap32 a = a - 4294967296 := by unfold wrap32; omega
    generalize wrap32 a = s at *
    rw [sar_half s a 512 (by omega)]
    omega
  · (try rw [show ((2 : Int) ^ (10)) = 1024 from rfl]); (try rw [show ((2 : Int) ^ (10 + 1)) = 2048 from rfl])
    have hb := bd32 a
    have hw : wrap32 a = a ∨ wrap32 a = a - 4294967296 := by unfold wrap32; omega
    generalize wrap32 a = s at *
    rw [sar_half s a 1024 (by omega)]
    omega
  · (try rw [show ((2 : Int) ^ (11)) = 2048 from rfl]); (try rw [show ((2 : Int) ^ (11 + 1)) = 4096 from rfl])
    have hb := bd32 a
    have hw : wrap32 a = a ∨ wrap32 a = a - 4294967296 := by unfold wrap32; omega
    generalize wrap32 a = s at *
    rw [sar_half s a 2048 (by omega)]
    omega
  · (try rw [show ((2 : Int) ^ (12)) = 4096 from rfl]); (try rw [show ((2 : Int) ^ (12 + 1)) = 8192 from rfl])
    have hb := bd32 a
    have hw : wrap32 a = a ∨ wrap32 a = a - 4294967296 := by unfold wrap32; omega
    generalize wrap32 a = s at *
    rw [sar_half s a 4096 (by omega)]
    omega
  · (try rw [show ((2 : Int) ^ (13)) = 8192 from rfl]); (try rw [show ((2 : Int) ^ (13 + 1)) = 16384 from rfl])
    have hb := bd32 a
    have hw : wrap32 a = a ∨ wrap32 a = a - 4294967296 := by unfold wrap32; omega
    generalize wrap32 a = s at *
    rw [sar_half s a 8192 (by omega)]
    omega
  · (try rw [show ((2 : Int) ^ (14)) = 16384 from rfl]); (try rw [show ((2 : Int) ^ (14 + 1)) = 32768 from rfl])
    have hb := bd32 a
    have hw : wrap32 a = a ∨ wrap32 a = a - 4294967296 := by unfold wrap32; omega
    generalize wrap32 a = s at *
    rw [sar_half s a 16384 (by omega)]
    omega
  · (try rw [show ((2 : Int) ^ (15)) = 32768 from rfl]); (try rw [show ((2 : Int) ^ (15 + 1)) = 65536 from rfl])
    have hb := bd32 a
    have hw : wrap32 a = a ∨ wrap32 a = a - 4294967296 := by unfold wrap32; omega
    generalize wrap32 a = s at *
    rw [sar_half s a 32768 (by omega)]
    omega
  · (try rw [show ((2 : Int) ^ (16)) = 65536 from rfl]); (try rw [show ((2 : Int) ^ (16 + 1)) = 131072 from rfl])
    have hb := bd32 a
    have hw : wrap32 a = a ∨ wrap32 a = a - 4294967296 := by unfold wrap32; omega
    generalize wrap32 a = s at *
    rw [sar_half s a 65536 (by omega)]
    omega
  · (try rw [show ((2 : Int) ^ (17)) = 131072 from rfl]); (try rw [show ((2 : Int) ^ (17 + 1)) = 262144 from rfl])
    have hb := bd32 a
    have hw : wrap32 a = a ∨ wrap32 a = a - 4294967296 := by unfold wrap32; omega
    generalize wrap32 a = s at *
    rw [sar_half s a 131072 (by omega)]
    omega
  · (try rw [show ((2 : Int) ^ (18)) = 262144 from rfl]); (try rw [show ((2 : Int) ^ (18 + 1)) = 524288 from rfl])
    have hb := bd32 a
    have hw : wrap32 a = a ∨ wrap32 a = a - 4294967296 := by unfold wrap32; omega
    generalize wrap32 a = s at *
    rw [sar_half s a 262144 (by omega)]
    omega
  · (try rw [show ((2 : Int) ^ (19)) = 524288 from rfl]); (try rw [show ((2 : Int) ^ (19 + 1)) = 1048576 from rfl])
    have hb := bd32 a
    have hw : wrap32 a = a ∨ wrap32 a = a - 4294967296 := by unfold wrap32; omega
    generalize wrap32 a = s at *
    rw [sar_half s a 524288 (by omega)]
    omega
  · (try rw [show ((2 : Int) ^ (20)) = 1048576 from rfl]); (try rw [show ((2 : Int) ^ (20 + 1)) = 2097152 from rfl])
    have hb := bd32 a
    have hw : wrap32 a = a ∨ wrap32 a = a - 4294967296 := by unfold wrap32; omega
    generalize wrap32 a = s at *
    rw [sar_half s a 1048576 (by omega)]
    omega
  · (try rw [show ((2 : Int) ^ (21)) = 2097152 from rfl]); (try rw [show ((2 : Int) ^ (21 + 1)) = 4194304 from rfl])
    have hb := bd32 a
    have hw : wrap32 a = a ∨ wrap32 a = a - 4294967296 := by unfold wrap32; omega
    generalize wrap32 a = s at *
    rw [sar_half s a 2097152 (by omega)]
    omega
  · (try rw [show ((2 : Int) ^ (22)) = 4194304 from rfl]); (try rw [show ((2 : Int) ^ (22 + 1)) = 8388608 from rfl])
    have hb := bd32 a
    have hw : wrap32 a = a ∨ wrap32 a = a - 4294967296 := by unfold wrap32; omega
    generalize wrap32 a = s at *
    rw [sar_half s a 4194304 (by omega)]
    omega
  · (try rw [show ((2 : Int) ^ (23)) = 8388608 from rfl]); (try rw [show ((2 : Int) ^ (23 + 1)) = 16777216 from rfl])
    have hb := bd32 a
    have hw : wrap32 a = a ∨ wrap32 a = a - 4294967296 := by unfold wrap32; omega
    generalize wrap32 a = s at *
    rw [sar_half s a 8388608 (by omega)]
    omega
  · (try rw [show ((2 : Int) ^ (24)) = 16777216 from rfl]); (try rw [show ((2 : Int) ^ (24 + 1)) = 33554432 from rfl])
    have hb := bd32 a
    have hw : wrap32 a = a ∨ wrap32 a = a - 4294967296 := by unfold wrap32; omega
    generalize wrap32 a = s at *
    rw [sar_half s a 16777216 (by omega)]
    omega
  · (try rw [show ((2 : Int) ^ (25)) = 33554432 from rfl]); (try rw [show ((2 : Int) ^ (25 + 1)) = 67108864 from rfl])
    have hb := bd32 a
    have hw : wrap32 a = a ∨ wrap32 a = a - 4294967296 := by unfold wrap32; omega
    generalize wrap32 a = s at *
    rw [sar_half s a 33554432 (by omega)]
    omega
  · (try rw [show ((2 : Int) ^ (26)) = 67108864 from rfl]); (try rw [show ((2 : Int) ^ (26 + 1)) = 134217728 from rfl])
    have hb := bd32 a
    have hw : wrap32 a = a ∨ wrap32 a = a - 4294967296 := by unfold wrap32; omega
    generalize wrap32 a = s at *
    rw [sar_half s a 67108864 (by omega)]
    omega
  · (try rw [show ((2 : Int) ^ (27)) = 134217728 from rfl]); (try rw [show ((2 : Int) ^ (27 + 1)) = 268435456 from rfl])
    have hb := bd32 a
    have hw : wrap32 a = a ∨ wrap32 a = a - 4294967296 := by unfold wrap32; omega
    generalize wrap32 a = s at *
    rw [sar_half s a 134217728 (by omega)]
    omega
  · (try rw [show ((2 : Int) ^ (28)) = 268435456 from rfl]); (try rw [show ((2 : Int) ^ (28 + 1)) = 536870912 from rfl])
    have hb := bd32 a
    have hw : wrap32 a = a ∨ wrap32 a = a - 4294967296 := by unfold wrap32; omega
    generalize wrap32 a = s at *
    rw [sar_half s a 268435456 (by omega)]
    omega
  · (try rw [show ((2 : Int) ^ (29)) = 536870912 from rfl]); (try rw [show ((2 : Int) ^ (29 + 1)) = 1073741824 from rfl])
    have hb := bd32 a
    have hw : wrap32 a = a ∨ wrap32 a = a - 4294967296 := by unfold wrap32; omega
    generalize wrap32 a = s at *
    rw [sar_half s a 536870912 (by omega)]
    omega
  · (try rw [show ((2 : Int) ^ (30)) = 1073741824 from rfl]); (try rw [show ((2 : Int) ^ (30 + 1)) = 2147483648 from rfl])
    have hb := bd32 a
    have hw : wrap32 a = a ∨ wrap32 a = a - 4294967296 := by unfold wrap32; omega
    generalize wrap32 a = s at *
    rw [sar_half s a 1073741824 (by omega)]
    omega
set_option maxHeartbeats 4000000 in
theorem turn_back (a : Int) (h : 0 ≤ a ∧ a ≤ 4294967295) (j : Nat) (hj : 1 ≤ j ∧ j ≤ 31) :
    (a * 2 ^ j % 4294967296 + a / 2 ^ (32 - j)) * 2 ^ (32 - j) % 4294967296 + (a * 2 ^ j % 4294967296 + a / 2 ^ (32 - j)) / 2 ^ j = a := by
  rcases (by omega : j = 1 ∨ j = 2 ∨ j = 3 ∨ j = 4 ∨ j = 5 ∨ j = 6 ∨ j = 7 ∨ j = 8 ∨ j = 9 ∨ j = 10 ∨ j = 11 ∨ j = 12 ∨ j = 13 ∨ j = 14 ∨ j = 15 ∨ j = 16 ∨ j = 17 ∨ j = 18 ∨ j = 19 ∨ j = 20 ∨ j = 21 ∨ j = 22 ∨ j = 23 ∨ j = 24 ∨ j = 25 ∨ j = 26 ∨ j = 27 ∨ j = 28 ∨ j = 29 ∨ j = 30 ∨ j = 31) with rfl | rfl | rfl | rfl | rfl | rfl | rfl | rfl | rfl | rfl | rfl | rfl | rfl | rfl | rfl | rfl | rfl | rfl | rfl | rfl | rfl | rfl | rfl | rfl | rfl | rfl | rfl | rfl | rfl | rfl | rfl
  · (try rw [show ((2 : Int) ^ (1)) = 2 from rfl]); (try rw [show ((2 : Int) ^ (32 - 1)) = 2147483648 from rfl])
    obtain ⟨u, l, ha, b1, b3⟩ : ∃ u l : Int, a = u * 2147483648 + l ∧ (0 ≤ u ∧ u < 2) ∧ (0 ≤ l ∧ l < 2147483648) := ⟨a / 2147483648, a % 2147483648, by omega, by omega, by omega⟩
    have e1 : a * 2 % 4294967296 = l * 2 := by omega
    have e2 : a / 2147483648 = u := by omega
    rw [e1, e2, ha]
    clear e1 e2 ha h
    have e5 : (l * 2 + u) * 2147483648 % 4294967296 = u * 2147483648 := by omega
    have e6 : (l * 2 + u) / 2 = l := by omega
    rw [e5, e6]
  · (try rw [show ((2 : Int) ^ (2)) = 4 from rfl]); (try rw [show ((2 : Int) ^ (32 - 2)) = 1073741824 from rfl])
    obtain ⟨u, l, ha, b1, b3⟩ : ∃ u l : Int, a = u * 1073741824 + l ∧ (0 ≤ u ∧ u < 4) ∧ (0 ≤ l ∧ l < 1073741824) := ⟨a / 1073741824, a % 1073741824, by omega, by omega, by omega⟩
    have e1 : a * 4 % 4294967296 = l * 4 := by omega
    have e2 : a / 1073741824 = u := by omega
    rw [e1, e2, ha]
    clear e1 e2 ha h
    have e5 : (l * 4 + u) * 1073741824 % 4294967296 = u * 1073741824 := by omega
    have e6 : (l * 4 + u) / 4 = l := by omega
    rw [e5, e6]
  · (try rw [show ((2 : Int) ^ (3)) = 8 from rfl]); (try rw [show ((2 : Int) ^ (32 - 3)) = 536870912 from rfl])
    obtain ⟨u, l, ha, b1, b3⟩ : ∃ u l : Int, a = u * 536870912 + l ∧ (0 ≤ u ∧ u < 8) ∧ (0 ≤ l ∧ l < 536870912) := ⟨a / 536870912, a % 536870912, by omega, by omega, by omega⟩
    have e1 : a * 8 % 4294967296 = l * 8 := by omega
    have e2 : a / 536870912 = u := by omega
    rw [e1, e2, ha]
    clear e1 e2 ha h
    have e5 : (l * 8 + u) * 536870912 % 4294967296 = u * 536870912 := by omega
    have e6 : (l * 8 + u) / 8 = l := by omega
    rw [e5, e6]
  · (try rw [show ((2 : Int) ^ (4)) = 16 from rfl]); (try rw [show ((2 : Int) ^ (32 - 4)) = 268435456 from rfl])
    obtain ⟨u, l, ha, b1, b3⟩ : ∃ u l : Int, a = u * 268435456 + l ∧ (0 ≤ u ∧ u < 16) ∧ (0 ≤ l ∧ l < 268435456) := ⟨a / 268435456, a % 268435456, by omega, by omega, by omega⟩
    have e1 : a * 16 % 4294967296 = l * 16 := by omega
    have e2 : a / 268435456 = u := by omega
    rw [e1, e2, ha]
    clear e1 e2 ha h
    have e5 : (l * 16 + u) * 268435456 % 4294967296 = u * 268435456 := by omega
    have e6 : (l * 16 + u) / 16 = l := by omega
    rw [e5, e6]
  · (try rw [show ((2 : Int) ^ (5)) = 32 from rfl]); (try rw [show ((2 : Int) ^ (32 - 5)) = 134217728 from rfl])
    obtain ⟨u, l, ha, b1, b3⟩ : ∃ u l : Int, a = u * 134217728 + l ∧ (0 ≤ u ∧ u < 32) ∧ (0 ≤ l ∧ l < 134217728) := ⟨a / 134217728, a % 134217728, by omega, by omega, by omega⟩
    have e1 : a * 32 % 4294967296 = l * 32 := by omega
    have e2 : a / 134217728 = u := by omega
    rw [e1, e2, ha]
    clear e1 e2 ha h
    have e5 : (l * 32 + u) * 134217728 % 4294967296 = u * 134217728 := by omega
    have e6 : (l * 32 + u) / 32 = l := by omega
    rw [e5, e6]
  · (try rw [show ((2 : Int) ^ (6)) = 64 from rfl]); (try rw [show ((2 : Int) ^ (32 - 6)) = 67108864 from rfl])
    obtain ⟨u, l, ha, b1, b3⟩ : ∃ u l : Int, a = u * 67108864 + l ∧ (0 ≤ u ∧ u < 64) ∧ (0 ≤ l ∧ l < 67108864) := ⟨a / 67108864, a % 67108864, by omega, by omega, by omega⟩
    have e1 : a * 64 % 4294967296 = l * 64 := by omega
    have e2 : a / 67108864 = u := by omega
    rw [e1, e2, ha]
    clear e1 e2 ha h
    have e5 : (l * 64 + u) * 67108864 % 4294967296 = u * 67108864 := by omega
    have e6 : (l * 64 + u) / 64 = l := by omega
    rw [e5, e6]
  · (try rw [show ((2 : Int) ^ (7)) = 128 from rfl]); (try rw [show ((2 : Int) ^ (32 - 7)) = 33554432 from rfl])
    obtain ⟨u, l, ha, b1, b3⟩ : ∃ u l : Int, a = u * 33554432 + l ∧ (0 ≤ u ∧ u < 128) ∧ (0 ≤ l ∧ l < 33554432) := ⟨a / 33554432, a % 33554432, by omega, by omega, by omega⟩
    have e1 : a * 128 % 4294967296 = l * 128 := by omega
    have e2 : a / 33554432 = u := by omega
    rw [e1, e2, ha]
    clear e1 e2 ha h
    have e5 : (l * 128 + u) * 33554432 % 4294967296 = u * 33554432 := by omega
    have e6 : (l * 128 + u) / 128 = l := by omega
    rw [e5, e6]
  · (try rw [show ((2 : Int) ^ (8)) = 256 from rfl]); (try rw [show ((2 : Int) ^ (32 - 8)) = 16777216 from rfl])
    obtain ⟨u, l, ha, b1, b3⟩ : ∃ u l : Int, a = u * 16777216 + l ∧ (0 ≤ u ∧ u < 256) ∧ (0 ≤ l ∧ l < 16777216) := ⟨a / 16777216, a % 16777216, by omega, by omega, by omega⟩
    have e1 : a * 256 % 4294967296 = l * 256 := by omega
    have e2 : a / 16777216 = u := by omega
    rw [e1, e2, ha]
    clear e1 e2 ha h
    have e5 : (l * 256 + u) * 16777216 % 4294967296 = u * 16777216 := by omega
    have e6 : (l * 256 + u) / 256 = l := by omega
    rw [e5, e6]
  · (try rw [show ((2 : Int) ^ (9)) = 512 from rfl]); (try rw [show ((2 : Int) ^ (32 - 9)) = 8388608 from rfl])
    obtain ⟨u, l, ha, b1, b3⟩ : ∃ u l : Int, a = u * 8388608 + l ∧ (0 ≤ u ∧ u < 512) ∧ (0 ≤ l ∧ l < 8388608) := ⟨a / 8388608, a % 8388608, by omega, by omega, by omega⟩
    have e1 : a * 512 % 4294967296 = l * 512 := by omega
    have e2 : a / 8388608 = u := by omega
    rw [e1, e2, ha]
    clear e1 e2 ha h
    have e5 : (l * 512 + u) * 8388608 % 4294967296 = u * 8388608 := by omega
    have e6 : (l * 512 + u) / 512 = l := by omega
    rw [e5, e6]
  · (try rw [show ((2 : Int) ^ (10)) = 1024 from rfl]); (try rw [show ((2 : Int) ^ (32 - 10)) = 4194304 from rfl])
    obtain ⟨u, l, ha, b1, b3⟩ : ∃ u l : Int, a = u * 4194304 + l ∧ (0 ≤ u ∧ u < 1024) ∧ (0 ≤ l ∧ l < 4194304) := ⟨a / 4194304, a % 4194304, by omega, by omega, by omega⟩
    have e1 : a * 1024 % 4294967296 = l * 1024 := by omega
    have e2 : a / 4194304 = u := by omega
    rw [e1, e2, ha]
    clear e1 e2 ha h
    have e5 : (l * 1024 + u) * 4194304 % 4294967296 = u * 4194304 := by omega
    have e6 : (l * 1024 + u) / 1024 = l := by omega
    rw [e5, e6]
  · (try rw [show ((2 : Int) ^ (11)) = 2048 from rfl]); (try rw [show ((2 : Int) ^ (32 - 11)) = 2097152 from rfl])
    obtain ⟨u, l, ha, b1, b3⟩ : ∃ u l : Int, a = u * 2097152 + l ∧ (0 ≤ u ∧ u < 2048) ∧ (0 ≤ l ∧ l < 2097152) := ⟨a / 2097152, a % 2097152, by omega, by omega, by omega⟩
    have e1 : a * 2048 % 4294967296 = l * 2048 := by omega
    have e2 : a / 2097152 = u := by omega
    rw [e1, e2, ha]
    clear e1 e2 ha h
    have e5 : (l * 2048 + u) * 2097152 % 4294967296 = u * 2097152 := by omega
    have e6 : (l * 2048 + u) / 2048 = l := by omega
    rw [e5, e6]
  · (try rw [show ((2 : Int) ^ (12)) = 4096 from rfl]); (try rw [show ((2 : Int) ^ (32 - 12)) = 1048576 from rfl])
    obtain ⟨u, l, ha, b1, b3⟩ : ∃ u l : Int, a = u * 1048576 + l ∧ (0 ≤ u ∧ u < 4096) ∧ (0 ≤ l ∧ l < 1048576) := ⟨a / 1048576, a % 1048576, by omega, by omega, by omega⟩
    have e1 : a * 4096 % 4294967296 = l * 4096 := by omega
    have e2 : a / 1048576 = u := by omega
    rw [e1, e2, ha]
    clear e1 e2 ha h
    have e5 : (l * 4096 + u) * 1048576 % 4294967296 = u * 1048576 := by omega
    have e6 : (l * 4096 + u) / 4096 = l := by omega
    rw [e5, e6]
  · (try rw [show ((2 : Int) ^ (13)) = 8192 from rfl]); (try rw [show ((2 : Int) ^ (32 - 13)) = 524288 from rfl])
    obtain ⟨u, l, ha, b1, b3⟩ : ∃ u l : Int, a = u * 524288 + l ∧ (0 ≤ u ∧ u < 8192) ∧ (0 ≤ l ∧ l < 524288) := ⟨a / 524288, a % 524288, by omega, by omega, by omega⟩
    have e1 : a * 8192 % 4294967296 = l * 8192 := by omega
    have e2 : a / 524288 = u := by omega
    rw [e1, e2, ha]
    clear e1 e2 ha h
    have e5 : (l * 8192 + u) * 524288 % 4294967296 = u * 524288 := by omega
    have e6 : (l * 8192 + u) / 8192 = l := by omega
    rw [e5, e6]
  · (try rw [show ((2 : Int) ^ (14)) = 16384 from rfl]); (try rw [show ((2 : Int) ^ (32 - 14)) = 262144 from rfl])
    obtain ⟨u, l, ha, b1, b3⟩ : ∃ u l : Int, a = u * 262144 + l ∧ (0 ≤ u ∧ u < 16384) ∧ (0 ≤ l ∧ l < 262144) := ⟨a / 262144, a % 262144, by omega, by omega, by omega⟩
    have e1 : a * 16384 % 4294967296 = l * 16384 := by omega
    have e2 : a / 262144 = u := by omega
    rw [e1, e2, ha]
    clear e1 e2 ha h
    have e5 : (l * 16384 + u) * 262144 % 4294967296 = u * 262144 := by omega
    have e6 : (l * 16384 + u) / 16384 = l := by omega
    rw [e5, e6]
  · (try rw [show ((2 : Int) ^ (15)) = 32768 from rfl]); (try rw [show ((2 : Int) ^ (32 - 15)) = 131072 from rfl])
    obtain ⟨u, l, ha, b1, b3⟩ : ∃ u l : Int, a = u * 131072 + l ∧ (0 ≤ u ∧ u < 32768) ∧ (0 ≤ l ∧ l < 131072) := ⟨a / 131072, a % 131072, by omega, by omega, by omega⟩
    have e1 : a * 32768 % 4294967296 = l * 32768 := by omega
    have e2 : a / 131072 = u := by omega
    rw [e1, e2, ha]
    clear e1 e2 ha h
    have e5 : (l * 32768 + u) * 131072 % 4294967296 = u * 131072 := by omega
    have e6 : (l * 32768 + u) / 32768 = l := by omega
    rw [e5, e6]
  · (try rw [show ((2 : Int) ^ (16)) = 65536 from rfl]); (try rw [show ((2 : Int) ^ (32 - 16)) = 65536 from rfl])
    obtain ⟨u, l, ha, b1, b3⟩ : ∃ u l : Int, a = u * 65536 + l ∧ (0 ≤ u ∧ u < 65536) ∧ (0 ≤ l ∧ l < 65536) := ⟨a / 65536, a % 65536, by omega, by omega, by omega⟩
    have e1 : a * 65536 % 4294967296 = l * 65536 := by omega
    have e2 : a / 65536 = u := by omega
    rw [e1, e2, ha]
    clear e1 e2 ha h
    have e5 : (l * 65536 + u) * 65536 % 4294967296 = u * 65536 := by omega
    have e6 : (l * 65536 + u) / 65536 = l := by omega
    rw [e5, e6]
  · (try rw [show ((2 : Int) ^ (17)) = 131072 from rfl]); (try rw [show ((2 : Int) ^ (32 - 17)) = 32768 from rfl])
    obtain ⟨u, l, ha, b1, b3⟩ : ∃ u l : Int, a = u * 32768 + l ∧ (0 ≤ u ∧ u < 131072) ∧ (0 ≤ l ∧ l < 32768) := ⟨a / 32768, a % 32768, by omega, by omega, by omega⟩
    have e1 : a * 131072 % 4294967296 = l * 131072 := by omega
    have e2 : a / 32768 = u := by omega
    rw [e1, e2, ha]
    clear e1 e2 ha h
    have e5 : (l * 131072 + u) * 32768 % 4294967296 = u * 32768 := by omega
    have e6 : (l * 131072 + u) / 131072 = l := by omega
    rw [e5, e6]
  · (try rw [show ((2 : Int) ^ (18)) = 262144 from rfl]); (try rw [show ((2 : Int) ^ (32 - 18)) = 16384 from rfl])
    obtain ⟨u, l, ha, b1, b3⟩ : ∃ u l : Int, a = u * 16384 + l ∧ (0 ≤ u ∧ u < 262144) ∧ (0 ≤ l ∧ l < 16384) := ⟨a / 16384, a % 16384, by omega, by omega, by omega⟩
    have e1 : a * 262144 % 4294967296 = l * 262144 := by omega
    have e2 : a / 16384 = u := by omega
    rw [e1, e2, ha]
    clear e1 e2 ha h
    have e5 : (l * 262144 + u) * 16384 % 4294967296 = u * 16384 := by omega
    have e6 : (l * 262144 + u) / 262144 = l := by omega
    rw [e5, e6]
  · (try rw [show ((2 : Int) ^ (19)) = 524288 from rfl]); (try rw [show ((2 : Int) ^ (32 - 19)) = 8192 from rfl])
    obtain ⟨u, l, ha, b1, b3⟩ : ∃ u l : Int, a = u * 8192 + l ∧ (0 ≤ u ∧ u < 524288) ∧ (0 ≤ l ∧ l < 8192) := ⟨a / 8192, a % 8192, by omega, by omega, by omega⟩
    have e1 : a * 524288 % 4294967296 = l * 524288 := by omega
    have e2 : a / 8192 = u := by omega
    rw [e1, e2, ha]
    clear e1 e2 ha h
    have e5 : (l * 524288 + u) * 8192 % 4294967296 = u * 8192 := by omega
    have e6 : (l * 524288 + u) / 524288 = l := by omega
    rw [e5, e6]
  · (try rw [show ((2 : Int) ^ (20)) = 1048576 from rfl]); (try rw [show ((2 : Int) ^ (32 - 20)) = 4096 from rfl])
    obtain ⟨u, l, ha, b1, b3⟩ : ∃ u l : Int, a = u * 4096 + l ∧ (0 ≤ u ∧ u < 1048576) ∧ (0 ≤ l ∧ l < 4096) := ⟨a / 4096, a % 4096, by omega, by omega, by omega⟩
    have e1 : a * 1048576 % 4294967296 = l * 1048576 := by omega
    have e2 : a / 4096 = u := by omega
    rw [e1, e2, ha]
    clear e1 e2 ha h
    have e5 : (l * 1048576 + u) * 4096 % 4294967296 = u * 4096 := by omega
    have e6 : (l * 1048576 + u) / 1048576 = l := by omega
    rw [e5, e6]
  · (try rw [show ((2 : Int) ^ (21)) = 2097152 from rfl]); (try rw [show ((2 : Int) ^ (32 - 21)) = 2048 from rfl])
    obtain ⟨u, l, ha, b1, b3⟩ : ∃ u l : Int, a = u * 2048 + l ∧ (0 ≤ u ∧ u < 2097152) ∧ (0 ≤ l ∧ l < 2048) := ⟨a / 2048, a % 2048, by omega, by omega, by omega⟩
    have e1 : a * 2097152 % 4294967296 = l * 2097152 := by omega
    have e2 : a / 2048 = u := by omega
    rw [e1, e2, ha]
    clear e1 e2 ha h
    have e5 : (l * 2097152 + u) * 2048 % 4294967296 = u * 2048 := by omega
    have e6 : (l * 2097152 + u) / 2097152 = l := by omega
    rw [e5, e6]
  · (try rw [show ((2 : Int) ^ (22)) = 4194304 from rfl]); (try rw [show ((2 : Int) ^ (32 - 22)) = 1024 from rfl])
    obtain ⟨u, l, ha, b1, b3⟩ : ∃ u l : Int, a = u * 1024 + l ∧ (0 ≤ u ∧ u < 4194304) ∧ (0 ≤ l ∧ l < 1024) := ⟨a / 1024, a % 1024, by omega, by omega, by omega⟩
    have e1 : a * 4194304 % 4294967296 = l * 4194304 := by omega
    have e2 : a / 1024 = u := by omega
    rw [e1, e2, ha]
    clear e1 e2 ha h
    have e5 : (l * 4194304 + u) * 1024 % 4294967296 = u * 1024 := by omega
    have e6 : (l * 4194304 + u) / 4194304 = l := by omega
    rw [e5, e6]
  · (try rw [show ((2 : Int) ^ (23)) = 8388608 from rfl]); (try rw [show ((2 : Int) ^ (32 - 23)) = 512 from rfl])
    obtain ⟨u, l, ha, b1, b3⟩ : ∃ u l : Int, a = u * 512 + l ∧ (0 ≤ u ∧ u < 8388608) ∧ (0 ≤ l ∧ l < 512) := ⟨a / 512, a % 512, by omega, by omega, by omega⟩
    have e1 : a * 8388608 % 4294967296 = l * 8388608 := by omega
    have e2 : a / 512 = u := by omega
    rw [e1, e2, ha]
    clear e1 e2 ha h
    have e5 : (l * 8388608 + u) * 512 % 4294967296 = u * 512 := by omega
    have e6 : (l * 8388608 + u) / 8388608 = l := by omega
    rw [e5, e6]
  · (try rw [show ((2 : Int) ^ (24)) = 16777216 from rfl]); (try rw [show ((2 : Int) ^ (32 - 24)) = 256 from rfl])
    obtain ⟨u, l, ha, b1, b3⟩ : ∃ u l : Int, a = u * 256 + l ∧ (0 ≤ u ∧ u < 16777216) ∧ (0 ≤ l ∧ l < 256) := ⟨a / 256, a % 256, by omega, by omega, by omega⟩
    have e1 : a * 16777216 % 4294967296 = l * 16777216 := by omega
    have e2 : a / 256 = u := by omega
    rw [e1, e2, ha]
    clear e1 e2 ha h
    have e5 : (l * 16777216 + u) * 256 % 4294967296 = u * 256 := by omega
    have e6 : (l * 16777216 + u) / 16777216 = l := by omega
    rw [e5, e6]
  · (try rw [show ((2 : Int) ^ (25)) = 33554432 from rfl]); (try rw [show ((2 : Int) ^ (32 - 25)) = 128 from rfl])
    obtain ⟨u, l, ha, b1, b3⟩ : ∃ u l : Int, a = u * 128 + l ∧ (0 ≤ u ∧ u < 33554432) ∧ (0 ≤ l ∧ l < 128) := ⟨a / 128, a % 128, by omega, by omega, by omega⟩
    have e1 : a * 33554432 % 4294967296 = l * 33554432 := by omega
    have e2 : a / 128 = u := by omega
    rw [e1, e2, ha]
    clear e1 e2 ha h
    have e5 : (l * 33554432 + u) * 128 % 4294967296 = u * 128 := by omega
    have e6 : (l * 33554432 + u) / 33554432 = l := by omega
    rw [e5, e6]
  · (try rw [show ((2 : Int) ^ (26)) = 67108864 from rfl]); (try rw [show ((2 : Int) ^ (32 - 26)) = 64 from rfl])
    obtain ⟨u, l, ha, b1, b3⟩ : ∃ u l : Int, a = u * 64 + l ∧ (0 ≤ u ∧ u < 67108864) ∧ (0 ≤ l ∧ l < 64) := ⟨a / 64, a % 64, by omega, by omega, by omega⟩
    have e1 : a * 67108864 % 4294967296 = l * 67108864 := by omega
    have e2 : a / 64 = u := by omega
    rw [e1, e2, ha]
    clear e1 e2 ha h
    have e5 : (l * 67108864 + u) * 64 % 4294967296 = u * 64 := by omega
    have e6 : (l * 67108864 + u) / 67108864 = l := by omega
    rw [e5, e6]
  · (try rw [show ((2 : Int) ^ (27)) = 134217728 from rfl]); (try rw [show ((2 : Int) ^ (32 - 27)) = 32 from rfl])
    obtain ⟨u, l, ha, b1, b3⟩ : ∃ u l : Int, a = u * 32 + l ∧ (0 ≤ u ∧ u < 134217728) ∧ (0 ≤ l ∧ l < 32) := ⟨a / 32, a % 32, by omega, by omega, by omega⟩
    have e1 : a * 134217728 % 4294967296 = l * 134217728 := by omega
    have e2 : a / 32 = u := by omega
    rw [e1, e2, ha]
    clear e1 e2 ha h
    have e5 : (l * 134217728 + u) * 32 % 4294967296 = u * 32 := by omega
    have e6 : (l * 134217728 + u) / 134217728 = l := by omega
    rw [e5, e6]
  · (try rw [show ((2 : Int) ^ (28)) = 268435456 from rfl]); (try rw [show ((2 : Int) ^ (32 - 28)) = 16 from rfl])
    obtain ⟨u, l, ha, b1, b3⟩ : ∃ u l : Int, a = u * 16 + l ∧ (0 ≤ u ∧ u < 268435456) ∧ (0 ≤ l ∧ l < 16) := ⟨a / 16, a % 16, by omega, by omega, by omega⟩
    have e1 : a * 268435456 % 4294967296 = l * 268435456 := by omega
    have e2 : a / 16 = u := by omega
    rw [e1, e2, ha]
    clear e1 e2 ha h
    have e5 : (l * 268435456 + u) * 16 % 4294967296 = u * 16 := by omega
    have e6 : (l * 268435456 + u) / 268435456 = l := by omega
    rw [e5, e6]
  · (try rw [show ((2 : Int) ^ (29)) = 536870912 from rfl]); (try rw [show ((2 : Int) ^ (32 - 29)) = 8 from rfl])
    obtain ⟨u, l, ha, b1, b3⟩ : ∃ u l : Int, a = u * 8 + l ∧ (0 ≤ u ∧ u < 536870912) ∧ (0 ≤ l ∧ l < 8) := ⟨a / 8, a % 8, by omega, by omega, by omega⟩
    have e1 : a * 536870912 % 4294967296 = l * 536870912 := by omega
    have e2 : a / 8 = u := by omega
    rw [e1, e2, ha]
    clear e1 e2 ha h
    have e5 : (l * 536870912 + u) * 8 % 4294967296 = u * 8 := by omega
    have e6 : (l * 536870912 + u) / 536870912 = l := by omega
    rw [e5, e6]
  · (try rw [show ((2 : Int) ^ (30)) = 1073741824 from rfl]); (try rw [show ((2 : Int) ^ (32 - 30)) = 4 from rfl])
    obtain ⟨u, l, ha, b1, b3⟩ : ∃ u l : Int, a = u * 4 + l ∧ (0 ≤ u ∧ u < 1073741824) ∧ (0 ≤ l ∧ l < 4) := ⟨a / 4, a % 4, by omega, by omega, by omega⟩
    have e1 : a * 1073741824 % 4294967296 = l * 1073741824 := by omega
    have e2 : a / 4 = u := by omega
    rw [e1, e2, ha]
    clear e1 e2 ha h
    have e5 : (l * 1073741824 + u) * 4 % 4294967296 = u * 4 := by omega
    have e6 : (l * 1073741824 + u) / 1073741824 = l := by omega
    rw [e5, e6]
  · (try rw [show ((2 : Int) ^ (31)) = 2147483648 from rfl]); (try rw [show ((2 : Int) ^ (32 - 31)) = 2 from rfl])
    obtain ⟨u, l, ha, b1, b3⟩ : ∃ u l : Int, a = u * 2 + l ∧ (0 ≤ u ∧ u < 2147483648) ∧ (0 ≤ l ∧ l < 2) := ⟨a / 2, a % 2, by omega, by omega, by omega⟩
    have e1 : a * 2147483648 % 4294967296 = l * 2147483648 := by omega
    have e2 : a / 2 = u := by omega
    rw [e1, e2, ha]
    clear e1 e2 ha h
    have e5 : (l * 2147483648 + u) * 2 % 4294967296 = u * 2 := by omega
    have e6 : (l * 2147483648 + u) / 2147483648 = l := by omega
    rw [e5, e6]
end Go.Proofs.YtgeeecoclhomiaaDoor
