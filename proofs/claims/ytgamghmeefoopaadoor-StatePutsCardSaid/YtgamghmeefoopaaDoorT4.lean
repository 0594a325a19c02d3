/- Bytes of registers. -/
import Derived.Test.YtgamghmeefoopaaDoorT2
namespace Go.Proofs.YtgamghmeefoopaaDoor
open Go.RowKit
set_option linter.unusedVariables false
set_option linter.unusedSimpArgs false
set_option linter.unusedSectionVars false

/-- Byte b (0 or 1) of x. -/
def byteL (x : Int) (b : Nat) : Int := if b = 0 then x % 256 else x / 256 % 256
/-- x with byte b as v's lowest. -/
def setB (x : Int) (b : Nat) (v : Int) : Int := if b = 0 then x - x % 256 + v % 256 else x - x / 256 % 256 * 256 + v % 256 * 256
def setr (g : Gs) (j : Nat) (v : Int) : Gs := { g with r := fun k => if k = j then v else g.r k }
def reg8L (g : Gs) (i : Nat) : Int := byteL (g.r (i % 4)) (i / 4)
def set8L (g : Gs) (i : Nat) (v : Int) : Gs := setr g (i % 4) (setB (g.r (i % 4)) (i / 4) v)
/-- The number of a byte's register: i modulo 8. -/
def no8 (i : Int) : Nat := (i % 8).toNat
theorem no8_lt (i : Int) : no8 i < 8 := by unfold no8; omega
theorem setB_bd {x v : Int} (hx : 0 ≤ x ∧ x ≤ 4294967295) (b : Nat) : 0 ≤ setB x b v ∧ setB x b v ≤ 4294967295 := by
  unfold setB; split <;> omega
theorem set8L_ok {g : Gs} (h : g.ok) (i : Nat) (v : Int) : (set8L g i v).ok := by
  refine ⟨fun k => ?_, h.pc, h.x⟩
  show 0 ≤ (if k = i % 4 then setB (g.r (i % 4)) (i / 4) v else g.r k) ∧ (if k = i % 4 then setB (g.r (i % 4)) (i / 4) v else g.r k) ≤ 4294967295
  split
  · exact setB_bd (h.r _) _
  · exact h.r _
theorem and7 (n : Int) : bits .and .i64 n 7 = n % 8 := by
  have h7 : (BitVec.ofInt 64 7).toNat = 2 ^ 3 - 1 := by decide
  have key : (BitVec.ofInt 64 n &&& BitVec.ofInt 64 7).toNat = (n % ((2 ^ 64 : Nat) : Int)).toNat % 2 ^ 3 := by
    rw [BitVec.toNat_and, BitVec.toNat_ofInt, h7, Nat.and_two_pow_sub_one_eq_mod]
  show IntKind.i64.wrap ((BitVec.ofInt 64 n &&& BitVec.ofInt 64 7).toNat : Nat) = n % 8
  rw [key, IntKind.wrap_i64]
  omega
theorem and15 (n : Int) : bits .and .i64 n 15 = n % 16 := by
  have h15 : (BitVec.ofInt 64 15).toNat = 2 ^ 4 - 1 := by decide
  have key : (BitVec.ofInt 64 n &&& BitVec.ofInt 64 15).toNat = (n % ((2 ^ 64 : Nat) : Int)).toNat % 2 ^ 4 := by
    rw [BitVec.toNat_and, BitVec.toNat_ofInt, h15, Nat.and_two_pow_sub_one_eq_mod]
  show IntKind.i64.wrap ((BitVec.ofInt 64 n &&& BitVec.ofInt 64 15).toNat : Nat) = n % 16
  rw [key, IntKind.wrap_i64]
  omega
theorem and1 (n : Int) : bits .and .i64 n 1 = n % 2 := by
  have h1 : (BitVec.ofInt 64 1).toNat = 2 ^ 1 - 1 := by decide
  have key : (BitVec.ofInt 64 n &&& BitVec.ofInt 64 1).toNat = (n % ((2 ^ 64 : Nat) : Int)).toNat % 2 ^ 1 := by
    rw [BitVec.toNat_and, BitVec.toNat_ofInt, h1, Nat.and_two_pow_sub_one_eq_mod]
  show IntKind.i64.wrap ((BitVec.ofInt 64 n &&& BitVec.ofInt 64 1).toNat : Nat) = n % 2
  rw [key, IntKind.wrap_i64]
  omega
theorem u32_and_low (x : Int) (hx : 0 ≤ x ∧ x ≤ 4294967295) : bits .and .u32 x 255 = x % 256 := by
  obtain ⟨X, rfl⟩ := Int.eq_ofNat_of_zero_le hx.1
  have := u32_and_nat X 255 (by omega) (by decide)
  rw [show (255 : Int) = ((255 : Nat) : Int) from rfl, this, show (255 : Nat) = 2 ^ 8 - 1 by decide, Nat.and_two_pow_sub_one_eq_mod]
  omega
/-- Parts of a word on two sides of a place. -/
theorem split_and (X m k : Nat) (hm : m < 2 ^ k) : X &&& (2 ^ k * (2 ^ (32 - k) - 1) + m) = X / 2 ^ k % 2 ^ (32 - k) * 2 ^ k + (X % 2 ^ k &&& m) := by
  apply Nat.eq_of_testBit_eq
  intro i
  rw [Nat.testBit_and, Nat.mul_comm (X / 2 ^ k % 2 ^ (32 - k)) (2 ^ k), Nat.testBit_two_pow_mul_add _ hm, Nat.testBit_two_pow_mul_add _ (Nat.lt_of_le_of_lt Nat.and_le_right hm)]
  by_cases h : i < k
  · simp [h, Nat.testBit_and, Nat.testBit_mod_two_pow]
  · simp [h, Nat.testBit_two_pow_sub_one, Nat.testBit_mod_two_pow, Nat.testBit_div_two_pow]
    rw [show i - k + k = i by omega, Bool.and_comm]
theorem andNot_low (x : Int) (hx : 0 ≤ x ∧ x ≤ 4294967295) : bits .andNot .u32 x 255 = x - x % 256 := by
  obtain ⟨X, rfl⟩ := Int.eq_ofNat_of_zero_le hx.1
  rw [show (255 : Int) = ((255 : Nat) : Int) from rfl, u32_andNot_nat X 255 (by omega) (by decide), show 4294967295 - 255 = 2 ^ 8 * (2 ^ (32 - 8) - 1) + 0 by decide, split_and X 0 8 (by decide), Nat.and_zero]
  omega
theorem andNot_mid (x : Int) (hx : 0 ≤ x ∧ x ≤ 4294967295) : bits .andNot .u32 x 65280 = x - x / 256 % 256 * 256 := by
  obtain ⟨X, rfl⟩ := Int.eq_ofNat_of_zero_le hx.1
  rw [show (65280 : Int) = ((65280 : Nat) : Int) from rfl, u32_andNot_nat X 65280 (by omega) (by decide), show 4294967295 - 65280 = 2 ^ 16 * (2 ^ (32 - 16) - 1) + (2 ^ 8 - 1) by decide, split_and X (2 ^ 8 - 1) 16 (by decide), Nat.and_two_pow_sub_one_eq_mod]
  omega
theorem or_low (x v : Int) (hx : 0 ≤ x ∧ x ≤ 4294967295) : bits .or .u32 (x - x % 256) (v % 256) = x - x % 256 + v % 256 := by
  obtain ⟨X, rfl⟩ := Int.eq_ofNat_of_zero_le hx.1
  obtain ⟨V, hV⟩ := Int.eq_ofNat_of_zero_le (show 0 ≤ v % 256 by omega)
  rw [hV, show (X : Int) - X % 256 = ((X / 256 * 2 ^ 8 : Nat) : Int) by omega, u32_or_nat' _ _ (by omega) (by omega), Nat.or_comm, or_add 8 (by omega)]
  omega
theorem sum_256 (V Y : Nat) : V * 2 ^ 8 + Y * 2 ^ 16 = (V + Y * 2 ^ 8) * 2 ^ 8 := by
  rw [Nat.add_mul, Nat.mul_assoc, ← Nat.pow_add]
theorem or_mid (x v : Int) (hx : 0 ≤ x ∧ x ≤ 4294967295) : bits .or .u32 (x - x / 256 % 256 * 256) (v % 256 * 256) = x - x / 256 % 256 * 256 + v % 256 * 256 := by
  obtain ⟨X, rfl⟩ := Int.eq_ofNat_of_zero_le hx.1
  obtain ⟨V, hV⟩ := Int.eq_ofNat_of_zero_le (show 0 ≤ v % 256 by omega)
  have hV2 : V < 256 := by omega
  rw [hV, show (X : Int) - X / 256 % 256 * 256 = ((X / 65536 * 65536 + X % 256 : Nat) : Int) by omega, show (V : Int) * 256 = ((V * 2 ^ 8 : Nat) : Int) by omega, u32_or_nat' _ _ (by omega) (by omega)]
  have e : (X / 65536 * 65536 + X % 256) ||| V * 2 ^ 8 = X / 65536 * 65536 + X % 256 + V * 2 ^ 8 := by
    have e1 : X / 65536 * 65536 + X % 256 = X % 256 ||| X / 65536 * 2 ^ 16 := by rw [or_add 16 (by omega)]; omega
    have e2 : V * 2 ^ 8 ||| X / 65536 * 2 ^ 16 = (V + X / 65536 * 2 ^ 8) * 2 ^ 8 := by
      exact (or_add (a := V * 2 ^ 8) (b := X / 65536) 16 (by clear e1; omega)).trans (sum_256 _ _)
    have e3 := or_add (a := X % 256) (b := V + X / 65536 * 2 ^ 8) 8 (by omega)
    rw [e1, Nat.or_assoc, Nat.or_comm (X / 65536 * 2 ^ 16), e2, e3]
    omega
  rw [e]
  omega
abbrev b4 (x : Int) : Value := .agg #[.int .u8 (x % 256), .int .u8 (x / 256 % 256), .int .u8 (x / 65536 % 256), .int .u8 (x / 16777216)]
theorem ixb0 (x : Int) (W : World) : (Instr.index 56 (b4 x) (.int .i64 0)).run Tryd.prog W = .ok (.int .u8 (x % 256)) W := by kernel_rfl
theorem ixb1 (x : Int) (W : World) : (Instr.index 56 (b4 x) (.int .i64 1)).run Tryd.prog W = .ok (.int .u8 (x / 256 % 256)) W := by kernel_rfl
theorem Reg8_0 (g : Gs) (h : g.ok) (i : Int) (hi : -9223372036854775808 ≤ i ∧ i ≤ 9223372036854775807) (e : i % 8 = 0) (w : World) : Calls Tryd.prog 10 #[stV g, .int .i64 i] w fun e w' => e = .returned (.int .u32 (byteL (g.r 0) 0)) ∧ Below w.heap.size w w' := by
  have hb : ∀ w, Calls Tryd.prog 27 #[.int .i64 i] w fun e w' => e = .returned (.tuple #[.int .i64 0, .int .i64 0]) ∧ w = w' := fun w => by
    have := byteOf_any i hi w
    rw [e] at this
    exact this
  have hr := h.r 0
  have hix := ixb0 (g.r 0)
  clear e
  go_enter Tryd.func10, Tryd.ntmps10
  go_wp2_with (first | (go_at_call 27; refine (hb _).mono ?_; rintro e w' ⟨rfl, rfl⟩) | (go_at_call 28; refine (bytes_any _ hr _).mono ?_; rintro e w' ⟨rfl, rfl⟩))
  go_ret
  exact ⟨rfl, ((Below.refl _ _).alloc (Nat.le_refl _) _).alloc (by simp) _⟩
theorem rReg8_0 (g : Gs) (h : g.ok) (i : Int) (e : i % 8 = 0) (w : World) : Calls Tryd.prog 11 #[stV g, .int .i64 i] w fun e w' => e = .returned (.int .u32 (byteL (g.r 0) 0)) ∧ Below w.heap.size w w' := by
  have h7 : bits .and .i64 i 7 = 0 := (and7 i).trans e
  have hr := h.r 0
  have hl := u32_and_low (g.r 0) hr
  have hm := u32_and_low (g.r 0 / 256) (by omega)
  clear e
  go_enter Tryd.func11, Tryd.ntmps11
  go_wp2_with fail
  go_ret
  exact ⟨ret_int (by simp [byteL]), (Below.refl _ _).alloc (Nat.le_refl _) _⟩
theorem Reg8_1 (g : Gs) (h : g.ok) (i : Int) (hi : -9223372036854775808 ≤ i ∧ i ≤ 9223372036854775807) (e : i % 8 = 1) (w : World) : Calls Tryd.prog 10 #[stV g, .int .i64 i] w fun e w' => e = .returned (.int .u32 (byteL (g.r 1) 0)) ∧ Below w.heap.size w w' := by
  have hb : ∀ w, Calls Tryd.prog 27 #[.int .i64 i] w fun e w' => e = .returned (.tuple #[.int .i64 1, .int .i64 0]) ∧ w = w' := fun w => by
    have := byteOf_any i hi w
    rw [e] at this
    exact this
  have hr := h.r 1
  have hix := ixb0 (g.r 1)
  clear e
  go_enter Tryd.func10, Tryd.ntmps10
  go_wp2_with (first | (go_at_call 27; refine (hb _).mono ?_; rintro e w' ⟨rfl, rfl⟩) | (go_at_call 28; refine (bytes_any _ hr _).mono ?_; rintro e w' ⟨rfl, rfl⟩))
  go_ret
  exact ⟨rfl, ((Below.refl _ _).alloc (Nat.le_refl _) _).alloc (by simp) _⟩
theorem rReg8_1 (g : Gs) (h : g.ok) (i : Int) (e : i % 8 = 1) (w : World) : Calls Tryd.prog 11 #[stV g, .int .i64 i] w fun e w' => e = .returned (.int .u32 (byteL (g.r 1) 0)) ∧ Below w.heap.size w w' := by
  have h7 : bits .and .i64 i 7 = 1 := (and7 i).trans e
  have hr := h.r 1
  have hl := u32_and_low (g.r 1) hr
  have hm := u32_and_low (g.r 1 / 256) (by omega)
  clear e
  go_enter Tryd.func11, Tryd.ntmps11
  go_wp2_with fail
  go_ret
  exact ⟨ret_int (by simp [byteL]), (Below.refl _ _).alloc (Nat.le_refl _) _⟩
theorem Reg8_2 (g : Gs) (h : g.ok) (i : Int) (hi : -9223372036854775808 ≤ i ∧ i ≤ 9223372036854775807) (e : i % 8 = 2) (w : World) : Calls Tryd.prog 10 #[stV g, .int .i64 i] w fun e w' => e = .returned (.int .u32 (byteL (g.r 2) 0)) ∧ Below w.heap.size w w' := by
  have hb : ∀ w, Calls Tryd.prog 27 #[.int .i64 i] w fun e w' => e = .returned (.tuple #[.int .i64 2, .int .i64 0]) ∧ w = w' := fun w => by
    have := byteOf_any i hi w
    rw [e] at this
    exact this
  have hr := h.r 2
  have hix := ixb0 (g.r 2)
  clear e
  go_enter Tryd.func10, Tryd.ntmps10
  go_wp2_with (first | (go_at_call 27; refine (hb _).mono ?_; rintro e w' ⟨rfl, rfl⟩) | (go_at_call 28; refine (bytes_any _ hr _).mono ?_; rintro e w' ⟨rfl, rfl⟩))
  go_ret
  exact ⟨rfl, ((Below.refl _ _).alloc (Nat.le_refl _) _).alloc (by simp) _⟩
theorem rReg8_2 (g : Gs) (h : g.ok) (i : Int) (e : i % 8 = 2) (w : World) : Calls Tryd.prog 11 #[stV g, .int .i64 i] w fun e w' => e = .returned (.int .u32 (byteL (g.r 2) 0)) ∧ Below w.heap.size w w' := by
  have h7 : bits .and .i64 i 7 = 2 := (and7 i).trans e
  have hr := h.r 2
  have hl := u32_and_low (g.r 2) hr
  have hm := u32_and_low (g.r 2 / 256) (by omega)
  clear e
  go_enter Tryd.func11, Tryd.ntmps11
  go_wp2_with fail
  go_ret
  exact ⟨ret_int (by simp [byteL]), (Below.refl _ _).alloc (Nat.le_refl _) _⟩
theorem Reg8_3 (g : Gs) (h : g.ok) (i : Int) (hi : -9223372036854775808 ≤ i ∧ i ≤ 9223372036854775807) (e : i % 8 = 3) (w : World) : Calls Tryd.prog 10 #[stV g, .int .i64 i] w fun e w' => e = .returned (.int .u32 (byteL (g.r 3) 0)) ∧ Below w.heap.size w w' := by
  have hb : ∀ w, Calls Tryd.prog 27 #[.int .i64 i] w fun e w' => e = .returned (.tuple #[.int .i64 3, .int .i64 0]) ∧ w = w' := fun w => by
    have := byteOf_any i hi w
    rw [e] at this
    exact this
  have hr := h.r 3
  have hix := ixb0 (g.r 3)
  clear e
  go_enter Tryd.func10, Tryd.ntmps10
  go_wp2_with (first | (go_at_call 27; refine (hb _).mono ?_; rintro e w' ⟨rfl, rfl⟩) | (go_at_call 28; refine (bytes_any _ hr _).mono ?_; rintro e w' ⟨rfl, rfl⟩))
  go_ret
  exact ⟨rfl, ((Below.refl _ _).alloc (Nat.le_refl _) _).alloc (by simp) _⟩
theorem rReg8_3 (g : Gs) (h : g.ok) (i : Int) (e : i % 8 = 3) (w : World) : Calls Tryd.prog 11 #[stV g, .int .i64 i] w fun e w' => e = .returned (.int .u32 (byteL (g.r 3) 0)) ∧ Below w.heap.size w w' := by
  have h7 : bits .and .i64 i 7 = 3 := (and7 i).trans e
  have hr := h.r 3
  have hl := u32_and_low (g.r 3) hr
  have hm := u32_and_low (g.r 3 / 256) (by omega)
  clear e
  go_enter Tryd.func11, Tryd.ntmps11
  go_wp2_with fail
  go_ret
  exact ⟨ret_int (by simp [byteL]), (Below.refl _ _).alloc (Nat.le_refl _) _⟩
theorem Reg8_4 (g : Gs) (h : g.ok) (i : Int) (hi : -9223372036854775808 ≤ i ∧ i ≤ 9223372036854775807) (e : i % 8 = 4) (w : World) : Calls Tryd.prog 10 #[stV g, .int .i64 i] w fun e w' => e = .returned (.int .u32 (byteL (g.r 0) 1)) ∧ Below w.heap.size w w' := by
  have hb : ∀ w, Calls Tryd.prog 27 #[.int .i64 i] w fun e w' => e = .returned (.tuple #[.int .i64 0, .int .i64 1]) ∧ w = w' := fun w => by
    have := byteOf_any i hi w
    rw [e] at this
    exact this
  have hr := h.r 0
  have hix := ixb1 (g.r 0)
  clear e
  go_enter Tryd.func10, Tryd.ntmps10
  go_wp2_with (first | (go_at_call 27; refine (hb _).mono ?_; rintro e w' ⟨rfl, rfl⟩) | (go_at_call 28; refine (bytes_any _ hr _).mono ?_; rintro e w' ⟨rfl, rfl⟩))
  go_ret
  exact ⟨rfl, ((Below.refl _ _).alloc (Nat.le_refl _) _).alloc (by simp) _⟩
theorem rReg8_4 (g : Gs) (h : g.ok) (i : Int) (e : i % 8 = 4) (w : World) : Calls Tryd.prog 11 #[stV g, .int .i64 i] w fun e w' => e = .returned (.int .u32 (byteL (g.r 0) 1)) ∧ Below w.heap.size w w' := by
  have h7 : bits .and .i64 i 7 = 4 := (and7 i).trans e
  have hr := h.r 0
  have hl := u32_and_low (g.r 0) hr
  have hm := u32_and_low (g.r 0 / 256) (by omega)
  clear e
  go_enter Tryd.func11, Tryd.ntmps11
  go_wp2_with fail
  go_ret
  exact ⟨ret_int (by simp [byteL]), (Below.refl _ _).alloc (Nat.le_refl _) _⟩
theorem Reg8_5 (g : Gs) (h : g.ok) (i : Int) (hi : -9223372036854775808 ≤ i ∧ i ≤ 9223372036854775807) (e : i % 8 = 5) (w : World) : Calls Tryd.prog 10 #[stV g, .int .i64 i] w fun e w' => e = .returned (.int .u32 (byteL (g.r 1) 1)) ∧ Below w.heap.size w w' := by
  have hb : ∀ w, Calls Tryd.prog 27 #[.int .i64 i] w fun e w' => e = .returned (.tuple #[.int .i64 1, .int .i64 1]) ∧ w = w' := fun w => by
    have := byteOf_any i hi w
    rw [e] at this
    exact this
  have hr := h.r 1
  have hix := ixb1 (g.r 1)
  clear e
  go_enter Tryd.func10, Tryd.ntmps10
  go_wp2_with (first | (go_at_call 27; refine (hb _).mono ?_; rintro e w' ⟨rfl, rfl⟩) | (go_at_call 28; refine (bytes_any _ hr _).mono ?_; rintro e w' ⟨rfl, rfl⟩))
  go_ret
  exact ⟨rfl, ((Below.refl _ _).alloc (Nat.le_refl _) _).alloc (by simp) _⟩
theorem rReg8_5 (g : Gs) (h : g.ok) (i : Int) (e : i % 8 = 5) (w : World) : Calls Tryd.prog 11 #[stV g, .int .i64 i] w fun e w' => e = .returned (.int .u32 (byteL (g.r 1) 1)) ∧ Below w.heap.size w w' := by
  have h7 : bits .and .i64 i 7 = 5 := (and7 i).trans e
  have hr := h.r 1
  have hl := u32_and_low (g.r 1) hr
  have hm := u32_and_low (g.r 1 / 256) (by omega)
  clear e
  go_enter Tryd.func11, Tryd.ntmps11
  go_wp2_with fail
  go_ret
  exact ⟨ret_int (by simp [byteL]), (Below.refl _ _).alloc (Nat.le_refl _) _⟩
theorem Reg8_6 (g : Gs) (h : g.ok) (i : Int) (hi : -9223372036854775808 ≤ i ∧ i ≤ 9223372036854775807) (e : i % 8 = 6) (w : World) : Calls Tryd.prog 10 #[stV g, .int .i64 i] w fun e w' => e = .returned (.int .u32 (byteL (g.r 2) 1)) ∧ Below w.heap.size w w' := by
  have hb : ∀ w, Calls Tryd.prog 27 #[.int .i64 i] w fun e w' => e = .returned (.tuple #[.int .i64 2, .int .i64 1]) ∧ w = w' := fun w => by
    have := byteOf_any i hi w
    rw [e] at this
    exact this
  have hr := h.r 2
  have hix := ixb1 (g.r 2)
  clear e
  go_enter Tryd.func10, Tryd.ntmps10
  go_wp2_with (first | (go_at_call 27; refine (hb _).mono ?_; rintro e w' ⟨rfl, rfl⟩) | (go_at_call 28; refine (bytes_any _ hr _).mono ?_; rintro e w' ⟨rfl, rfl⟩))
  go_ret
  exact ⟨rfl, ((Below.refl _ _).alloc (Nat.le_refl _) _).alloc (by simp) _⟩
theorem rReg8_6 (g : Gs) (h : g.ok) (i : Int) (e : i % 8 = 6) (w : World) : Calls Tryd.prog 11 #[stV g, .int .i64 i] w fun e w' => e = .returned (.int .u32 (byteL (g.r 2) 1)) ∧ Below w.heap.size w w' := by
  have h7 : bits .and .i64 i 7 = 6 := (and7 i).trans e
  have hr := h.r 2
  have hl := u32_and_low (g.r 2) hr
  have hm := u32_and_low (g.r 2 / 256) (by omega)
  clear e
  go_enter Tryd.func11, Tryd.ntmps11
  go_wp2_with fail
  go_ret
  exact ⟨ret_int (by simp [byteL]), (Below.refl _ _).alloc (Nat.le_refl _) _⟩
theorem Reg8_7 (g : Gs) (h : g.ok) (i : Int) (hi : -9223372036854775808 ≤ i ∧ i ≤ 9223372036854775807) (e : i % 8 = 7) (w : World) : Calls Tryd.prog 10 #[stV g, .int .i64 i] w fun e w' => e = .returned (.int .u32 (byteL (g.r 3) 1)) ∧ Below w.heap.size w w' := by
  have hb : ∀ w, Calls Tryd.prog 27 #[.int .i64 i] w fun e w' => e = .returned (.tuple #[.int .i64 3, .int .i64 1]) ∧ w = w' := fun w => by
    have := byteOf_any i hi w
    rw [e] at this
    exact this
  have hr := h.r 3
  have hix := ixb1 (g.r 3)
  clear e
  go_enter Tryd.func10, Tryd.ntmps10
  go_wp2_with (first | (go_at_call 27; refine (hb _).mono ?_; rintro e w' ⟨rfl, rfl⟩) | (go_at_call 28; refine (bytes_any _ hr _).mono ?_; rintro e w' ⟨rfl, rfl⟩))
  go_ret
  exact ⟨rfl, ((Below.refl _ _).alloc (Nat.le_refl _) _).alloc (by simp) _⟩
theorem rReg8_7 (g : Gs) (h : g.ok) (i : Int) (e : i % 8 = 7) (w : World) : Calls Tryd.prog 11 #[stV g, .int .i64 i] w fun e w' => e = .returned (.int .u32 (byteL (g.r 3) 1)) ∧ Below w.heap.size w w' := by
  have h7 : bits .and .i64 i 7 = 7 := (and7 i).trans e
  have hr := h.r 3
  have hl := u32_and_low (g.r 3) hr
  have hm := u32_and_low (g.r 3 / 256) (by omega)
  clear e
  go_enter Tryd.func11, Tryd.ntmps11
  go_wp2_with fail
  go_ret
  exact ⟨ret_int (by simp [byteL]), (Below.refl _ _).alloc (Nat.le_refl _) _⟩
theorem Reg8_any (g : Gs) (h : g.ok) (i : Int) (hi : -9223372036854775808 ≤ i ∧ i ≤ 9223372036854775807) (w : World) : Calls Tryd.prog 10 #[stV g, .int .i64 i] w fun e w' => e = .returned (.int .u32 (reg8L g (no8 i))) ∧ Below w.heap.size w w' := by
  rcases (by omega : i % 8 = 0 ∨ i % 8 = 1 ∨ i % 8 = 2 ∨ i % 8 = 3 ∨ i % 8 = 4 ∨ i % 8 = 5 ∨ i % 8 = 6 ∨ i % 8 = 7) with e | e | e | e | e | e | e | e
  · rw [show no8 i = 0 by unfold no8; omega]; exact Reg8_0 g h i hi e w
  · rw [show no8 i = 1 by unfold no8; omega]; exact Reg8_1 g h i hi e w
  · rw [show no8 i = 2 by unfold no8; omega]; exact Reg8_2 g h i hi e w
  · rw [show no8 i = 3 by unfold no8; omega]; exact Reg8_3 g h i hi e w
  · rw [show no8 i = 4 by unfold no8; omega]; exact Reg8_4 g h i hi e w
  · rw [show no8 i = 5 by unfold no8; omega]; exact Reg8_5 g h i hi e w
  · rw [show no8 i = 6 by unfold no8; omega]; exact Reg8_6 g h i hi e w
  · rw [show no8 i = 7 by unfold no8; omega]; exact Reg8_7 g h i hi e w
theorem rReg8_any (g : Gs) (h : g.ok) (i : Int) (w : World) : Calls Tryd.prog 11 #[stV g, .int .i64 i] w fun e w' => e = .returned (.int .u32 (reg8L g (no8 i))) ∧ Below w.heap.size w w' := by
  rcases (by omega : i % 8 = 0 ∨ i % 8 = 1 ∨ i % 8 = 2 ∨ i % 8 = 3 ∨ i % 8 = 4 ∨ i % 8 = 5 ∨ i % 8 = 6 ∨ i % 8 = 7) with e | e | e | e | e | e | e | e
  · rw [show no8 i = 0 by unfold no8; omega]; exact rReg8_0 g h i e w
  · rw [show no8 i = 1 by unfold no8; omega]; exact rReg8_1 g h i e w
  · rw [show no8 i = 2 by unfold no8; omega]; exact rReg8_2 g h i e w
  · rw [show no8 i = 3 by unfold no8; omega]; exact rReg8_3 g h i e w
  · rw [show no8 i = 4 by unfold no8; omega]; exact rReg8_4 g h i e w
  · rw [show no8 i = 5 by unfold no8; omega]; exact rReg8_5 g h i e w
  · rw [show no8 i = 6 by unfold no8; omega]; exact rReg8_6 g h i e w
  · rw [show no8 i = 7 by unfold no8; omega]; exact rReg8_7 g h i e w
end Go.Proofs.YtgamghmeefoopaaDoor
