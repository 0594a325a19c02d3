/-
  PLAIN FACTS ON WORDS: no program in sight.
-/
import Derived.Test.YtbfkgakkkibejaaDoorKit
namespace Go.Proofs.YtbfkgakkkibejaaDoor
open Go.RowKit
set_option linter.unusedVariables false

theorem nat_not (b : Nat) (hb : b < 4294967296) : 4294967295 ^^^ b = 4294967295 - b := by
  have h := congrArg BitVec.toNat (BitVec.allOnes_xor (x := BitVec.ofNat 32 b))
  simp only [BitVec.toNat_xor, BitVec.toNat_allOnes, BitVec.toNat_not, BitVec.toNat_ofNat] at h
  rw [Nat.mod_eq_of_lt (by omega)] at h
  exact h
theorem u32_not {b : Int} (h : 0 ≤ b ∧ b ≤ 4294967295) : bits .xor .u32 4294967295 b = 4294967295 - b := by
  obtain ⟨B, rfl⟩ := Int.eq_ofNat_of_zero_le h.1
  have := u32_xor_nat' 4294967295 B (by decide) (by omega)
  rw [show ((4294967295 : Nat) : Int) = 4294967295 from rfl] at this
  rw [this, nat_not B (by omega)]; omega
theorem c01_not (c : Bool) : c01 (!c) = 1 - c01 c := by cases c <;> rfl

/-! ### BitsBack -/
theorem back_d {a b : Int} {c : Bool} (ha : 0 ≤ a ∧ a ≤ 4294967295) (hb : 0 ≤ b ∧ b ≤ 4294967295) :
    ((a + b + c01 c) % 4294967296 - b - c01 c) % 4294967296 = a := by have := bd01 c; omega
theorem back_below {a b : Int} {c : Bool} (ha : 0 ≤ a ∧ a ≤ 4294967295) (hb : 0 ≤ b ∧ b ≤ 4294967295) :
    ((a + b + c01 c) % 4294967296 - b - c01 c != a) = (a + b + c01 c != (a + b + c01 c) % 4294967296) := by
  have := bd01 c; rw [Bool.eq_iff_iff]; simp; omega
theorem back_y {a b : Int} {c : Bool} : (a + (4294967295 - b) + c01 (!c)) % 4294967296 = (a - b - c01 c) % 4294967296 := by
  rw [c01_not]; omega
theorem back_down {a b : Int} {c : Bool} (ha : 0 ≤ a ∧ a ≤ 4294967295) (hb : 0 ≤ b ∧ b ≤ 4294967295) :
    (a + (4294967295 - b) + c01 (!c) != (a - b - c01 c) % 4294967296) = !(a - b - c01 c != (a - b - c01 c) % 4294967296) := by
  have := bd01 c; rw [c01_not, Bool.eq_iff_iff]; simp; omega
theorem back_sign {b : Int} (hb : 0 ≤ b ∧ b ≤ 4294967295) : wrap32 (4294967295 - b) = -1 - wrap32 b := by unfold wrap32; omega
theorem back_og {a b : Int} {c : Bool} (hb : 0 ≤ b ∧ b ≤ 4294967295) :
    wrap32 a + wrap32 (4294967295 - b) + c01 (!c) = wrap32 a - wrap32 b - c01 c := by rw [back_sign hb, c01_not]; omega

/-! ### Signs -/
theorem sgn_eq (k : Nat) (x : Int) (h1 : 1 ≤ k) (h2 : k ≤ 32) : sgn k x = if x % 2 ^ k < 2 ^ (k - 1) then x % 2 ^ k else x % 2 ^ k - 2 ^ k := by
  unfold sgn
  have ht := two_pow_pos (32 - k)
  have hp : (4294967296 : Int) = 2 ^ k * 2 ^ (32 - k) := by rw [← Int.pow_add, show k + (32 - k) = 32 by omega]; decide
  have hh : (2147483648 : Int) = 2 ^ (k - 1) * 2 ^ (32 - k) := by rw [← Int.pow_add, show k - 1 + (32 - k) = 31 by omega]; decide
  have hy := mod_pow_bd x k
  have e : x * 2 ^ (32 - k) % 4294967296 = x % 2 ^ k * 2 ^ (32 - k) := by
    rw [hp, Int.mul_comm x, Int.mul_comm (2 ^ k), Int.mul_emod_mul_of_pos _ _ (by omega), Int.mul_comm]
  rw [e]
  generalize x % 2 ^ k = y at hy
  generalize (2 : Int) ^ (32 - k) = t at *
  have hk := two_pow_pos k
  generalize hb : (2 : Int) ^ k = b at *
  generalize hc : (2 : Int) ^ (k - 1) = c at *
  have hyt : 0 ≤ y * t := Int.mul_nonneg hy.1 (by omega)
  have hyt2 : y * t < 4294967296 := by rw [hp]; exact Int.mul_lt_mul_of_pos_right hy.2 (by omega)
  by_cases hlt : y < c
  · rw [if_pos hlt]
    have : y * t < 2147483648 := by rw [hh]; exact Int.mul_lt_mul_of_pos_right hlt (by omega)
    rw [IntWalk.wrap32_in _ (by omega), Int.mul_ediv_cancel _ (by omega)]
  · rw [if_neg hlt]
    have : 2147483648 ≤ y * t := by rw [hh]; exact Int.mul_le_mul_of_nonneg_right (by omega) (by omega)
    have e2 : wrap32 (y * t) = (y - b) * t := by rw [Int.sub_mul, ← hp]; unfold wrap32; omega
    rw [e2, Int.mul_ediv_cancel _ (by omega)]
theorem sgn_mod (k : Nat) (x : Int) (h1 : 1 ≤ k) (h2 : k ≤ 32) : sgn k x % 2 ^ k = x % 2 ^ k := by
  rw [sgn_eq k x h1 h2]
  split
  · exact Int.emod_emod_of_dvd _ (Int.dvd_refl _)
  · rw [Int.sub_emod, Int.emod_self, Int.sub_zero, Int.emod_emod_of_dvd _ (Int.dvd_refl _), Int.emod_emod_of_dvd _ (Int.dvd_refl _)]
theorem sgn_congr (k : Nat) {x y : Int} (h1 : 1 ≤ k) (h2 : k ≤ 32) (h : x % 2 ^ k = y % 2 ^ k) : sgn k x = sgn k y := by
  rw [sgn_eq k x h1 h2, sgn_eq k y h1 h2, h]
theorem pow_dvd32 (k : Nat) (h2 : k ≤ 32) : (2 : Int) ^ k ∣ 4294967296 := by
  refine ⟨2 ^ (32 - k), ?_⟩
  rw [← Int.pow_add, show k + (32 - k) = 32 by omega]; decide
theorem mod32_mod (k : Nat) (x : Int) (h2 : k ≤ 32) : x % 4294967296 % 2 ^ k = x % 2 ^ k := Int.emod_emod_of_dvd _ (pow_dvd32 k h2)
theorem sgn_again (k : Nat) (x : Int) (h1 : 1 ≤ k) (h2 : k ≤ 32) : sgn k (sgn k x % 4294967296) = sgn k x :=
  sgn_congr k h1 h2 (by rw [mod32_mod k _ h2, sgn_mod k x h1 h2])
theorem top_bit (k : Nat) (x : Int) (h1 : 1 ≤ k) (h2 : k ≤ 32) : (sgn k x < 0) ↔ x / 2 ^ (k - 1) % 2 = 1 := by
  rw [sgn_eq k x h1 h2]
  obtain ⟨j, rfl⟩ : ∃ j, k = j + 1 := ⟨k - 1, by omega⟩
  rw [Nat.add_sub_cancel, mod_step]
  have hb := mod_pow_bd x j
  have hp := two_pow_pos j
  rw [Int.pow_succ]
  have hq : x / 2 ^ j % 2 = 0 ∨ x / 2 ^ j % 2 = 1 := by omega
  rcases hq with hq | hq <;> rw [hq]
  · rw [Int.mul_zero]
    split <;> omega
  · rw [Int.mul_one]
    split <;> omega
theorem sign8_s (x : Int) : IntKind.i8.wrap x = sgn 8 x := by
  rw [sgn_eq 8 x (by decide) (by decide), IntKind.wrap]
  simp [IntKind.bits, IntKind.signed]
  split <;> split <;> omega

/-! ### Fields -/
theorem field_low (x : Int) (k : Nat) (hk : k ≤ 32) : fieldS x 0 k = x % 2 ^ k := by
  unfold fieldS
  rw [show held0 (k : Int) = k by unfold held0; split <;> (try split) <;> omega, show mov x 0 = x by unfold mov; simp]
theorem field_at (x : Int) (k n : Nat) (hn : n ≤ 32) (hk : k ≤ 32) : fieldS x k n = x / 2 ^ k % 2 ^ n := by
  unfold fieldS
  rw [show held0 (n : Int) = n by unfold held0; split <;> (try split) <;> omega]
  unfold mov; rw [if_pos (by omega), Int.toNat_natCast, show min k 32 = k by omega]
theorem pow_split (k : Nat) (h2 : k ≤ 32) : (4294967296 : Int) = 2 ^ k * 2 ^ (32 - k) := by
  rw [← Int.pow_add, show k + (32 - k) = 32 by omega]; decide
theorem field_rest {x : Int} (k : Nat) (hk : k ≤ 32) (hx : 0 ≤ x ∧ x ≤ 4294967295) : fieldS x k (32 - k : Nat) = x / 2 ^ k := by
  rw [field_at x k (32 - k) (by omega) hk]
  have hp := two_pow_pos k
  have h1 := Int.ediv_nonneg hx.1 (show 0 ≤ (2 : Int) ^ k by omega)
  refine Int.emod_eq_of_lt h1 ?_
  refine (Int.ediv_lt_iff_lt_mul (by omega)).2 ?_
  rw [Int.mul_comm, ← pow_split k hk]; omega
theorem together {x : Int} (k : Nat) (hk : k < 32) (hx : 0 ≤ x ∧ x ≤ 4294967295) : bits .or .u32 (x % 2 ^ k) (x / 2 ^ k * 2 ^ k % 4294967296) = x := by
  obtain ⟨X, rfl⟩ := Int.eq_ofNat_of_zero_le hx.1
  have h1 : X % 2 ^ k < 2 ^ k := Nat.mod_lt _ (Nat.two_pow_pos k)
  have h2 : X / 2 ^ k * 2 ^ k ≤ X := Nat.div_mul_le_self _ _
  have h3 := Nat.mod_add_div X (2 ^ k)
  have h4 : X % 2 ^ k ≤ X := Nat.mod_le _ _
  have e1 : (X : Int) % 2 ^ k = ((X % 2 ^ k : Nat) : Int) := by rw [Int.natCast_emod, cast_pow2]
  have e2 : (X : Int) / 2 ^ k * 2 ^ k = ((X / 2 ^ k * 2 ^ k : Nat) : Int) := by rw [Int.natCast_mul, Int.natCast_ediv, cast_pow2]
  have e3 : ((X / 2 ^ k * 2 ^ k : Nat) : Int) % 4294967296 = ((X / 2 ^ k * 2 ^ k : Nat) : Int) := by omega
  rw [e1, e2, e3, u32_or_nat' _ _ (by omega) (by omega), or_add k h1]
  rw [Nat.mul_comm] at h3
  omega

/-! ### Parity -/
theorem ones_xor (X M : Nat) (k : Nat) : ones (X ^^^ M) k % 2 = (ones X k + ones M k) % 2 := by
  induction k with
  | zero => rfl
  | succ j ih =>
    simp only [ones]
    have h := xor_mod2 (X / 2 ^ j) (M / 2 ^ j)
    rw [← xor_div] at h
    omega
theorem even_xor (X M : Nat) : evenS (X ^^^ M) 8 = (evenS X 8 == evenS M 8) := by
  have h := ones_xor X M 8
  unfold evenS
  rw [Bool.eq_iff_iff]
  simp only [Bool.beq_eq_decide_eq, decide_eq_true_eq]
  rw [h]
  have h1 : ones X 8 % 2 = 0 ∨ ones X 8 % 2 = 1 := by omega
  have h2 : ones M 8 % 2 = 0 ∨ ones M 8 % 2 = 1 := by omega
  rw [Nat.add_mod]
  rcases h1 with h1 | h1 <;> rcases h2 with h2 | h2 <;> rw [h1, h2] <;> decide
theorem even3 (X : Nat) : evenS (X ^^^ 3) 8 = evenS X 8 := by
  rw [even_xor, show evenS 3 8 = true by decide]; cases evenS X 8 <;> rfl
theorem even1 (X : Nat) : evenS (X ^^^ 1) 8 = !evenS X 8 := by
  rw [even_xor, show evenS 1 8 = false by decide]; cases evenS X 8 <;> rfl
theorem i8_bd (x : Int) : -128 ≤ IntKind.i8.wrap x ∧ IntKind.i8.wrap x ≤ 127 := by
  rw [IntKind.wrap]; simp [IntKind.bits, IntKind.signed]; split <;> omega
theorem i8_mod (x : Int) : IntKind.i8.wrap (x % 4294967296) = IntKind.i8.wrap x := by
  rw [IntKind.wrap, IntKind.wrap]; simp [IntKind.bits, IntKind.signed]
theorem i8_in (x : Int) (h : -128 ≤ x ∧ x ≤ 127) : IntKind.i8.wrap x = x := IntWalk.i8_in x h
theorem i8_again (x : Int) : IntKind.i8.wrap (IntKind.i8.wrap x % 4294967296) = IntKind.i8.wrap x := by
  rw [i8_mod, i8_in _ (i8_bd x)]
theorem sgn12_i8 (x : Int) : sgn 12 (IntKind.i8.wrap x % 4294967296) = IntKind.i8.wrap x := by
  have h := i8_bd x
  rw [sgn_eq 12 _ (by decide) (by decide), show (2 : Int) ^ 12 = 4096 by decide, show (2 : Int) ^ (12 - 1) = 2048 by decide]
  split <;> omega
theorem sgn_all {x : Int} (hx : 0 ≤ x ∧ x ≤ 4294967295) : sgn 32 x = wrap32 x := by
  rw [sgn_eq 32 _ (by decide) (by decide), show (2 : Int) ^ 32 = 4294967296 by decide, show (2 : Int) ^ (32 - 1) = 2147483648 by decide]
  unfold wrap32; split <;> omega
theorem held_mid (k : Nat) (h1 : 1 ≤ k) (h2 : k ≤ 32) : held (k : Int) = k := by unfold held; rw [if_neg (by omega), if_neg (by omega), Int.toNat_natCast]
theorem top_eq {x : Int} (k : Nat) (h1 : 1 ≤ k) (h2 : k ≤ 32) : decide (sgn k x < 0) = (x / 2 ^ (k - 1) % 2 == 1) := by
  rw [Bool.eq_iff_iff]; simp only [decide_eq_true_eq, beq_iff_eq]; exact top_bit k x h1 h2
theorem field_one (x : Int) (k : Nat) (hk : k ≤ 32) : fieldS x k 1 = x / 2 ^ k % 2 := by
  have := field_at x k 1 (by decide) hk
  rwa [Int.pow_succ, Int.pow_zero, Int.one_mul] at this
theorem field_sgn (x : Int) (k : Nat) (h1 : 1 ≤ k) (h2 : k ≤ 32) : fieldS (sgn k x % 4294967296) 0 k = x % 2 ^ k := by
  rw [field_low _ k h2, mod32_mod k _ h2, sgn_mod k x h1 h2]
theorem field_far (x : Int) (hx : 0 ≤ x ∧ x ≤ 4294967295) : fieldS x 32 5 = 0 := field_zero hx (by omega)
theorem field_far2 (x : Int) (hx : 0 ≤ x ∧ x ≤ 4294967295) : fieldS x (-40) 5 = 0 := field_zero hx (by omega)
theorem xor_nat {x : Int} (m : Nat) (hm : m < 4294967296) (hx : 0 ≤ x ∧ x ≤ 4294967295) : bits .xor .u32 x m = ((x.toNat ^^^ m : Nat) : Int) ∧ x.toNat ^^^ m < 4294967296 := by
  obtain ⟨X, rfl⟩ := Int.eq_ofNat_of_zero_le hx.1
  rw [Int.toNat_natCast]
  exact ⟨u32_xor_nat' X m (by omega) hm, xor_lt32 (by omega) hm⟩
theorem par_x3 {x : Int} (hx : 0 ≤ x ∧ x ≤ 4294967295) : ∃ y, bits .xor .u32 x 3 = y ∧ (0 ≤ y ∧ y ≤ 4294967295) ∧ evenS y.toNat 8 = evenS x.toNat 8 := by
  have h := xor_nat 3 (by decide) hx
  refine ⟨_, h.1, by omega, ?_⟩
  rw [Int.toNat_natCast]; exact even3 _
theorem par_x1 {x : Int} (hx : 0 ≤ x ∧ x ≤ 4294967295) : ∃ y, bits .xor .u32 x 1 = y ∧ (0 ≤ y ∧ y ≤ 4294967295) ∧ evenS y.toNat 8 = !evenS x.toNat 8 := by
  have h := xor_nat 1 (by decide) hx
  refine ⟨_, h.1, by omega, ?_⟩
  rw [Int.toNat_natCast]; exact even1 _
theorem mod_bd32 {x : Int} (k : Nat) (hx : 0 ≤ x ∧ x ≤ 4294967295) : 0 ≤ x % 2 ^ k ∧ x % 2 ^ k ≤ 4294967295 := by
  obtain ⟨X, rfl⟩ := Int.eq_ofNat_of_zero_le hx.1
  have e : (X : Int) % 2 ^ k = ((X % 2 ^ k : Nat) : Int) := by rw [Int.natCast_emod, cast_pow2]
  have := Nat.mod_le X (2 ^ k)
  rw [e]; omega
theorem bit_bd (y : Int) : 0 ≤ y % 2 ∧ y % 2 ≤ 1 := by omega
theorem top_yes {x : Int} {k : Nat} {t : Int} (h1 : 1 ≤ k) (h2 : k ≤ 32) (ht : t = x / 2 ^ (k - 1) % 2) (h : sgn k x < 0) : (t == 1) = true := by
  have := (top_bit k x h1 h2).1 h; rw [ht, this]; rfl
theorem top_no {x : Int} {k : Nat} {t : Int} (h1 : 1 ≤ k) (h2 : k ≤ 32) (ht : t = x / 2 ^ (k - 1) % 2) (h : ¬ sgn k x < 0) : (t == 1) = false := by
  have h3 := mt (top_bit k x h1 h2).2 h
  rw [ht, beq_eq_false_iff_ne]; exact h3
/-! ### BitsLong -/
theorem wrap_lo {a : Int} (h : 0 ≤ a ∧ a < 2147483648) : wrap32 a = a := IntWalk.wrap32_in _ (by omega)
theorem wrap_hi {a : Int} (h : 2147483648 ≤ a ∧ a ≤ 4294967295) : wrap32 a = a - 4294967296 := by unfold wrap32; omega
theorem prod_low (a b : Int) : wrap32 a * wrap32 b % 4294967296 = a * b % 4294967296 := by
  have h1 : wrap32 a % 4294967296 = a % 4294967296 := mod32_wrap a
  have h2 : wrap32 b % 4294967296 = b % 4294967296 := mod32_wrap b
  rw [Int.mul_emod, h1, h2, ← Int.mul_emod]
theorem long_pp {a b : Int} (ha : 0 ≤ a ∧ a < 2147483648) (hb : 0 ≤ b ∧ b < 2147483648) : wrap32 a * wrap32 b / 4294967296 % 4294967296 = a * b / 4294967296 := by
  rw [wrap_lo ha, wrap_lo hb]
  have := mul_bd (a := a) (b := b) (by omega) (by omega)
  omega
theorem long_np {a b : Int} (ha : 2147483648 ≤ a ∧ a ≤ 4294967295) (hb : 0 ≤ b ∧ b < 2147483648) : wrap32 a * wrap32 b / 4294967296 % 4294967296 = (a * b / 4294967296 - b) % 4294967296 := by
  rw [wrap_hi ha, wrap_lo hb, Int.sub_mul]; omega
theorem long_pn {a b : Int} (ha : 0 ≤ a ∧ a < 2147483648) (hb : 2147483648 ≤ b ∧ b ≤ 4294967295) : wrap32 a * wrap32 b / 4294967296 % 4294967296 = (a * b / 4294967296 - a) % 4294967296 := by
  rw [wrap_lo ha, wrap_hi hb, Int.mul_sub]; omega
theorem long_nn {a b : Int} (ha : 2147483648 ≤ a ∧ a ≤ 4294967295) (hb : 2147483648 ≤ b ∧ b ≤ 4294967295) : wrap32 a * wrap32 b / 4294967296 % 4294967296 = ((a * b / 4294967296 - b) % 4294967296 - a) % 4294967296 := by
  rw [wrap_hi ha, wrap_hi hb, Int.sub_mul, Int.mul_sub]; omega
theorem long_step (a : Int) (i : Nat) : a * ((i + 1 : Nat) : Int) = a * i + a := by
  rw [Int.natCast_add, Int.mul_add]; simp
theorem long_bd {a : Int} {i : Nat} (ha : 0 ≤ a ∧ a ≤ 4294967295) (hi : i ≤ 19) : 0 ≤ a * i ∧ a * i ≤ 81604378605 := by
  refine ⟨Int.mul_nonneg ha.1 (by omega), ?_⟩
  have := Int.mul_le_mul ha.2 (show (i : Int) ≤ 19 by omega) (by omega) (by omega)
  omega
theorem long_g1 {P Q a : Int} (h : Q = P + a) : (P % 4294967296 + a + c01 false) % 4294967296 = Q % 4294967296 := by
  rw [show c01 false = 0 from rfl]; omega
theorem long_c {P Q a : Int} (h : Q = P + a) (ha : 0 ≤ a ∧ a ≤ 4294967295) (hc : 4294967296 ≤ P % 4294967296 + a) : (P % 4294967296 + a + c01 false != Q % 4294967296) = true ∧ P / 4294967296 + 1 = Q / 4294967296 := by
  rw [show c01 false = 0 from rfl, bne_iff_ne]; omega
theorem long_n {P Q a : Int} (h : Q = P + a) (ha : 0 ≤ a ∧ a ≤ 4294967295) (hc : ¬ 4294967296 ≤ P % 4294967296 + a) : (P % 4294967296 + a + c01 false != Q % 4294967296) = false ∧ P / 4294967296 = Q / 4294967296 := by
  rw [show c01 false = 0 from rfl, bne_eq_false_iff_eq]; omega
theorem div31_yes {a : Int} (h : 2147483648 ≤ a ∧ a ≤ 4294967295) : (a / 2147483648 == 1) = true := by rw [beq_iff_eq]; omega
theorem div31_no {a : Int} (h : 0 ≤ a ∧ a < 2147483648) : (a / 2147483648 == 1) = false := by rw [beq_eq_false_iff_ne]; omega
/-! ### BitsBytes -/
theorem row_cut {w : World} {g : Nat} {z0 z1 z2 z3 : Int} {t : TypeId} (h : w.heap[g]? = some (.cells #[.int .u8 z0, .int .u8 z1, .int .u8 z2, .int .u8 z3] t (0, 0))) (hg : g < w.heap.size)
    (hz : ∀ z ∈ [z0, z1, z2, z3], 0 ≤ z ∧ z ≤ 255) (o n : Nat) (hn : o + n ≤ 4) : Row8 w (some ⟨g, o, none⟩) n (([z0, z1, z2, z3].drop o).take n) := by
  refine ⟨by simp; omega, fun z hz2 => hz z (List.mem_of_mem_drop (List.mem_of_mem_take hz2)), .inr ⟨g, o, rfl, hg, fun i hi => ?_⟩⟩
  have h4 : i = 0 ∨ i = 1 ∨ i = 2 ∨ i = 3 := by omega
  have h5 : o = 0 ∨ o = 1 ∨ o = 2 ∨ o = 3 ∨ o = 4 := by omega
  rcases h4 with rfl | rfl | rfl | rfl <;> rcases h5 with rfl | rfl | rfl | rfl | rfl <;> first | omega | simp [World.cell?, h, List.getD_eq_getElem?_getD, hi]
theorem heap_below {B : Nat} {w w1 : World} (h : Below B w w1) {g : Nat} (hg : g < B) : w1.heap[g]? = w.heap[g]? := h.block g hg
theorem bytes_tog {x : Int} (k : Nat) (p : Int) (hk : k < 32) (hp : (2 : Int) ^ k = p) (hx : 0 ≤ x ∧ x ≤ 4294967295) :
    bits .or .u32 (x % p) (x / p * p % 4294967296) = x ∧ bits .or .u32 (x % p) (x / p * p) = x := by
  have h := together k hk hx
  have h2 : x / 2 ^ k * 2 ^ k % 4294967296 = x / 2 ^ k * 2 ^ k := by
    have hp := two_pow_pos k
    have h1 := Int.ediv_mul_le x (show (2 : Int) ^ k ≠ 0 by omega)
    have h3 : 0 ≤ x / 2 ^ k * 2 ^ k := Int.mul_nonneg (Int.ediv_nonneg hx.1 (by omega)) (by omega)
    exact Int.emod_eq_of_lt h3 (by omega)
  subst hp
  exact ⟨h, by rw [h2] at h; exact h⟩
theorem bytes_tog0 {x : Int} (hx : 0 ≤ x ∧ x ≤ 4294967295) : bits .or .u32 0 x = x ∧ bits .or .u32 x 0 = x := by
  obtain ⟨X, rfl⟩ := Int.eq_ofNat_of_zero_le hx.1
  have h1 := u32_or_nat' 0 X (by decide) (by omega)
  have h2 := u32_or_nat' X 0 (by omega) (by decide)
  rw [show ((0 : Nat) : Int) = 0 from rfl] at h1 h2
  rw [h1, h2]; simp
theorem wordS_cuts (x : Int) (hx : 0 ≤ x ∧ x ≤ 4294967295) :
    wordS [x % 256, x / 256 % 256, x / 65536 % 256, x / 16777216] = x ∧ wordS [x % 256, x / 256 % 256, x / 65536 % 256, x / 16777216, 1, 2, 3] = x ∧
    wordS [x % 256, x / 256 % 256, x / 65536 % 256] = x % 16777216 ∧ wordS [x % 256, x / 256 % 256] = x % 65536 ∧ wordS [x % 256] = x % 256 ∧ wordS [] = 0 ∧
    wordS [x / 256 % 256, x / 65536 % 256, x / 16777216] = x / 256 ∧ wordS [x / 65536 % 256, x / 16777216] = x / 65536 ∧ wordS [x / 16777216] = x / 16777216 := by
  unfold wordS
  simp only [List.getD_cons_zero, List.getD_cons_succ, List.getD_nil]
  omega
theorem row_seven {w : World} {g : Nat} {z0 z1 z2 z3 z4 z5 z6 : Int} {t : TypeId} {r : Array Value} (h : w.heap[g]? = some (.cells (#[.int .u8 z0, .int .u8 z1, .int .u8 z2, .int .u8 z3] ++ (#[.int .u8 z4, .int .u8 z5, .int .u8 z6] ++ r)) t (0, 0))) (hg : g < w.heap.size)
    (hz : ∀ z ∈ [z0, z1, z2, z3, z4, z5, z6], 0 ≤ z ∧ z ≤ 255) : Row8 w (some ⟨g, 0, none⟩) 7 [z0, z1, z2, z3, z4, z5, z6] := by
  refine ⟨rfl, hz, .inr ⟨g, 0, rfl, hg, fun i hi => ?_⟩⟩
  have h4 : i = 0 ∨ i = 1 ∨ i = 2 ∨ i = 3 ∨ i = 4 ∨ i = 5 ∨ i = 6 := by omega
  rcases h4 with rfl | rfl | rfl | rfl | rfl | rfl | rfl <;> simp [World.cell?, h, Array.getElem?_append]
theorem block_lt {w : World} {a : Addr} {v : Value} (h : w.cell? a = some v) : a.block < w.heap.size := by
  unfold World.cell? at h
  by_cases hb : a.block < w.heap.size
  · exact hb
  · rw [Array.getElem?_eq_none (by omega)] at h; cases h
/-- What the guide's frame says of a slice of bytes that came in, as the walks here take it. -/
theorem row8_of {w : World} {x : Addr} {len cap : Nat} {zs : List Int} (hl : len ≤ cap) (hz : zs.length = cap)
    (hcell : ∀ i, i < zs.length → w.cell? (x.add i) = some (.int .u8 (zs.getD i 0))) (hwz : ∀ n ∈ zs, (Lit.int .u8 n).wf = true) : Row8 w (some x) len (zs.take len) := by
  refine ⟨by simp; omega, fun z h => wfb_u8 (hwz z (List.mem_of_mem_take h)), ?_⟩
  by_cases h0 : len = 0
  · subst h0; exact .inl rfl
  · obtain ⟨b, off, spot⟩ := x
    have h1 := hcell 0 (by omega)
    have hspot : spot = none := by simpa [Addr.add] using World.cell?_spot h1
    subst hspot
    refine .inr ⟨b, off, rfl, by have := block_lt h1; simpa [Addr.add] using this, fun i hi => ?_⟩
    have h2 := hcell i (by omega)
    rw [show (⟨b, off, none⟩ : Addr).add i = ⟨b, off + i, none⟩ by simp [Addr.add]] at h2
    rw [h2]
    congr 2
    simp [List.getD_eq_getElem?_getD, hi]
theorem row_four {w : World} {g : Nat} {z0 z1 z2 z3 : Int} {t : TypeId} (h : w.heap[g]? = some (.cells #[.int .u8 z0, .int .u8 z1, .int .u8 z2, .int .u8 z3] t (0, 0))) (hg : g < w.heap.size)
    (hz : ∀ z ∈ [z0, z1, z2, z3], 0 ≤ z ∧ z ≤ 255) : Row8 w (some ⟨g, 0, none⟩) 4 [z0, z1, z2, z3] := row_cut h hg hz 0 4 (by decide)
end Go.Proofs.YtbfkgakkkibejaaDoor
