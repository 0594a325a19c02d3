/-
  PLAIN HELPERS OF THIS SEAT'S WALKS: no program in sight.
-/
import Derived.WalkKit
import Derived.WalkLawsBesides
import Derived.Lib.Hide
import Derived.Laws.CopyOwn
namespace Go.Proofs.Ytmlaancmacipoaa
open Go.RowKit
set_option linter.unusedVariables false

theorem ret_int {k : IntKind} {a b : Int} (h : a = b) : Ending.returned (.int k a) = .returned (.int k b) := by rw [h]
theorem ret_bool {a b : Bool} (h : a = b) : Ending.returned (.bool a) = .returned (.bool b) := by rw [h]
theorem ret_ibb {k : IntKind} {a b : Int} {p q r s : Bool} (h : a = b) (h1 : p = q) (h2 : r = s) :
    Ending.returned (.tuple #[.int k a, .bool p, .bool r]) = .returned (.tuple #[.int k b, .bool q, .bool s]) := by rw [h, h1, h2]
theorem ret_ii {k l : IntKind} {a b c d : Int} (h : a = b) (h1 : c = d) :
    Ending.returned (.tuple #[.int k a, .int l c]) = .returned (.tuple #[.int k b, .int l d]) := by rw [h, h1]

theorem bd32 (x : Int) : -2147483648 ≤ wrap32 x ∧ wrap32 x ≤ 2147483647 := by unfold wrap32; omega
/-- One more or none. -/
def c01 (c : Bool) : Int := if c then 1 else 0
theorem bd01 (c : Bool) : 0 ≤ c01 c ∧ c01 c ≤ 1 := by cases c <;> decide
theorem mul_bd {a b : Int} (h : 0 ≤ a ∧ a ≤ 4294967295) (hb : 0 ≤ b ∧ b ≤ 4294967295) : 0 ≤ a * b ∧ a * b ≤ 18446744065119617025 := by
  refine ⟨Int.mul_nonneg h.1 hb.1, ?_⟩
  have := Int.mul_le_mul h.2 hb.2 hb.1 (by omega)
  omega
theorem mul_sbd {a b : Int} (h : -2147483648 ≤ a ∧ a ≤ 2147483647) (hb : -2147483648 ≤ b ∧ b ≤ 2147483647) : -4611686018427387904 ≤ a * b ∧ a * b ≤ 4611686018427387904 := by
  have h1 : (a * b).natAbs ≤ 2147483648 * 2147483648 := by
    rw [Int.natAbs_mul]; exact Nat.mul_le_mul (by omega) (by omega)
  omega
theorem over_eq {u : Int} (h : 0 ≤ u ∧ u ≤ 8589934591) : decide (4294967295 < u) = (u != u % 4294967296) := by
  rw [Bool.eq_iff_iff]; simp; omega
theorem below_eq {u : Int} (h : -4294967296 ≤ u ∧ u ≤ 4294967295) : decide (u < 0) = (u != u % 4294967296) := by
  rw [Bool.eq_iff_iff]; simp; omega
theorem wrap32_mod (x y : Int) (h : x % 4294967296 = y % 4294967296) : wrap32 x = wrap32 y := by unfold wrap32; omega
theorem mod32_wrap (x : Int) : wrap32 x % 4294967296 = x % 4294967296 := by unfold wrap32; omega
theorem wrap64_low (p : Int) : IntKind.u64.wrap p % 4294967296 = p % 4294967296 := by rw [IntKind.wrap_u64]; omega
theorem wrap64_high (p : Int) : IntKind.u64.wrap p / 4294967296 = p / 4294967296 % 4294967296 := by rw [IntKind.wrap_u64]; omega
theorem u64_bd (p : Int) : 0 ≤ IntKind.u64.wrap p ∧ IntKind.u64.wrap p ≤ 18446744073709551615 := by rw [IntKind.wrap_u64]; omega

/-- So many bits from the lowest on as a number with a sign (k from 1 to 32). -/
def sgn (k : Nat) (x : Int) : Int := wrap32 (x * 2 ^ (32 - k) % 4294967296) / 2 ^ (32 - k)
/-- n held from 1 to 32; from 0 to 32. -/
def held (n : Int) : Nat := if n < 1 then 1 else if 32 < n then 32 else n.toNat
def held0 (n : Int) : Nat := if n < 0 then 0 else if 32 < n then 32 else n.toNat
theorem held_pos (n : Int) : 1 ≤ held n ∧ held n ≤ 32 := by unfold held; split <;> (try split) <;> omega
theorem sgn_bd (k : Nat) (x : Int) (h1 : 1 ≤ k) (h2 : k ≤ 32) : -2147483648 ≤ sgn k x ∧ sgn k x ≤ 2147483647 := by
  have hb := bd32 (x * 2 ^ (32 - k) % 4294967296)
  unfold sgn
  generalize wrap32 (x * 2 ^ (32 - k) % 4294967296) = y at hb
  have hp : (0 : Int) < 2 ^ (32 - k) := Int.pow_pos (by decide)
  have h1 : (1 : Int) ≤ 2 ^ (32 - k) := by omega
  constructor
  · refine (Int.le_ediv_iff_mul_le hp).2 ?_
    have : (-2147483648) * (2 ^ (32 - k) : Int) ≤ -2147483648 * 1 := by omega
    omega
  · exact Int.le_trans (Int.ediv_le_ediv hp hb.2) (Int.ediv_le_self _ (by decide))
/-- How many ones there are among the k lowest bits. -/
def ones (n : Nat) : Nat → Nat
  | 0 => 0
  | k + 1 => ones n k + n / 2 ^ k % 2
/-- An even number of ones among the k lowest bits. -/
def evenS (n k : Nat) : Bool := ones n k % 2 == 0
theorem evenS_succ (n k : Nat) : evenS n (k + 1) = if n / 2 ^ k % 2 = 1 then !evenS n k else evenS n k := by
  unfold evenS
  rw [ones]
  have h : n / 2 ^ k % 2 < 2 := Nat.mod_lt _ (by decide)
  rw [Bool.eq_iff_iff]
  split <;> simp <;> omega
theorem u32_xor_nat' (a b : Nat) (ha : a < 4294967296) (hb : b < 4294967296) : bits .xor .u32 (a : Int) (b : Int) = ((a ^^^ b : Nat) : Int) := by
  have := u32_xor (a : Int) (b : Int) (by omega) (by omega) (by omega) (by omega)
  simpa using this
theorem u32_and_nat' (a b : Nat) (ha : a < 4294967296) (hb : b < 4294967296) : bits .and .u32 (a : Int) (b : Int) = ((a &&& b : Nat) : Int) := by
  have := u32_and (a : Int) (b : Int) (by omega) (by omega) (by omega) (by omega)
  simpa using this
theorem u32_or_nat' (a b : Nat) (ha : a < 4294967296) (hb : b < 4294967296) : bits .or .u32 (a : Int) (b : Int) = ((a ||| b : Nat) : Int) := by
  have := u32_or (a : Int) (b : Int) (by omega) (by omega) (by omega) (by omega)
  simpa using this
theorem bool_mod2 (a b c : Nat) (h : decide (c % 2 = 1) = (decide (a % 2 = 1) ^^ decide (b % 2 = 1))) : c % 2 = (a + b) % 2 := by
  by_cases h1 : a % 2 = 1 <;> by_cases h2 : b % 2 = 1 <;> by_cases h3 : c % 2 = 1 <;> simp [h1, h2, h3] at h <;> omega
theorem xor_mod2 (a b : Nat) : (a ^^^ b) % 2 = (a + b) % 2 := by
  have h0 := Nat.testBit_xor (x := a) (y := b) (i := 0)
  simp only [Nat.testBit_zero] at h0
  exact bool_mod2 a b _ h0
theorem xor_div (a b k : Nat) : (a ^^^ b) / 2 ^ k = (a / 2 ^ k) ^^^ (b / 2 ^ k) := by
  rw [← Nat.shiftRight_eq_div_pow, ← Nat.shiftRight_eq_div_pow, ← Nat.shiftRight_eq_div_pow, Nat.shiftRight_xor_distrib]
theorem xor_lt32 {a b : Nat} (ha : a < 4294967296) (hb : b < 4294967296) : a ^^^ b < 4294967296 := Nat.xor_lt_two_pow (n := 32) ha hb
theorem par1 {s t a b : Nat} (h : s % 2 = t % 2) (h1 : a % 2 = b % 2) : (s + a) % 2 = (t + b) % 2 := by omega
theorem par0 {s t : Nat} (a : Nat) (h : s % 2 = t % 2) : (s + a % 2) % 2 = (t + a) % 2 := by omega
theorem par2 (z z1 y y1 y2 y3 : Nat) (h0 : z % 2 = (y + y2) % 2) (h1 : z1 % 2 = (y1 + y3) % 2) : (z + z1) % 2 = (y + y1 + y2 + y3) % 2 := by
  rw [par1 h0 h1]; exact congrArg (· % 2) (by omega)
theorem par4 (y y1 y2 y3 a b c d e f g h : Nat) (h0 : y % 2 = (a + e) % 2) (h1 : y1 % 2 = (b + f) % 2) (h2 : y2 % 2 = (c + g) % 2) (h3 : y3 % 2 = (d + h) % 2) :
    (y + y1 + y2 + y3) % 2 = (a + b + c + d + e + f + g + h) % 2 := by
  rw [par1 (par1 (par1 h0 h1) h2) h3]; exact congrArg (· % 2) (by omega)
theorem par8 (a b c d e f g h : Nat) : (0 + a % 2 + b % 2 + c % 2 + d % 2 + e % 2 + f % 2 + g % 2 + h % 2) % 2 = (0 + a + b + c + d + e + f + g + h) % 2 :=
  par0 h (par0 g (par0 f (par0 e (par0 d (par0 c (par0 b (par0 a rfl)))))))
theorem fold_even (X : Nat) (h : X < 4294967296) :
    (bits BinOp.and IntKind.u32
        (bits BinOp.xor IntKind.u32
          (bits BinOp.xor IntKind.u32 (bits BinOp.xor IntKind.u32 X (X / 16 : Int)) (bits BinOp.xor IntKind.u32 X (X / 16 : Int) / 4))
          (bits BinOp.xor IntKind.u32 (bits BinOp.xor IntKind.u32 X (X / 16 : Int)) (bits BinOp.xor IntKind.u32 X (X / 16 : Int) / 4) / 2)) 1 == 0) = evenS X 8 := by
  have e1 : ((X : Int) / 16) = ((X / 16 : Nat) : Int) := by omega
  rw [e1, u32_xor_nat' X (X / 16) h (by omega)]
  generalize hY : X ^^^ X / 16 = Y
  have bY : Y < 4294967296 := by rw [← hY]; exact xor_lt32 h (by omega)
  have e2 : ((Y : Int) / 4) = ((Y / 4 : Nat) : Int) := by omega
  rw [e2, u32_xor_nat' Y (Y / 4) bY (by omega)]
  generalize hZ : Y ^^^ Y / 4 = Z
  have bZ : Z < 4294967296 := by rw [← hZ]; exact xor_lt32 bY (by omega)
  have e3 : ((Z : Int) / 2) = ((Z / 2 : Nat) : Int) := by omega
  rw [e3, u32_xor_nat' Z (Z / 2) bZ (by omega)]
  have e4 : (1 : Int) = ((1 : Nat) : Int) := rfl
  rw [e4, u32_and_nat' _ 1 (xor_lt32 bZ (by omega)) (by decide), Nat.and_one_is_mod, xor_mod2]
  have z0 : Z % 2 = (Y + Y / 4) % 2 := by rw [← hZ, xor_mod2]
  have z1 : Z / 2 % 2 = (Y / 2 + Y / 8) % 2 := by
    have := xor_div Y (Y / 4) 1; rw [hZ] at this; simp only [Nat.pow_one] at this; rw [this, xor_mod2, Nat.div_div_eq_div_mul]
  have w0 : Y % 2 = (X + X / 16) % 2 := by rw [← hY, xor_mod2]
  have w1 : Y / 2 % 2 = (X / 2 + X / 32) % 2 := by
    have := xor_div X (X / 16) 1; rw [hY] at this; simp only [Nat.pow_one] at this; rw [this, xor_mod2, Nat.div_div_eq_div_mul]
  have w2 : Y / 4 % 2 = (X / 4 + X / 64) % 2 := by
    have := xor_div X (X / 16) 2; rw [hY, show (2 : Nat) ^ 2 = 4 from rfl] at this; rw [this, xor_mod2, Nat.div_div_eq_div_mul]
  have w3 : Y / 8 % 2 = (X / 8 + X / 128) % 2 := by
    have := xor_div X (X / 16) 3; rw [hY, show (2 : Nat) ^ 3 = 8 from rfl] at this; rw [this, xor_mod2, Nat.div_div_eq_div_mul]
  have t1 := par2 _ _ _ _ _ _ z0 z1
  have t2 := par4 _ _ _ _ _ _ _ _ _ _ _ _ w0 w1 w2 w3
  have t3 := par8 X (X / 2) (X / 4) (X / 8) (X / 16) (X / 32) (X / 64) (X / 128)
  unfold evenS
  simp only [ones, Nat.pow_zero, Nat.div_one, Nat.pow_one, show (2 : Nat) ^ 2 = 4 from rfl, show (2 : Nat) ^ 3 = 8 from rfl, show (2 : Nat) ^ 4 = 16 from rfl, show (2 : Nat) ^ 5 = 32 from rfl, show (2 : Nat) ^ 6 = 64 from rfl, show (2 : Nat) ^ 7 = 128 from rfl]
  rw [t3, Nat.zero_add, ← t2, ← t1, Bool.eq_iff_iff]
  simp only [beq_iff_eq]
  clear z0 z1 w0 w1 w2 w3 t1 t2 t3 e1 e2 e3 e4 hY hZ bY bZ
  omega
theorem sgn_lo {x n : Int} (h : n < 1) : wrap32 (x * 2147483648 % 4294967296) / 2147483648 = sgn (held n) x := by
  unfold held; rw [if_pos h]; rfl
theorem sgn_hi {x n : Int} (h : 32 < n) (hx : 0 ≤ x ∧ x ≤ 4294967295) : wrap32 x = sgn (held n) x := by
  unfold held; rw [if_neg (by omega), if_pos h]; unfold sgn
  simp only [Nat.sub_self, Int.pow_zero, Int.mul_one, Int.ediv_one]
  rw [show x % 4294967296 = x from by omega]
theorem sgn_mid {x : Int} {k : Nat} (h1 : 1 ≤ (k : Int)) (h2 : (k : Int) ≤ 32) : wrap32 (x * 2 ^ (32 - k) % 4294967296) / 2 ^ (32 - k) = sgn (held k) x := by
  unfold held; rw [if_neg (by omega), if_neg (by omega), Int.toNat_natCast]; rfl
theorem sgn_one {x : Int} {k : Nat} (h1 : 1 ≤ (k : Int)) (h2 : (k : Int) ≤ 1) : wrap32 (x * 2147483648 % 4294967296) / 2147483648 = sgn (held k) x := by
  obtain rfl : k = 1 := by omega
  rfl
/-- A word with the place at moved to the place 0. -/
def mov (x at_ : Int) : Int := if 0 ≤ at_ then x / 2 ^ min at_.toNat 32 else x * 2 ^ min (-at_).toNat 32 % 4294967296
def fieldS (x at_ n : Int) : Int := mov x at_ % 2 ^ held0 n
theorem two_pow_le {k n : Nat} (h : k ≤ n) : (2 : Int) ^ k ≤ 2 ^ n := by
  have := Nat.pow_le_pow_right (n := 2) (by decide) h
  have e : ∀ k : Nat, (2 : Int) ^ k = ((2 ^ k : Nat) : Int) := fun k => by simp
  rw [e, e]; exact Int.ofNat_le.2 this
theorem two_pow_pos (k : Nat) : (1 : Int) ≤ 2 ^ k := by have : (0 : Int) < 2 ^ k := Int.pow_pos (by decide); omega
theorem cast_pow2 (k : Nat) : ((2 ^ k : Nat) : Int) = (2 : Int) ^ k := by simp
theorem low_mask {n : Nat} (h : n ≤ 32) : IntKind.u64.wrap (IntKind.u64.wrap (2 ^ n) - 1) % 4294967296 = 2 ^ n - 1 := by
  have h1 := two_pow_pos n
  have h2 : (2 : Int) ^ n ≤ 4294967296 := two_pow_le (n := 32) h
  rw [IntKind.wrap_u64, IntKind.wrap_u64]; omega
theorem mov_bd (x n : Int) (h : 0 ≤ x ∧ x ≤ 4294967295) : 0 ≤ mov x n ∧ mov x n ≤ 4294967295 := by
  unfold mov; split
  · have := two_pow_pos (min n.toNat 32)
    exact ⟨Int.ediv_nonneg h.1 (by omega), Int.le_trans (Int.ediv_le_self _ h.1) h.2⟩
  · omega
theorem mov_up {x : Int} {k : Nat} : x / 2 ^ min k 32 = mov x k := by unfold mov; rw [if_pos (by omega), Int.toNat_natCast]
theorem mov_far {x n : Int} (h : n < -32) : 0 = mov x n := by
  unfold mov; rw [if_neg (by omega), show min (-n).toNat 32 = 32 from by omega]; omega
theorem mov_down {x n : Int} (h : n < 0) (h2 : -32 ≤ n) : x * 2 ^ (-n).toNat % 4294967296 = mov x n := by
  unfold mov; rw [if_neg (by omega), show min (-n).toNat 32 = (-n).toNat from by omega]
theorem and_mask (m : Int) (k : Nat) (hm : 0 ≤ m ∧ m ≤ 4294967295) (hk : k ≤ 32) : bits .and .u32 m (2 ^ k - 1) = m % 2 ^ k := by
  obtain ⟨M, rfl⟩ := Int.eq_ofNat_of_zero_le hm.1
  have h1 := Nat.two_pow_pos k
  have h2 : 2 ^ k ≤ 2 ^ 32 := Nat.pow_le_pow_right (by decide) hk
  have e : ((2 : Int) ^ k - 1) = ((2 ^ k - 1 : Nat) : Int) := by rw [Int.ofNat_sub h1, cast_pow2]; rfl
  rw [e, u32_and_nat' M (2 ^ k - 1) (by omega) (by omega), Nat.and_two_pow_sub_one_eq_mod, Int.natCast_emod, cast_pow2]
theorem field_lo {x n k : Int} (hm : 0 ≤ mov x n ∧ mov x n ≤ 4294967295) (h : k < 0) : bits .and .u32 (mov x n) 0 = fieldS x n k := by
  unfold fieldS held0; rw [if_pos h]
  have := and_mask (mov x n) 0 hm (by omega)
  simpa using this
theorem field_hi {x n k : Int} (hm : 0 ≤ mov x n ∧ mov x n ≤ 4294967295) (h : 32 < k) : bits .and .u32 (mov x n) 4294967295 = fieldS x n k := by
  unfold fieldS held0; rw [if_neg (by omega), if_pos h]
  exact and_mask (mov x n) 32 hm (by omega)
theorem field_mid {x n : Int} {k : Nat} (hm : 0 ≤ mov x n ∧ mov x n ≤ 4294967295) (h : k ≤ 32) : bits .and .u32 (mov x n) (2 ^ k - 1) = fieldS x n k := by
  unfold fieldS held0; rw [if_neg (by omega), if_neg (by omega), Int.toNat_natCast]
  exact and_mask (mov x n) k hm h
/-- The bit test of a word as the code makes it. -/
theorem bit_test (y : Int) (h : 0 ≤ y ∧ y ≤ 4294967295) : (bits .and .u32 y 1 == 1) = decide (y % 2 = 1) := by
  obtain ⟨Y, rfl⟩ := Int.eq_ofNat_of_zero_le h.1
  have := u32_and_nat' Y 1 (by omega) (by decide)
  rw [show ((1 : Nat) : Int) = 1 from rfl] at this
  rw [this, Nat.and_one_is_mod, Bool.eq_iff_iff]
  simp only [beq_iff_eq, decide_eq_true_eq]
  omega
theorem div_pow_bd {x : Int} (k : Nat) (h : 0 ≤ x ∧ x ≤ 4294967295) : 0 ≤ x / 2 ^ k ∧ x / 2 ^ k ≤ 4294967295 := by
  have := two_pow_pos k
  exact ⟨Int.ediv_nonneg h.1 (by omega), Int.le_trans (Int.ediv_le_self _ h.1) h.2⟩
theorem bit_nat (X k : Nat) : ((X : Int) / 2 ^ k % 2 = 1) ↔ X / 2 ^ k % 2 = 1 := by
  rw [← cast_pow2]; omega

/-- A slice of bytes, as it is read: 'zs' are its elements. -/
def Row8 (w : World) (a : Option Addr) (len : Nat) (zs : List Int) : Prop :=
  zs.length = len ∧ (∀ z ∈ zs, 0 ≤ z ∧ z ≤ 255) ∧ (zs = [] ∨ ∃ b off, a = some ⟨b, off, none⟩ ∧ b < w.heap.size ∧ ∀ i, i < len → w.cell? ⟨b, off + i, none⟩ = some (.int .u8 (zs.getD i 0)))
theorem Row8.below {w w1 : World} {a : Option Addr} {len : Nat} {zs : List Int} (h : Row8 w a len zs) (hb : Below w.heap.size w w1) : Row8 w1 a len zs := by
  obtain ⟨h1, h2, h3⟩ := h
  refine ⟨h1, h2, ?_⟩
  rcases h3 with h3 | ⟨b, off, ha, hlt, hc⟩
  · exact .inl h3
  · exact .inr ⟨b, off, ha, by have := hb.size; omega, fun i hi => by rw [hb.cell (p := ⟨b, off + i, none⟩) hlt]; exact hc i hi⟩
theorem getD_bd {zs : List Int} (hz : ∀ z ∈ zs, 0 ≤ z ∧ z ≤ 255) (i : Nat) : 0 ≤ zs.getD i 0 ∧ zs.getD i 0 ≤ 255 := by
  by_cases h : i < zs.length
  · rw [List.getD_eq_getElem?_getD, List.getElem?_eq_getElem h]; exact hz _ (List.getElem_mem h)
  · rw [List.getD_eq_getElem?_getD, List.getElem?_eq_none (by omega)]; decide
theorem or_add {a b : Nat} (k : Nat) (h : a < 2 ^ k) : a ||| b * 2 ^ k = a + b * 2 ^ k := by
  have := Nat.two_pow_add_eq_or_of_lt h b
  rw [Nat.or_comm, Nat.mul_comm b, ← this, Nat.add_comm]
/-- Four bytes put together. -/
theorem or_bytes (a b c d : Int) (ha : 0 ≤ a ∧ a ≤ 255) (hb : 0 ≤ b ∧ b ≤ 255) (hc : 0 ≤ c ∧ c ≤ 255) (hd : 0 ≤ d ∧ d ≤ 255) :
    bits .or .u32 (bits .or .u32 (bits .or .u32 a (b * 256)) (c * 65536)) (d * 16777216) = a + b * 256 + c * 65536 + d * 16777216 := by
  obtain ⟨A, rfl⟩ := Int.eq_ofNat_of_zero_le ha.1
  obtain ⟨B, rfl⟩ := Int.eq_ofNat_of_zero_le hb.1
  obtain ⟨C, rfl⟩ := Int.eq_ofNat_of_zero_le hc.1
  obtain ⟨D, rfl⟩ := Int.eq_ofNat_of_zero_le hd.1
  have e1 : ((B : Int) * 256) = ((B * 2 ^ 8 : Nat) : Int) := by omega
  have e2 : ((C : Int) * 65536) = ((C * 2 ^ 16 : Nat) : Int) := by omega
  have e3 : ((D : Int) * 16777216) = ((D * 2 ^ 24 : Nat) : Int) := by omega
  rw [e1, u32_or_nat' _ _ (by omega) (by omega), or_add 8 (by omega), e2, u32_or_nat' _ _ (by omega) (by omega), or_add 16 (by omega), e3,
    u32_or_nat' _ _ (by omega) (by omega), or_add 24 (by omega)]
  omega
theorem splice4 (zs : List Int) : splice [Value.int .u8 0, Value.int .u8 0, Value.int .u8 0, Value.int .u8 0] 0 (List.take 4 (List.map (Value.int .u8) zs))
    = [Value.int .u8 (zs.getD 0 0), Value.int .u8 (zs.getD 1 0), Value.int .u8 (zs.getD 2 0), Value.int .u8 (zs.getD 3 0)] := by
  rcases zs with _ | ⟨a, _ | ⟨b, _ | ⟨c, _ | ⟨d, r⟩⟩⟩⟩ <;> simp [splice]
theorem cells4 {w : World} {g : Nat} {v0 v1 v2 v3 : Value} {t : TypeId} (h : w.heap[g]? = some (.cells #[v0, v1, v2, v3] t (0, 0))) :
    w.cell? ⟨g, 0, none⟩ = some v0 ∧ w.cell? ⟨g, 1, none⟩ = some v1 ∧ w.cell? ⟨g, 2, none⟩ = some v2 ∧ w.cell? ⟨g, 3, none⟩ = some v3 := by
  simp [World.cell?, h]
theorem alloc_new (w : World) (o : Obj) : (w.alloc o).heap[w.heap.size]? = some o := by
  show (w.heap.push o)[w.heap.size]? = some o; simp
def wordS (zs : List Int) : Int := zs.getD 0 0 + zs.getD 1 0 * 256 + zs.getD 2 0 * 65536 + zs.getD 3 0 * 16777216
theorem wordS_take (zs : List Int) (k : Nat) (h : 4 ≤ k ∨ zs.length ≤ k) : wordS (zs.take k) = wordS zs := by
  unfold wordS
  rcases h with h | h
  · simp [List.getD_eq_getElem?_getD, show 0 < k by omega, show 1 < k by omega, show 2 < k by omega, show 3 < k by omega]
  · rw [List.take_of_length_le h]
theorem wordS_snoc {zs : List Int} (hz : ∀ z ∈ zs, 0 ≤ z ∧ z ≤ 255) (k : Nat) (h : k < zs.length) (h4 : k < 4) :
    wordS (zs.take (k + 1)) = wordS (zs.take k) + zs.getD k 0 * 2 ^ (8 * k) ∧ 0 ≤ wordS (zs.take k) ∧ wordS (zs.take k) < 2 ^ (8 * k) := by
  have g0 := getD_bd hz 0
  have g1 := getD_bd hz 1
  have g2 := getD_bd hz 2
  have e0 : ∀ j, (zs.take j).getD 0 0 = if 0 < j then zs.getD 0 0 else 0 := fun j => by simp [List.getD_eq_getElem?_getD, List.getElem?_take]; split <;> simp
  have e1 : ∀ j, (zs.take j).getD 1 0 = if 1 < j then zs.getD 1 0 else 0 := fun j => by simp [List.getD_eq_getElem?_getD, List.getElem?_take]; split <;> simp
  have e2 : ∀ j, (zs.take j).getD 2 0 = if 2 < j then zs.getD 2 0 else 0 := fun j => by simp [List.getD_eq_getElem?_getD, List.getElem?_take]; split <;> simp
  have e3 : ∀ j, (zs.take j).getD 3 0 = if 3 < j then zs.getD 3 0 else 0 := fun j => by simp [List.getD_eq_getElem?_getD, List.getElem?_take]; split <;> simp
  unfold wordS
  rw [e0, e1, e2, e3, e0, e1, e2, e3]
  rw [List.getD_eq_getElem?_getD] at g0 g1 g2
  have hk : k = 0 ∨ k = 1 ∨ k = 2 ∨ k = 3 := by omega
  rcases hk with rfl | rfl | rfl | rfl <;> simp <;> omega
theorem or_byte (y z : Int) (k : Nat) (h4 : k < 4) (hy : 0 ≤ y ∧ y < 2 ^ (8 * k)) (hz : 0 ≤ z ∧ z ≤ 255) : bits .or .u32 y (z * 2 ^ (8 * k) % 4294967296) = y + z * 2 ^ (8 * k) := by
  obtain ⟨Y, rfl⟩ := Int.eq_ofNat_of_zero_le hy.1
  obtain ⟨Z, rfl⟩ := Int.eq_ofNat_of_zero_le hz.1
  have hY : Y < 2 ^ (8 * k) := by have := hy.2; rw [← cast_pow2] at this; omega
  have hZ : Z * 2 ^ (8 * k) < 4294967296 := by
    have h1 : 2 ^ (8 * k) ≤ 2 ^ 24 := Nat.pow_le_pow_right (by decide) (by omega)
    have := Nat.mul_le_mul (show Z ≤ 255 by omega) h1
    omega
  have hY2 : Y < 4294967296 := by
    have h1 : 2 ^ (8 * k) ≤ 2 ^ 24 := Nat.pow_le_pow_right (by decide) (by omega)
    omega
  have e : ((Z : Int) * 2 ^ (8 * k) % 4294967296) = ((Z * 2 ^ (8 * k) : Nat) : Int) := by rw [Int.natCast_mul, cast_pow2] at *; rw [← cast_pow2, ← Int.natCast_mul]; omega
  rw [e, u32_or_nat' _ _ hY2 hZ, or_add _ hY, Int.natCast_add, Int.natCast_mul, cast_pow2]
theorem mov_zero {x n : Int} (hx : 0 ≤ x ∧ x ≤ 4294967295) (h : n < -32 ∨ 31 < n) : mov x n = 0 := by
  rcases h with h | h
  · exact (mov_far h).symm
  · unfold mov; rw [if_pos (by omega), show min n.toNat 32 = 32 from by omega]; omega
theorem field_zero {x n k : Int} (hx : 0 ≤ x ∧ x ≤ 4294967295) (h : n < -32 ∨ 31 < n) : fieldS x n k = 0 := by
  unfold fieldS; rw [mov_zero hx h]; simp
theorem mod_step (m : Int) (j : Nat) : m % 2 ^ (j + 1) = m % 2 ^ j + 2 ^ j * (m / 2 ^ j % 2) := by
  have hp := two_pow_pos j
  rw [Int.pow_succ]
  generalize (2 : Int) ^ j = b at hp
  have e1 : m / (b * 2) = m / b / 2 := by rw [Int.ediv_ediv_of_nonneg (by omega)]
  have e2 : b * 2 * (m / b / 2) = b * (2 * (m / b / 2)) := Int.mul_assoc ..
  have e3 : b * (m / b) = b * (2 * (m / b / 2)) + b * (m / b % 2) := by rw [← Int.mul_add, Int.mul_ediv_add_emod]
  rw [Int.emod_def, Int.emod_def m b, e1, e2, e3]
  omega
theorem nat_mov_down (X a j : Nat) (hj : j < 32) : X * 2 ^ a % 4294967296 / 2 ^ j % 2 = if a ≤ j then X / 2 ^ (j - a) % 2 else 0 := by
  have e : (4294967296 : Nat) = 2 ^ j * (2 ^ (31 - j) * 2) := by
    rw [← Nat.pow_succ, ← Nat.pow_add, show j + (31 - j + 1) = 32 by omega]
  rw [e, Nat.mod_mul_right_div_self, Nat.mod_mul_left_mod]
  split
  · rename_i h
    rw [show j = a + (j - a) by omega, Nat.pow_add, ← Nat.div_div_eq_div_mul, Nat.mul_div_cancel _ (Nat.two_pow_pos a), show a + (j - a) - a = j - a by omega]
  · rename_i h
    rw [show a = j + (a - j - 1 + 1) by omega, Nat.pow_add, Nat.pow_succ, ← Nat.mul_assoc, Nat.mul_right_comm, Nat.mul_div_cancel _ (Nat.two_pow_pos j), ← Nat.mul_assoc]
    omega
theorem mov_bit {x n : Int} (j : Nat) (hx : 0 ≤ x ∧ x ≤ 4294967295) (h1 : -32 ≤ n) (h2 : n ≤ 31) (hj : j < 32) :
    mov x n / 2 ^ j % 2 = if 0 ≤ n + j ∧ n + j < 32 then x / 2 ^ (n + j).toNat % 2 else 0 := by
  obtain ⟨X, rfl⟩ := Int.eq_ofNat_of_zero_le hx.1
  unfold mov
  by_cases hn : 0 ≤ n
  · obtain ⟨N, rfl⟩ := Int.eq_ofNat_of_zero_le hn
    rw [if_pos hn, Int.toNat_natCast, show min N 32 = N by omega, show ((N : Int) + (j : Int)).toNat = N + j by omega]
    have e : (X : Int) / 2 ^ N / 2 ^ j = X / 2 ^ (N + j) := by
      rw [Int.pow_add, ← Int.ediv_ediv_of_nonneg (by have := two_pow_pos N; omega)]
    rw [e]
    by_cases h3 : N + j < 32
    · rw [if_pos (by omega)]
    · rw [if_neg (by omega)]
      have h4 : X / 2 ^ (N + j) = 0 := Nat.div_eq_of_lt (by
        have := Nat.pow_le_pow_right (n := 2) (by decide) (show 32 ≤ N + j by omega)
        omega)
      have e2 : (X : Int) / 2 ^ (N + j) = ((X / 2 ^ (N + j) : Nat) : Int) := by rw [Int.natCast_ediv, cast_pow2]
      rw [e2, h4]; rfl
  · obtain ⟨a, ha⟩ := Int.eq_ofNat_of_zero_le (show 0 ≤ -n by omega)
    obtain rfl : n = -(a : Int) := by omega
    rw [if_neg hn, show min (-(-(a : Int))).toNat 32 = a by omega]
    have e : (X : Int) * 2 ^ a % 4294967296 / 2 ^ j % 2 = ((X * 2 ^ a % 4294967296 / 2 ^ j % 2 : Nat) : Int) := by
      rw [Int.natCast_emod, Int.natCast_ediv, Int.natCast_emod, Int.natCast_mul, cast_pow2, cast_pow2]; rfl
    rw [e, nat_mov_down X a j hj]
    by_cases h3 : a ≤ j
    · rw [if_pos h3, if_pos (by omega), show (-(a : Int) + (j : Int)).toNat = j - a by omega, Int.natCast_emod, Int.natCast_ediv, cast_pow2]; rfl
    · rw [if_neg h3, if_neg (by omega)]; rfl
theorem or_pow {y : Int} {j : Nat} (hj : j < 32) (hy : 0 ≤ y ∧ y < 2 ^ j) : bits .or .u32 y (2 ^ j) = y + 2 ^ j := by
  obtain ⟨Y, rfl⟩ := Int.eq_ofNat_of_zero_le hy.1
  have hY : Y < 2 ^ j := by have := hy.2; rw [← cast_pow2] at this; omega
  have h1 : 2 ^ j ≤ 2 ^ 31 := Nat.pow_le_pow_right (by decide) (by omega)
  have := or_add (a := Y) (b := 1) j hY
  rw [Nat.one_mul] at this
  rw [← cast_pow2, u32_or_nat' _ _ (by omega) (by omega), this, Int.natCast_add]
theorem mod_pow_bd (m : Int) (j : Nat) : 0 ≤ m % 2 ^ j ∧ m % 2 ^ j < 2 ^ j := by
  have := two_pow_pos j
  exact ⟨Int.emod_nonneg _ (by omega), Int.emod_lt_of_pos _ (by omega)⟩
theorem fstep_yes {m : Int} {j : Nat} (hj : j < 32) (h : m / 2 ^ j % 2 = 1) : bits .or .u32 (m % 2 ^ j) (2 ^ j % 4294967296) = m % 2 ^ (j + 1) := by
  have h1 := two_pow_le (show j ≤ 31 by omega)
  have h2 := two_pow_pos j
  rw [show (2 : Int) ^ j % 4294967296 = 2 ^ j from Int.emod_eq_of_lt (by omega) (by rw [show (2 : Int) ^ 31 = 2147483648 by decide] at h1; omega)]
  rw [or_pow hj (mod_pow_bd m j), mod_step m j, h, Int.mul_one]
theorem fstep_no {m : Int} {j : Nat} (h : m / 2 ^ j % 2 = 0) : m % 2 ^ j = m % 2 ^ (j + 1) := by
  rw [mod_step m j, h, Int.mul_zero, Int.add_zero]
theorem mov_bit_in {x n : Int} {j q : Nat} (hx : 0 ≤ x ∧ x ≤ 4294967295) (h1 : -32 ≤ n) (h2 : n ≤ 31) (hj : j < 32) (hq : n + j = q) (hq2 : q < 32) :
    mov x n / 2 ^ j % 2 = x / 2 ^ q % 2 := by
  rw [mov_bit j hx h1 h2 hj, if_pos (by omega), hq, Int.toNat_natCast]
theorem mov_bit_out {x n : Int} {j : Nat} (hx : 0 ≤ x ∧ x ≤ 4294967295) (h1 : -32 ≤ n) (h2 : n ≤ 31) (hj : j < 32) (hq : ¬ (0 ≤ n + j ∧ n + j < 32)) :
    mov x n / 2 ^ j % 2 = 0 := by
  rw [mov_bit j hx h1 h2 hj, if_neg hq]
theorem bit_no {y : Int} (h : ¬ y % 2 = 1) : y % 2 = 0 := by omega
theorem wfb_u32 {a : Int} (h : (Lit.int .u32 a).wf = true) : 0 ≤ a ∧ a ≤ 4294967295 := by
  have h1 : IntKind.u32.min = 0 := rfl
  have h2 : IntKind.u32.max = 4294967295 := rfl
  simp only [Lit.wf, Bool.and_eq_true, decide_eq_true_eq] at h; omega
theorem wfb_u8 {a : Int} (h : (Lit.int .u8 a).wf = true) : 0 ≤ a ∧ a ≤ 255 := by
  have h1 : IntKind.u8.min = 0 := rfl
  have h2 : IntKind.u8.max = 255 := rfl
  simp only [Lit.wf, Bool.and_eq_true, decide_eq_true_eq] at h; omega
theorem wfb_i64 {a : Int} (h : (Lit.int .i64 a).wf = true) : -9223372036854775808 ≤ a ∧ a ≤ 9223372036854775807 := by
  have h1 : IntKind.i64.min = -9223372036854775808 := rfl
  have h2 : IntKind.i64.max = 9223372036854775807 := rfl
  simp only [Lit.wf, Bool.and_eq_true, decide_eq_true_eq] at h; omega
end Go.Proofs.Ytmlaancmacipoaa
