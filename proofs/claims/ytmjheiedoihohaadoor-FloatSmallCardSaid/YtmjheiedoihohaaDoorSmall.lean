import Derived.Test.YtmjheiedoihohaaDoorF6
import Derived.Test.YtmjheiedoihohaaDoorM5
import Derived.Test.YtmjheiedoihohaaDoorWf
namespace Go.Proofs.YtmjheiedoihohaaDoor
open Go.RowKit
set_option linter.unusedVariables false

/-- A word of a sign and a small rung. -/
def smallW (s : Bool) (x : Nat) : Nat := if s then x + 9223372036854775808 else x
theorem small_word (s : Bool) (x : Nat) (h : x < 4503599627370496) : Ieee.Format.word D s x = smallW s x := by
  unfold Ieee.Format.word smallW; rw [sw]; cases s <;> simp <;> omega
theorem read_small (s : Bool) (x : Nat) (h : x < 4503599627370496) : Ieee.Format.read D (smallW s x) = .number s x (-1074) := by
  have hw := word_lt' s (r := x) (by omega)
  rw [small_word s x h] at hw
  rw [read_eq _ hw.1, hw.2.1, if_pos h, hw.2.2]
theorem small_add (s : Bool) (x y : Nat) (hx : x < 4294967296) (hy : y < 4294967296) : fl .add (smallW s x) (smallW s y) = smallW s (x + y) := by
  rw [fl_num (s := s) (m := x + y) (p := -1074), nearest_sub s _ (by omega), small_word s _ (by omega)]
  rw [add_def, read_small s x (by omega), read_small s y (by omega)]
  simp only [Ieee.Datum.sum, Option.map_some]
  rw [Int.min_self, Int.sub_self]
  have e : Ieee.signed s x (Int.toNat 0) + Ieee.signed s y (Int.toNat 0) = Ieee.signed s (x + y) 0 := by
    rw [signed_eq, signed_eq, signed_eq]; cases s <;> simp <;> omega
  rw [e, signed_abs, Nat.pow_zero, Nat.mul_one]
  congr 3
  split
  · simp
  · rename_i h0
    exact signed_neg (fun h1 => h0 (signed_zero.2 h1))
theorem small_fin (s : Bool) (x : Nat) (h : x < 4503599627370496) : smallW s x < 18446744073709551616 ∧ absN (smallW s x) = x ∧ finN (smallW s x) := by
  have hw := word_lt' s (r := x) (by omega)
  rw [small_word s x h] at hw
  exact ⟨hw.1, hw.2.1, by unfold finN; rw [hw.2.1]; omega⟩
theorem small_half (s : Bool) : fl .mul (smallW s 1) 4602678819172646912 = smallW s 0 := by cases s <;> kernel_rfl
theorem small_nil (x : Nat) (h : x < 4294967296) : fl .mul x 0 = 0 := by
  have hw := small_fin false x (by omega)
  have := az_mul (a := smallW false x) hw.1 hw.2.2 false
  have hs : sgn (smallW false x) = false := by unfold sgn smallW; simp; omega
  rw [hs] at this
  exact this
theorem small_kind (s : Bool) (x : Nat) (h : x < 4294967296) (h0 : x ≠ 0) : kindN (smallW s x) = 1 := by
  have hw := small_fin s x (by omega)
  unfold kindN
  rw [hw.2.1, if_neg (by omega), if_pos (by omega)]

theorem q_add (x y r : Nat) (X Y R : Int) (hX : (x : Int) = X) (hY : (y : Int) = Y) (hr : fl .add x y = r) (hR : (r : Int) = R) (w : World) : Calls Tryd.prog 14 #[.int .u64 X, .int .u64 Y] w fun e w' => e = .returned (.int .u64 R) ∧ Below w.heap.size w w' := by
  subst hX; subst hY; subst hR; subst hr
  exact add_any x y w
theorem q_sub (x y r : Nat) (X Y R : Int) (hX : (x : Int) = X) (hY : (y : Int) = Y) (hr : fl .sub x y = r) (hR : (r : Int) = R) (w : World) : Calls Tryd.prog 16 #[.int .u64 X, .int .u64 Y] w fun e w' => e = .returned (.int .u64 R) ∧ Below w.heap.size w w' := by
  subst hX; subst hY; subst hR; subst hr
  exact sub_any x y w
theorem q_mul (x y r : Nat) (X Y R : Int) (hX : (x : Int) = X) (hY : (y : Int) = Y) (hr : fl .mul x y = r) (hR : (r : Int) = R) (w : World) : Calls Tryd.prog 17 #[.int .u64 X, .int .u64 Y] w fun e w' => e = .returned (.int .u64 R) ∧ Below w.heap.size w w' := by
  subst hX; subst hY; subst hR; subst hr
  exact mul_any x y w
theorem q_kind (x : Nat) (h : x < 18446744073709551616) (X K : Int) (hX : (x : Int) = X) (hK : (kindN x : Int) = K) (w : World) (tabs : Tabs w) : Calls Tryd.prog 21 #[.int .u64 X] w fun e w' => e = .returned (.int .i64 K) ∧ Below w.heap.size w w' := by
  subst hX; subst hK
  exact kind_any x h w tabs
theorem or_nil (x : Nat) (h : x < 18446744073709551616) : bits .or .u64 x 0 = (x : Int) := by
  rw [show (0 : Int) = ((0 : Nat) : Int) from rfl, u64_or_nat _ _ h (by decide), Nat.or_zero]
theorem or_neg (n : Nat) (h : n < 9223372036854775808) : bits .or .u64 n 9223372036854775808 = (n : Int) + 9223372036854775808 := by
  rw [show (9223372036854775808 : Int) = ((9223372036854775808 : Nat) : Int) from rfl, u64_or_nat _ _ (by omega) (by decide)]
  rw [Nat.or_comm, show 9223372036854775808 = 2 ^ 63 * 1 from rfl, ← Nat.two_pow_add_eq_or_of_lt (i := 63) h 1]
  omega
theorem small_cast (s : Bool) (x : Nat) : ((smallW s x : Nat) : Int) = if s then (x : Int) + 9223372036854775808 else x := by unfold smallW; split <;> simp

set_option maxHeartbeats 1000000 in
theorem small_f0 (a b : Nat) (ha : a < 4294967296) (hb : b < 4294967296) (hz : a = 0) (w : World) (tabs : Tabs w) : Calls Tryd.prog 9 #[.int .u32 a, .int .u32 b, .bool false] w fun e w' => e = .returned (.bool true) ∧ Below w.heap.size w w' := by
  subst hz
  have o1 : bits .or .u64 0 0 = 0 := by decide +kernel
  have o2 := or_nil b (by omega)
  have o4 : bits .or .u64 1 0 = 1 := by decide +kernel
  go_enter Tryd.func9, Tryd.ntmps9
  go_wp2_with fail
  refine (known_any _ tabs).mono ?_
  rintro e w1 ⟨rfl, b2⟩
  replace tabs := tabs.below b2
  go_wp2_with fail
  refine (q_add (smallW false 0) (smallW false b) _ _ _ (b : Int) (by kernel_rfl) (small_cast false b) (small_add false 0 b (by decide) hb) (by rw [small_cast, Nat.zero_add]; rfl) _).mono ?_
  rintro e w1 ⟨rfl, b1⟩
  replace tabs := tabs.below b1
  replace b2 := b2.trans (b1.mono b2.size)
  clear b1
  go_wp2_with fail
  refine (q_sub 0 0 0 0 0 0 rfl rfl (by kernel_rfl) rfl _).mono ?_
  rintro e w1 ⟨rfl, b1⟩
  replace tabs := tabs.below b1
  replace b2 := b2.trans (b1.mono b2.size)
  clear b1
  go_wp2_with fail
  refine (q_mul (smallW false 1) 4602678819172646912 _ 1 4602678819172646912 0 (by kernel_rfl) (by kernel_rfl) (small_half false) (by kernel_rfl) _).mono ?_
  rintro e w1 ⟨rfl, b1⟩
  replace tabs := tabs.below b1
  replace b2 := b2.trans (b1.mono b2.size)
  clear b1
  go_wp2_with fail
  refine (q_mul 0 0 0 0 0 0 rfl rfl (by kernel_rfl) rfl _).mono ?_
  rintro e w1 ⟨rfl, b1⟩
  replace tabs := tabs.below b1
  replace b2 := b2.trans (b1.mono b2.size)
  clear b1
  go_wp2_with fail
  go_ret
  exact ⟨rfl, b2⟩
set_option maxHeartbeats 1000000 in
theorem small_f1 (a b : Nat) (ha : a < 4294967296) (hb : b < 4294967296) (hz : a ≠ 0) (w : World) (tabs : Tabs w) : Calls Tryd.prog 9 #[.int .u32 a, .int .u32 b, .bool false] w fun e w' => e = .returned (.bool true) ∧ Below w.heap.size w w' := by
  have o1 := or_nil a (by omega)
  have o2 := or_nil b (by omega)
  have o3 := or_nil (a + b) (by omega)
  rw [Int.natCast_add] at o3
  have o4 : bits .or .u64 1 0 = 1 := by decide +kernel
  have hq : ((a : Int) == 0) = false := by rw [beq_eq_false_iff_ne]; omega
  go_enter Tryd.func9, Tryd.ntmps9
  go_wp2_with fail
  refine (known_any _ tabs).mono ?_
  rintro e w1 ⟨rfl, b2⟩
  replace tabs := tabs.below b2
  go_wp2_with fail
  refine (q_add (smallW false a) (smallW false b) _ _ _ ((a : Int) + b) (small_cast false a) (small_cast false b) (small_add false a b ha hb) (by rw [small_cast, Int.natCast_add]; rfl) _).mono ?_
  rintro e w1 ⟨rfl, b1⟩
  replace tabs := tabs.below b1
  replace b2 := b2.trans (b1.mono b2.size)
  clear b1
  go_wp2_with fail
  refine (q_sub a a 0 _ _ 0 rfl rfl (aa_sub (small_fin false a (by omega)).1 (small_fin false a (by omega)).2.2) rfl _).mono ?_
  rintro e w1 ⟨rfl, b1⟩
  replace tabs := tabs.below b1
  replace b2 := b2.trans (b1.mono b2.size)
  clear b1
  go_wp2_with fail
  refine (q_mul (smallW false 1) 4602678819172646912 _ 1 4602678819172646912 0 (by kernel_rfl) (by kernel_rfl) (small_half false) (by kernel_rfl) _).mono ?_
  rintro e w1 ⟨rfl, b1⟩
  replace tabs := tabs.below b1
  replace b2 := b2.trans (b1.mono b2.size)
  clear b1
  go_wp2_with fail
  refine (q_kind (smallW false a) (small_fin false a (by omega)).1 _ 1 (small_cast false a) (by rw [small_kind false a ha hz]; rfl) _ tabs).mono ?_
  rintro e w1 ⟨rfl, b1⟩
  replace tabs := tabs.below b1
  replace b2 := b2.trans (b1.mono b2.size)
  clear b1
  go_wp2_with fail
  refine (q_mul a 0 0 _ 0 0 rfl rfl (small_nil a (by omega)) rfl _).mono ?_
  rintro e w1 ⟨rfl, b1⟩
  replace tabs := tabs.below b1
  replace b2 := b2.trans (b1.mono b2.size)
  clear b1
  go_wp2_with fail
  go_ret
  exact ⟨rfl, b2⟩
set_option maxHeartbeats 1000000 in
theorem small_t0 (a b : Nat) (ha : a < 4294967296) (hb : b < 4294967296) (hz : a = 0) (w : World) (tabs : Tabs w) : Calls Tryd.prog 9 #[.int .u32 a, .int .u32 b, .bool true] w fun e w' => e = .returned (.bool true) ∧ Below w.heap.size w w' := by
  subst hz
  have o1 : bits .or .u64 0 9223372036854775808 = 9223372036854775808 := by decide +kernel
  have o2 := or_neg b (by omega)
  have o4 : bits .or .u64 1 9223372036854775808 = 9223372036854775809 := by decide +kernel
  go_enter Tryd.func9, Tryd.ntmps9
  go_wp2_with fail
  refine (known_any _ tabs).mono ?_
  rintro e w1 ⟨rfl, b2⟩
  replace tabs := tabs.below b2
  go_wp2_with fail
  refine (q_add (smallW true 0) (smallW true b) _ _ _ ((b : Int) + 9223372036854775808) (by kernel_rfl) (small_cast true b) (small_add true 0 b (by decide) hb) (by rw [small_cast, Nat.zero_add]; rfl) _).mono ?_
  rintro e w1 ⟨rfl, b1⟩
  replace tabs := tabs.below b1
  replace b2 := b2.trans (b1.mono b2.size)
  clear b1
  go_wp2_with fail
  refine (q_sub 0 0 0 0 0 0 rfl rfl (by kernel_rfl) rfl _).mono ?_
  rintro e w1 ⟨rfl, b1⟩
  replace tabs := tabs.below b1
  replace b2 := b2.trans (b1.mono b2.size)
  clear b1
  go_wp2_with fail
  refine (q_mul (smallW true 1) 4602678819172646912 _ 9223372036854775809 4602678819172646912 9223372036854775808 (by kernel_rfl) (by kernel_rfl) (small_half true) (by kernel_rfl) _).mono ?_
  rintro e w1 ⟨rfl, b1⟩
  replace tabs := tabs.below b1
  replace b2 := b2.trans (b1.mono b2.size)
  clear b1
  go_wp2_with fail
  refine (q_mul 0 0 0 0 0 0 rfl rfl (by kernel_rfl) rfl _).mono ?_
  rintro e w1 ⟨rfl, b1⟩
  replace tabs := tabs.below b1
  replace b2 := b2.trans (b1.mono b2.size)
  clear b1
  go_wp2_with fail
  go_ret
  exact ⟨rfl, b2⟩
set_option maxHeartbeats 1000000 in
theorem small_t1 (a b : Nat) (ha : a < 4294967296) (hb : b < 4294967296) (hz : a ≠ 0) (w : World) (tabs : Tabs w) : Calls Tryd.prog 9 #[.int .u32 a, .int .u32 b, .bool true] w fun e w' => e = .returned (.bool true) ∧ Below w.heap.size w w' := by
  have o1 := or_neg a (by omega)
  have o2 := or_neg b (by omega)
  have o3 := or_neg (a + b) (by omega)
  rw [Int.natCast_add] at o3
  have o4 : bits .or .u64 1 9223372036854775808 = 9223372036854775809 := by decide +kernel
  have hq : ((a : Int) == 0) = false := by rw [beq_eq_false_iff_ne]; omega
  go_enter Tryd.func9, Tryd.ntmps9
  go_wp2_with fail
  refine (known_any _ tabs).mono ?_
  rintro e w1 ⟨rfl, b2⟩
  replace tabs := tabs.below b2
  go_wp2_with fail
  refine (q_add (smallW true a) (smallW true b) _ _ _ ((a : Int) + b + 9223372036854775808) (small_cast true a) (small_cast true b) (small_add true a b ha hb) (by rw [small_cast, Int.natCast_add]; rfl) _).mono ?_
  rintro e w1 ⟨rfl, b1⟩
  replace tabs := tabs.below b1
  replace b2 := b2.trans (b1.mono b2.size)
  clear b1
  go_wp2_with fail
  refine (q_sub a a 0 _ _ 0 rfl rfl (aa_sub (small_fin false a (by omega)).1 (small_fin false a (by omega)).2.2) rfl _).mono ?_
  rintro e w1 ⟨rfl, b1⟩
  replace tabs := tabs.below b1
  replace b2 := b2.trans (b1.mono b2.size)
  clear b1
  go_wp2_with fail
  refine (q_mul (smallW true 1) 4602678819172646912 _ 9223372036854775809 4602678819172646912 9223372036854775808 (by kernel_rfl) (by kernel_rfl) (small_half true) (by kernel_rfl) _).mono ?_
  rintro e w1 ⟨rfl, b1⟩
  replace tabs := tabs.below b1
  replace b2 := b2.trans (b1.mono b2.size)
  clear b1
  go_wp2_with fail
  refine (q_kind (smallW true a) (small_fin true a (by omega)).1 _ 1 (small_cast true a) (by rw [small_kind true a ha hz]; rfl) _ tabs).mono ?_
  rintro e w1 ⟨rfl, b1⟩
  replace tabs := tabs.below b1
  replace b2 := b2.trans (b1.mono b2.size)
  clear b1
  go_wp2_with fail
  refine (q_mul a 0 0 _ 0 0 rfl rfl (small_nil a (by omega)) rfl _).mono ?_
  rintro e w1 ⟨rfl, b1⟩
  replace tabs := tabs.below b1
  replace b2 := b2.trans (b1.mono b2.size)
  clear b1
  go_wp2_with fail
  go_ret
  exact ⟨rfl, b2⟩
theorem small_walk (a b : Nat) (m : Bool) (ha : a < 4294967296) (hb : b < 4294967296) (w : World) (tabs : Tabs w) : Calls Tryd.prog 9 #[.int .u32 a, .int .u32 b, .bool m] w fun e w' => e = .returned (.bool true) ∧ Below w.heap.size w w' := by
  by_cases hz : a = 0 <;> cases m
  · exact small_f0 a b ha hb hz w tabs
  · exact small_t0 a b ha hb hz w tabs
  · exact small_f1 a b ha hb hz w tabs
  · exact small_t1 a b ha hb hz w tabs
end Go.Proofs.YtmjheiedoihohaaDoor
