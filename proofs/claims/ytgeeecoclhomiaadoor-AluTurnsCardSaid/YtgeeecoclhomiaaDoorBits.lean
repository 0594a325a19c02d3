import Derived.Test.YtgeeecoclhomiaaDoorRows
import Derived.Test.YtgeeecoclhomiaaDoorKit
import Derived.Laws.CopyOwn
namespace Go.Proofs.YtgeeecoclhomiaaDoor
open Go.RowKit
set_option linter.unusedVariables false

theorem one_any (c : Bool) (w : World) : Calls Tryd.prog 47 #[.bool c] w fun e w' => e = .returned (.int .i64 (c01 c)) ∧ w = w' := by
  cases c <;>
  · go_enter Tryd.func47, Tryd.ntmps47
    go_wp2
    go_ret
    exact ⟨rfl, rfl⟩
theorem beyond_any (p s : Int) (w : World) : Calls Tryd.prog 48 #[.int .i64 p, .int .i64 s] w fun e w' => e = .returned (.tuple #[.int .u32 (p % 4294967296), .bool (p != p % 4294967296), .bool (s != wrap32 s)]) ∧ w = w' := by
  have h32 := bd32 s
  go_enter Tryd.func48, Tryd.ntmps48
  go_wp2
  go_ret3
  exact ⟨rfl, rfl⟩
theorem addC_any (a b : Int) (c : Bool) (h : 0 ≤ a ∧ a ≤ 4294967295) (hb : 0 ≤ b ∧ b ≤ 4294967295) (w : World) : Calls Tryd.prog 42 #[.int .u32 a, .int .u32 b, .bool c] w fun e w' =>
    e = .returned (.tuple #[.int .u32 ((a + b + c01 c) % 4294967296), .bool (a + b + c01 c != (a + b + c01 c) % 4294967296), .bool (wrap32 a + wrap32 b + c01 c != wrap32 (wrap32 a + wrap32 b + c01 c))]) ∧ w = w' := by
  have h1 := bd32 a
  have h2 := bd32 b
  have h3 := bd01 c
  go_enter Tryd.func42, Tryd.ntmps42
  go_wp2_with (first | (go_at_call 47; refine (one_any _ _).mono ?_; rintro e w' ⟨rfl, rfl⟩) | (go_at_call 48; refine (beyond_any _ _ _).mono ?_; rintro e w' ⟨rfl, rfl⟩))
  go_ret3
  exact ⟨rfl, rfl⟩
theorem subC_any (a b : Int) (c : Bool) (h : 0 ≤ a ∧ a ≤ 4294967295) (hb : 0 ≤ b ∧ b ≤ 4294967295) (w : World) : Calls Tryd.prog 44 #[.int .u32 a, .int .u32 b, .bool c] w fun e w' =>
    e = .returned (.tuple #[.int .u32 ((a - b - c01 c) % 4294967296), .bool (a - b - c01 c != (a - b - c01 c) % 4294967296), .bool (wrap32 a - wrap32 b - c01 c != wrap32 (wrap32 a - wrap32 b - c01 c))]) ∧ w = w' := by
  have h1 := bd32 a
  have h2 := bd32 b
  have h3 := bd01 c
  go_enter Tryd.func44, Tryd.ntmps44
  go_wp2_with (first | (go_at_call 47; refine (one_any _ _).mono ?_; rintro e w' ⟨rfl, rfl⟩) | (go_at_call 48; refine (beyond_any _ _ _).mono ?_; rintro e w' ⟨rfl, rfl⟩))
  go_ret3
  exact ⟨rfl, rfl⟩
theorem rsign_any (a : Int) (w : World) : Calls Tryd.prog 36 #[.int .u32 a] w fun e w' => e = .returned (.int .i64 (wrap32 a)) ∧ w = w' := by
  have h1 := bd32 a
  go_enter Tryd.func36, Tryd.ntmps36
  go_wp2
  go_ret
  exact ⟨rfl, rfl⟩
theorem halves_any (p : Int) (hp : 0 ≤ p ∧ p ≤ 18446744073709551615) (w : World) : Calls Tryd.prog 35 #[.int .u64 p] w fun e w' => e = .returned (.tuple #[.int .u32 (p % 4294967296), .int .u32 (p / 4294967296)]) ∧ w = w' := by
  go_enter Tryd.func35, Tryd.ntmps35
  go_wp2
  go_ret2
  exact ⟨rfl, rfl⟩
theorem mulU_any (a b : Int) (h : 0 ≤ a ∧ a ≤ 4294967295) (hb : 0 ≤ b ∧ b ≤ 4294967295) (w : World) : Calls Tryd.prog 22 #[.int .u32 a, .int .u32 b] w fun e w' => e = .returned (.tuple #[.int .u32 (a * b % 4294967296), .int .u32 (a * b / 4294967296)]) ∧ w = w' := by
  have hab := mul_bd h hb
  go_enter Tryd.func22, Tryd.ntmps22
  go_wp2_with (first | (go_at_call 35; refine (halves_any _ (by omega) _).mono ?_; rintro e w' ⟨rfl, rfl⟩))
  go_ret2
  exact ⟨rfl, rfl⟩
theorem rmulU_any (a b : Int) (h : 0 ≤ a ∧ a ≤ 4294967295) (hb : 0 ≤ b ∧ b ≤ 4294967295) (w : World) : Calls Tryd.prog 26 #[.int .u32 a, .int .u32 b] w fun e w' => e = .returned (.tuple #[.int .u32 (a * b % 4294967296), .int .u32 (a * b / 4294967296)]) ∧ w = w' := by
  have hab := mul_bd h hb
  go_enter Tryd.func26, Tryd.ntmps26
  go_wp2
  go_ret2
  exact ⟨rfl, rfl⟩
theorem mulS_any (a b : Int) (w : World) : Calls Tryd.prog 24 #[.int .u32 a, .int .u32 b] w fun e w' => e = .returned (.tuple #[.int .u32 (wrap32 a * wrap32 b % 4294967296), .int .u32 (wrap32 a * wrap32 b / 4294967296 % 4294967296)]) ∧ w = w' := by
  have h1 := bd32 a
  have h2 := bd32 b
  have hab := mul_sbd h1 h2
  go_enter Tryd.func24, Tryd.ntmps24
  go_wp2_with (first | (go_at_call 35; refine (halves_any _ (u64_bd _) _).mono ?_; rintro e w' ⟨rfl, rfl⟩))
  go_ret2
  exact ⟨ret_ii (wrap64_low _) (wrap64_high _), rfl⟩
theorem rmulS_any (a b : Int) (w : World) : Calls Tryd.prog 27 #[.int .u32 a, .int .u32 b] w fun e w' => e = .returned (.tuple #[.int .u32 (wrap32 a * wrap32 b % 4294967296), .int .u32 (wrap32 a * wrap32 b / 4294967296 % 4294967296)]) ∧ w = w' := by
  have h1 := bd32 a
  have h2 := bd32 b
  have hab := mul_sbd h1 h2
  have hu := u64_bd (wrap32 a * wrap32 b)
  go_enter Tryd.func27, Tryd.ntmps27
  go_wp2_with (first | (go_at_call 36; refine (rsign_any _ _).mono ?_; rintro e w' ⟨rfl, rfl⟩))
  go_ret2
  exact ⟨ret_ii rfl (wrap64_high _), rfl⟩
theorem lowest_any (n : Nat) (h : n ≤ 32) (w : World) : Calls Tryd.prog 50 #[.int .i64 n] w fun e w' => e = .returned (.int .u32 (2 ^ n - 1)) ∧ w = w' := by
  go_enter Tryd.func50, Tryd.ntmps50
  go_wp2
  go_ret
  exact ⟨ret_int (low_mask h), rfl⟩
theorem moved_any (x n : Int) (h : 0 ≤ x ∧ x ≤ 4294967295) (hn : -9223372036854775808 ≤ n ∧ n ≤ 9223372036854775807) (w : World) : Calls Tryd.prog 49 #[.int .u32 x, .int .i64 n] w fun e w' => e = .returned (.int .u32 (mov x n)) ∧ w = w' := by
  by_cases c1 : 0 ≤ n
  · obtain ⟨k, rfl⟩ := Int.eq_ofNat_of_zero_le c1
    go_enter Tryd.func49, Tryd.ntmps49
    go_wp2
    go_ret
    exact ⟨ret_int mov_up, rfl⟩
  · by_cases c2 : n < -32
    · go_enter Tryd.func49, Tryd.ntmps49
      go_wp2
      go_ret
      exact ⟨ret_int (mov_far c2), rfl⟩
    · go_enter Tryd.func49, Tryd.ntmps49
      go_wp2
      go_ret
      exact ⟨ret_int (mov_down (by omega) (by omega)), rfl⟩
theorem parity_any (x : Int) (h : 0 ≤ x ∧ x ≤ 4294967295) (w : World) : Calls Tryd.prog 45 #[.int .u32 x] w fun e w' => e = .returned (.bool (evenS x.toNat 8)) ∧ w = w' := by
  obtain ⟨X, rfl⟩ := Int.eq_ofNat_of_zero_le h.1
  rw [Int.toNat_natCast]
  go_enter Tryd.func45, Tryd.ntmps45
  go_wp2
  go_ret
  exact ⟨ret_bool (fold_even X (by omega)), rfl⟩
theorem field_any (x n k : Int) (h : 0 ≤ x ∧ x ≤ 4294967295) (hn : -9223372036854775808 ≤ n ∧ n ≤ 9223372036854775807) (w : World) : Calls Tryd.prog 46 #[.int .u32 x, .int .i64 n, .int .i64 k] w fun e w' => e = .returned (.int .u32 (fieldS x n k)) ∧ w = w' := by
  have hm := mov_bd x n h
  by_cases c1 : k < 0
  · go_enter Tryd.func46, Tryd.ntmps46
    go_wp2_with (first | (go_at_call 49; refine (moved_any _ _ h hn _).mono ?_; rintro e w' ⟨rfl, rfl⟩) | (go_at_call 50; refine (lowest_any 0 (by omega) _).mono ?_; rintro e w' ⟨rfl, rfl⟩))
    go_ret
    exact ⟨ret_int (field_lo hm c1), rfl⟩
  · by_cases c2 : 32 < k
    · go_enter Tryd.func46, Tryd.ntmps46
      go_wp2_with (first | (go_at_call 49; refine (moved_any _ _ h hn _).mono ?_; rintro e w' ⟨rfl, rfl⟩) | (go_at_call 50; refine (lowest_any 32 (by omega) _).mono ?_; rintro e w' ⟨rfl, rfl⟩))
      go_ret
      exact ⟨ret_int (field_hi hm c2), rfl⟩
    · obtain ⟨K, rfl⟩ := Int.eq_ofNat_of_zero_le (show 0 ≤ k by omega)
      go_enter Tryd.func46, Tryd.ntmps46
      go_wp2_with (first | (go_at_call 49; refine (moved_any _ _ h hn _).mono ?_; rintro e w' ⟨rfl, rfl⟩) | (go_at_call 50; refine (lowest_any _ (by omega) _).mono ?_; rintro e w' ⟨rfl, rfl⟩))
      go_ret
      exact ⟨ret_int (field_mid hm (by omega)), rfl⟩
theorem k_add (w : World) : Calls Tryd.prog 42 #[.int .u32 4294967295, .int .u32 1, .bool false] w fun e w' => e = .returned (.tuple #[.int .u32 0, .bool true, .bool false]) ∧ w = w' :=
  (addC_any 4294967295 1 false (by decide) (by decide) w).mono fun e w' h => ⟨h.1.trans (by kernel_rfl), h.2⟩
theorem k_mul (w : World) : Calls Tryd.prog 24 #[.int .u32 4294967295, .int .u32 2] w fun e w' => e = .returned (.tuple #[.int .u32 4294967294, .int .u32 4294967295]) ∧ w = w' :=
  (mulS_any 4294967295 2 w).mono fun e w' h => ⟨h.1.trans (by kernel_rfl), h.2⟩
theorem k_field (w : World) : Calls Tryd.prog 46 #[.int .u32 240, .int .i64 4, .int .i64 4] w fun e w' => e = .returned (.int .u32 15) ∧ w = w' :=
  (field_any 240 4 4 (by decide) (by decide) w).mono fun e w' h => ⟨h.1.trans (by kernel_rfl), h.2⟩
theorem k_parity (w : World) : Calls Tryd.prog 45 #[.int .u32 768] w fun e w' => e = .returned (.bool true) ∧ w = w' :=
  (parity_any 768 (by decide) w).mono fun e w' h => ⟨h.1.trans (by kernel_rfl), h.2⟩
end Go.Proofs.YtgeeecoclhomiaaDoor
