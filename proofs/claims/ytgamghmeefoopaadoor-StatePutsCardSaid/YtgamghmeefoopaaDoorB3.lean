import Derived.Test.YtgamghmeefoopaaDoorRows
import Derived.Test.YtgamghmeefoopaaDoorKit
import Derived.Laws.CopyOwn
namespace Go.Proofs.YtgamghmeefoopaaDoor
open Go.RowKit
set_option linter.unusedVariables false

theorem lowest_any (n : Nat) (h : n ≤ 32) (w : World) : Calls Tryd.prog 42 #[.int .i64 n] w fun e w' => e = .returned (.int .u32 (2 ^ n - 1)) ∧ w = w' := by
  go_enter Tryd.func42, Tryd.ntmps42
  go_wp2
  go_ret
  exact ⟨ret_int (low_mask h), rfl⟩
theorem moved_any (x n : Int) (h : 0 ≤ x ∧ x ≤ 4294967295) (hn : -9223372036854775808 ≤ n ∧ n ≤ 9223372036854775807) (w : World) : Calls Tryd.prog 41 #[.int .u32 x, .int .i64 n] w fun e w' => e = .returned (.int .u32 (mov x n)) ∧ w = w' := by
  by_cases c1 : 0 ≤ n
  · obtain ⟨k, rfl⟩ := Int.eq_ofNat_of_zero_le c1
    go_enter Tryd.func41, Tryd.ntmps41
    go_wp2
    go_ret
    exact ⟨ret_int mov_up, rfl⟩
  · by_cases c2 : n < -32
    · go_enter Tryd.func41, Tryd.ntmps41
      go_wp2
      go_ret
      exact ⟨ret_int (mov_far c2), rfl⟩
    · go_enter Tryd.func41, Tryd.ntmps41
      go_wp2
      go_ret
      exact ⟨ret_int (mov_down (by omega) (by omega)), rfl⟩
theorem field_any (x n k : Int) (h : 0 ≤ x ∧ x ≤ 4294967295) (hn : -9223372036854775808 ≤ n ∧ n ≤ 9223372036854775807) (w : World) : Calls Tryd.prog 35 #[.int .u32 x, .int .i64 n, .int .i64 k] w fun e w' => e = .returned (.int .u32 (fieldS x n k)) ∧ w = w' := by
  have hm := mov_bd x n h
  by_cases c1 : k < 0
  · go_enter Tryd.func35, Tryd.ntmps35
    go_wp2_with (first | (go_at_call 41; refine (moved_any _ _ h hn _).mono ?_; rintro e w' ⟨rfl, rfl⟩) | (go_at_call 42; refine (lowest_any 0 (by omega) _).mono ?_; rintro e w' ⟨rfl, rfl⟩))
    go_ret
    exact ⟨ret_int (field_lo hm c1), rfl⟩
  · by_cases c2 : 32 < k
    · go_enter Tryd.func35, Tryd.ntmps35
      go_wp2_with (first | (go_at_call 41; refine (moved_any _ _ h hn _).mono ?_; rintro e w' ⟨rfl, rfl⟩) | (go_at_call 42; refine (lowest_any 32 (by omega) _).mono ?_; rintro e w' ⟨rfl, rfl⟩))
      go_ret
      exact ⟨ret_int (field_hi hm c2), rfl⟩
    · obtain ⟨K, rfl⟩ := Int.eq_ofNat_of_zero_le (show 0 ≤ k by omega)
      go_enter Tryd.func35, Tryd.ntmps35
      go_wp2_with (first | (go_at_call 41; refine (moved_any _ _ h hn _).mono ?_; rintro e w' ⟨rfl, rfl⟩) | (go_at_call 42; refine (lowest_any _ (by omega) _).mono ?_; rintro e w' ⟨rfl, rfl⟩))
      go_ret
      exact ⟨ret_int (field_mid hm (by omega)), rfl⟩
end Go.Proofs.YtgamghmeefoopaaDoor
