import Derived.Test.YtbalnlodkiejcaaDoorRows
import Derived.Test.YtbalnlodkiejcaaDoorKit
import Derived.Laws.CopyOwn
namespace Go.Proofs.YtbalnlodkiejcaaDoor
open Go.RowKit
set_option linter.unusedVariables false

theorem signed_any (x n : Int) (h : 0 ≤ x ∧ x ≤ 4294967295) (w : World) : Calls Tryd.prog 34 #[.int .u32 x, .int .i64 n] w fun e w' => e = .returned (.int .i32 (sgn (held n) x)) ∧ w = w' := by
  by_cases c1 : n < 1
  · go_enter Tryd.func34, Tryd.ntmps34
    go_wp2
    go_ret
    exact ⟨ret_int (sgn_lo c1), rfl⟩
  · by_cases c2 : 32 < n
    · go_enter Tryd.func34, Tryd.ntmps34
      go_wp2
      go_ret
      exact ⟨ret_int (sgn_hi c2 h), rfl⟩
    · obtain ⟨k, rfl⟩ := Int.eq_ofNat_of_zero_le (show 0 ≤ n by omega)
      go_enter Tryd.func34, Tryd.ntmps34
      go_wp2
      go_ret
      exact ⟨ret_int (sgn_mid (by omega) (by omega)), rfl⟩
theorem rsigned_any (x n : Int) (h : 0 ≤ x ∧ x ≤ 4294967295) (w : World) : Calls Tryd.prog 30 #[.int .u32 x, .int .i64 n] w fun e w' => e = .returned (.int .i32 (sgn (held n) x)) ∧ w = w' := by
  by_cases c1 : n < 1
  · go_enter Tryd.func30, Tryd.ntmps30
    go_wp2
    go_ret
    exact ⟨ret_int (sgn_lo c1), rfl⟩
  · by_cases c2 : 32 < n
    · go_enter Tryd.func30, Tryd.ntmps30
      go_wp2
      go_ret
      exact ⟨ret_int (sgn_hi c2 h), rfl⟩
    · obtain ⟨k, rfl⟩ := Int.eq_ofNat_of_zero_le (show 0 ≤ n by omega)
      by_cases c3 : (1 : Int) < k
      · go_enter Tryd.func30, Tryd.ntmps30
        go_wp2
        go_ret
        exact ⟨ret_int (sgn_mid (by omega) (by omega)), rfl⟩
      · go_enter Tryd.func30, Tryd.ntmps30
        go_wp2
        go_ret
        exact ⟨ret_int (sgn_one (by omega) (by omega)), rfl⟩
theorem lowest_any (n : Nat) (h : n ≤ 32) (w : World) : Calls Tryd.prog 56 #[.int .i64 n] w fun e w' => e = .returned (.int .u32 (2 ^ n - 1)) ∧ w = w' := by
  go_enter Tryd.func56, Tryd.ntmps56
  go_wp2
  go_ret
  exact ⟨ret_int (low_mask h), rfl⟩
theorem moved_any (x n : Int) (h : 0 ≤ x ∧ x ≤ 4294967295) (hn : -9223372036854775808 ≤ n ∧ n ≤ 9223372036854775807) (w : World) : Calls Tryd.prog 55 #[.int .u32 x, .int .i64 n] w fun e w' => e = .returned (.int .u32 (mov x n)) ∧ w = w' := by
  by_cases c1 : 0 ≤ n
  · obtain ⟨k, rfl⟩ := Int.eq_ofNat_of_zero_le c1
    go_enter Tryd.func55, Tryd.ntmps55
    go_wp2
    go_ret
    exact ⟨ret_int mov_up, rfl⟩
  · by_cases c2 : n < -32
    · go_enter Tryd.func55, Tryd.ntmps55
      go_wp2
      go_ret
      exact ⟨ret_int (mov_far c2), rfl⟩
    · go_enter Tryd.func55, Tryd.ntmps55
      go_wp2
      go_ret
      exact ⟨ret_int (mov_down (by omega) (by omega)), rfl⟩
theorem field_any (x n k : Int) (h : 0 ≤ x ∧ x ≤ 4294967295) (hn : -9223372036854775808 ≤ n ∧ n ≤ 9223372036854775807) (w : World) : Calls Tryd.prog 52 #[.int .u32 x, .int .i64 n, .int .i64 k] w fun e w' => e = .returned (.int .u32 (fieldS x n k)) ∧ w = w' := by
  have hm := mov_bd x n h
  by_cases c1 : k < 0
  · go_enter Tryd.func52, Tryd.ntmps52
    go_wp2_with (first | (go_at_call 55; refine (moved_any _ _ h hn _).mono ?_; rintro e w' ⟨rfl, rfl⟩) | (go_at_call 56; refine (lowest_any 0 (by omega) _).mono ?_; rintro e w' ⟨rfl, rfl⟩))
    go_ret
    exact ⟨ret_int (field_lo hm c1), rfl⟩
  · by_cases c2 : 32 < k
    · go_enter Tryd.func52, Tryd.ntmps52
      go_wp2_with (first | (go_at_call 55; refine (moved_any _ _ h hn _).mono ?_; rintro e w' ⟨rfl, rfl⟩) | (go_at_call 56; refine (lowest_any 32 (by omega) _).mono ?_; rintro e w' ⟨rfl, rfl⟩))
      go_ret
      exact ⟨ret_int (field_hi hm c2), rfl⟩
    · obtain ⟨K, rfl⟩ := Int.eq_ofNat_of_zero_le (show 0 ≤ k by omega)
      go_enter Tryd.func52, Tryd.ntmps52
      go_wp2_with (first | (go_at_call 55; refine (moved_any _ _ h hn _).mono ?_; rintro e w' ⟨rfl, rfl⟩) | (go_at_call 56; refine (lowest_any _ (by omega) _).mono ?_; rintro e w' ⟨rfl, rfl⟩))
      go_ret
      exact ⟨ret_int (field_mid hm (by omega)), rfl⟩
theorem rfield_mid (x n k : Int) (M : Nat) (hM : k = (M : Int)) (hM32 : M ≤ 32) (h0 : (0 : Int) < M) (h : 0 ≤ x ∧ x ≤ 4294967295) (h1 : -32 ≤ n) (h2 : n ≤ 31) (w : World) : Calls Tryd.prog 40 #[.int .u32 x, .int .i64 n, .int .i64 k] w fun e w' => e = .returned (.int .u32 (mov x n % 2 ^ M)) ∧ w = w' := by
  subst hM
  go_enter Tryd.func40, Tryd.ntmps40
  go_wp2
  go_loop [8, 9, 10] (fun y i q => ∃ j : Nat, j ≤ M ∧ i = .int .i64 j ∧ y = .int .u32 (mov x n % 2 ^ j)) (fun _ i _ => M - (intOf i).toNat)
  case atStart => exact ⟨0, by omega, rfl, by simp [Int.emod_one]⟩
  case round =>
    obtain ⟨j, hj, rfl, rfl⟩ := hrel
    by_cases hlt : j < M
    · by_cases hin : 0 ≤ n + j ∧ n + j < 32
      · obtain ⟨q, hq⟩ := Int.eq_ofNat_of_zero_le hin.1
        have hb := div_pow_bd (x := x) q h
        have ht := bit_test _ hb
        have g1 : 0 ≤ n + (j : Int) := hin.1
        have g2 : n + (j : Int) < 32 := hin.2
        have hm := Lib.hid (mov_bit_in h h1 h2 (by omega) hq (by omega))
        have hqn : (n + (j : Int)).toNat = q := by omega
        rw [← hqn] at ht
        by_cases hone : x / 2 ^ q % 2 = 1
        · rw [hqn, decide_eq_true hone, ← hqn] at ht
          have hs := Lib.hid (fstep_yes (m := mov x n) (j := j) (by omega) (by rw [hm.out]; exact hone))
          clear hin hb hq hqn hone
          go_wp2
          go_round
          case rel => exact ⟨j + 1, by omega, by go_num, by rw [hs.out]⟩
          case measure => simp [intOf]; omega
        · rw [hqn, decide_eq_false hone, ← hqn] at ht
          have hs := Lib.hid (fstep_no (m := mov x n) (j := j) (by rw [hm.out]; exact bit_no hone))
          clear hin hb hq hqn hone
          go_wp2
          go_round
          case rel => exact ⟨j + 1, by omega, by go_num, by rw [← hs.out]⟩
          case measure => simp [intOf]; omega
      · have hs := Lib.hid (fstep_no (m := mov x n) (j := j) (mov_bit_out h h1 h2 (by omega) hin))
        by_cases hneg : n + j < 0
        · go_wp2
          go_round
          case rel => exact ⟨j + 1, by omega, by go_num, by rw [← hs.out]⟩
          case measure => simp [intOf]; omega
        · have g1 : 0 ≤ n + (j : Int) := by omega
          have g2 : ¬ n + (j : Int) < 32 := by omega
          go_wp2
          go_round
          case rel => exact ⟨j + 1, by omega, by go_num, by rw [← hs.out]⟩
          case measure => simp [intOf]; omega
    · obtain rfl : j = M := by omega
      go_wp2
      go_ret
      exact ⟨rfl, rfl⟩
theorem rfield_hi (x n k : Int) (hk : 32 < k) (h : 0 ≤ x ∧ x ≤ 4294967295) (h1 : -32 ≤ n) (h2 : n ≤ 31) (w : World) : Calls Tryd.prog 40 #[.int .u32 x, .int .i64 n, .int .i64 k] w fun e w' => e = .returned (.int .u32 (mov x n % 2 ^ 32)) ∧ w = w' := by
  go_enter Tryd.func40, Tryd.ntmps40
  go_wp2
  go_loop [8, 9, 10] (fun y i q => ∃ j : Nat, j ≤ 32 ∧ i = .int .i64 j ∧ y = .int .u32 (mov x n % 2 ^ j)) (fun _ i _ => 32 - (intOf i).toNat)
  case atStart => exact ⟨0, by omega, rfl, by simp [Int.emod_one]⟩
  case round =>
    obtain ⟨j, hj, rfl, rfl⟩ := hrel
    by_cases hlt : j < 32
    · by_cases hin : 0 ≤ n + j ∧ n + j < 32
      · obtain ⟨q, hq⟩ := Int.eq_ofNat_of_zero_le hin.1
        have hb := div_pow_bd (x := x) q h
        have ht := bit_test _ hb
        have g1 : 0 ≤ n + (j : Int) := hin.1
        have g2 : n + (j : Int) < 32 := hin.2
        have hm := Lib.hid (mov_bit_in h h1 h2 (by omega) hq (by omega))
        have hqn : (n + (j : Int)).toNat = q := by omega
        rw [← hqn] at ht
        by_cases hone : x / 2 ^ q % 2 = 1
        · rw [hqn, decide_eq_true hone, ← hqn] at ht
          have hs := Lib.hid (fstep_yes (m := mov x n) (j := j) (by omega) (by rw [hm.out]; exact hone))
          clear hin hb hq hqn hone
          go_wp2
          go_round
          case rel => exact ⟨j + 1, by omega, by go_num, by rw [hs.out]⟩
          case measure => simp [intOf]; omega
        · rw [hqn, decide_eq_false hone, ← hqn] at ht
          have hs := Lib.hid (fstep_no (m := mov x n) (j := j) (by rw [hm.out]; exact bit_no hone))
          clear hin hb hq hqn hone
          go_wp2
          go_round
          case rel => exact ⟨j + 1, by omega, by go_num, by rw [← hs.out]⟩
          case measure => simp [intOf]; omega
      · have hs := Lib.hid (fstep_no (m := mov x n) (j := j) (mov_bit_out h h1 h2 (by omega) hin))
        by_cases hneg : n + j < 0
        · go_wp2
          go_round
          case rel => exact ⟨j + 1, by omega, by go_num, by rw [← hs.out]⟩
          case measure => simp [intOf]; omega
        · have g1 : 0 ≤ n + (j : Int) := by omega
          have g2 : ¬ n + (j : Int) < 32 := by omega
          go_wp2
          go_round
          case rel => exact ⟨j + 1, by omega, by go_num, by rw [← hs.out]⟩
          case measure => simp [intOf]; omega
    · obtain rfl : j = 32 := by omega
      go_wp2
      go_ret
      exact ⟨rfl, rfl⟩
theorem rfield_lo (x n k : Int) (hk : k ≤ 0) (w : World) : Calls Tryd.prog 40 #[.int .u32 x, .int .i64 n, .int .i64 k] w fun e w' => e = .returned (.int .u32 0) ∧ w = w' := by
  by_cases h3 : k < 0
  · go_enter Tryd.func40, Tryd.ntmps40
    go_wp2
    refine wp_loop_rounds 1 ?_
    rw [rounds_succ]
    go_wp2
    go_ret
    exact ⟨rfl, rfl⟩
  · obtain rfl : k = 0 := by omega
    clear h3 hk
    go_enter Tryd.func40, Tryd.ntmps40
    go_wp2
    refine wp_loop_rounds 1 ?_
    rw [rounds_succ]
    go_wp2
    go_ret
    exact ⟨rfl, rfl⟩
theorem rfield_out (x n k : Int) (hk : 0 < k) (hn : n < -32 ∨ 31 < n) (w : World) : Calls Tryd.prog 40 #[.int .u32 x, .int .i64 n, .int .i64 k] w fun e w' => e = .returned (.int .u32 0) ∧ w = w' := by
  by_cases h32 : 32 < k
  · by_cases c : n < -32
    · go_enter Tryd.func40, Tryd.ntmps40
      go_wp2
      refine wp_loop_rounds 1 ?_
      rw [rounds_succ]
      go_wp2
      go_ret
      exact ⟨rfl, rfl⟩
    · have c1 : -32 ≤ n := by omega
      have c2 : 31 < n := by omega
      clear hn
      go_enter Tryd.func40, Tryd.ntmps40
      go_wp2
      refine wp_loop_rounds 1 ?_
      rw [rounds_succ]
      go_wp2
      go_ret
      exact ⟨rfl, rfl⟩
  · by_cases c : n < -32
    · go_enter Tryd.func40, Tryd.ntmps40
      go_wp2
      refine wp_loop_rounds 1 ?_
      rw [rounds_succ]
      go_wp2
      go_ret
      exact ⟨rfl, rfl⟩
    · have c1 : -32 ≤ n := by omega
      have c2 : 31 < n := by omega
      clear hn
      go_enter Tryd.func40, Tryd.ntmps40
      go_wp2
      refine wp_loop_rounds 1 ?_
      rw [rounds_succ]
      go_wp2
      go_ret
      exact ⟨rfl, rfl⟩
theorem rfield_any (x n k : Int) (h : 0 ≤ x ∧ x ≤ 4294967295) (w : World) : Calls Tryd.prog 40 #[.int .u32 x, .int .i64 n, .int .i64 k] w fun e w' => e = .returned (.int .u32 (fieldS x n k)) ∧ w = w' := by
  by_cases c0 : k ≤ 0
  · refine (rfield_lo x n k c0 w).mono fun e w' he => ⟨?_, he.2⟩
    rw [he.1]; refine ret_int ?_
    unfold fieldS
    rw [show held0 k = 0 by unfold held0; split <;> (try split) <;> omega, Int.pow_zero, Int.emod_one]
  · by_cases c1 : n < -32 ∨ 31 < n
    · refine (rfield_out x n k (by omega) c1 w).mono fun e w' he => ⟨?_, he.2⟩
      rw [he.1]; exact ret_int (field_zero h c1).symm
    · by_cases c2 : 32 < k
      · refine (rfield_hi x n k c2 h (by omega) (by omega) w).mono fun e w' he => ⟨?_, he.2⟩
        rw [he.1]; refine ret_int ?_
        unfold fieldS
        rw [show held0 k = 32 by unfold held0; split <;> (try split) <;> omega]
      · obtain ⟨M, rfl⟩ := Int.eq_ofNat_of_zero_le (show 0 ≤ k by omega)
        refine (rfield_mid x n M M rfl (by omega) (by omega) h (by omega) (by omega) w).mono fun e w' he => ⟨?_, he.2⟩
        rw [he.1]; refine ret_int ?_
        unfold fieldS
        rw [show held0 (M : Int) = M by unfold held0; split <;> (try split) <;> omega]
end Go.Proofs.YtbalnlodkiejcaaDoor
