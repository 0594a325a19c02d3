import Derived.Test.YtmjheiedoihohaaDoorF1
import Derived.Deep.RegionHeld3
namespace Go.Proofs.YtmjheiedoihohaaDoor
open Go.RowKit
set_option linter.unusedVariables false

theorem hid {p : Prop} (h : p) : RowKit.Hid p := h
theorem xor_top (n : Nat) (h : n < 18446744073709551616) : n ^^^ 9223372036854775808 = negN n := by
  have h2 : n ^^^ 9223372036854775808 < 2 ^ 64 := Nat.xor_lt_two_pow (by omega) (by omega)
  have hx : (n ^^^ 9223372036854775808) / 2 ^ 63 = (n / 2 ^ 63) ^^^ (9223372036854775808 / 2 ^ 63) := Nat.xor_div_two_pow
  have hm : (n ^^^ 9223372036854775808) % 2 ^ 63 = (n % 2 ^ 63) ^^^ (9223372036854775808 % 2 ^ 63) := Nat.xor_mod_two_pow
  rw [show 9223372036854775808 % 2 ^ 63 = 0 from by decide, Nat.xor_zero] at hm
  rw [show 9223372036854775808 / 2 ^ 63 = 1 from by decide] at hx
  unfold negN
  split
  · rw [show n / 2 ^ 63 = 0 by omega] at hx
    have : (0 ^^^ 1 : Nat) = 1 := by decide
    omega
  · rw [show n / 2 ^ 63 = 1 by omega] at hx
    have : (1 ^^^ 1 : Nat) = 0 := by decide
    omega
theorem negN_lt {n : Nat} (h : n < 18446744073709551616) : negN n < 18446744073709551616 := by unfold negN; split <;> omega
theorem absN_lt (n : Nat) : absN n < 9223372036854775808 := Nat.mod_lt _ (by decide)
theorem neg_any (n : Nat) (h : n < 18446744073709551616) (w : World) : Calls Tryd.prog 19 #[.int .u64 n] w fun e w' => e = .returned (.int .u64 (negN n)) ∧ w = w' := by
  go_enter Tryd.func19, Tryd.ntmps19
  go_wp2
  go_ret
  refine ⟨ret_int ?_, rfl⟩
  rw [show (9223372036854775808 : Int) = ((9223372036854775808 : Nat) : Int) from rfl, u64_xor_nat _ _ h (by decide), xor_top n h]
theorem andNot_top (n : Nat) (h : n < 18446744073709551616) : bits .andNot .u64 n 9223372036854775808 = (absN n : Nat) := by
  rw [show (9223372036854775808 : Int) = ((9223372036854775808 : Nat) : Int) from rfl, u64_andNot_nat _ _ h (by decide), show 18446744073709551615 - 9223372036854775808 = 2 ^ 63 - 1 from by decide, Nat.and_two_pow_sub_one_eq_mod]
  rfl
theorem and_top (n : Nat) (h : n < 18446744073709551616) : bits .and .u64 n 9223372036854775808 = if n < 9223372036854775808 then 0 else 9223372036854775808 := by
  rw [show (9223372036854775808 : Int) = ((9223372036854775808 : Nat) : Int) from rfl, u64_and_nat _ _ h (by decide)]
  have hx : (n &&& 9223372036854775808) / 2 ^ 63 = (n / 2 ^ 63) &&& (9223372036854775808 / 2 ^ 63) := Nat.and_div_two_pow
  have hm : (n &&& 9223372036854775808) % 2 ^ 63 = (n % 2 ^ 63) &&& (9223372036854775808 % 2 ^ 63) := Nat.and_mod_two_pow
  rw [show 9223372036854775808 % 2 ^ 63 = 0 from by decide, Nat.and_zero] at hm
  rw [show 9223372036854775808 / 2 ^ 63 = 1 from by decide] at hx
  split
  · rw [show n / 2 ^ 63 = 0 by omega] at hx
    have : (0 &&& 1 : Nat) = 0 := by decide
    omega
  · rw [show n / 2 ^ 63 = 1 by omega] at hx
    have : (1 &&& 1 : Nat) = 1 := by decide
    omega
theorem abs_any (n : Nat) (h : n < 18446744073709551616) (w : World) : Calls Tryd.prog 20 #[.int .u64 n] w fun e w' => e = .returned (.int .u64 (absN n)) ∧ w = w' := by
  go_enter Tryd.func20, Tryd.ntmps20
  go_wp2
  go_ret
  exact ⟨ret_int (andNot_top n h), rfl⟩
theorem rnone_any (n : Nat) (h : n < 18446744073709551616) (w : World) : Calls Tryd.prog 27 #[.int .u64 n] w fun e w' => e = .returned (.bool (decide (9218868437227405312 < absN n))) ∧ w = w' := by
  go_enter Tryd.func27, Tryd.ntmps27
  go_wp2
  go_ret
  refine ⟨ret_bool ?_, rfl⟩
  rw [IntKind.wrap_u64]
  rw [decide_eq_decide]
  unfold absN
  omega
set_option maxRecDepth 100000 in
theorem rkind_int (a : Int) (h : 0 ≤ a) (h1 : a ≤ 18446744073709551615) (w : World) : Calls Tryd.prog 22 #[.int .u64 a] w fun e w' => e = .returned (.int .i64 (kindN a.toNat)) ∧ w = w' := by
  go_enter Tryd.func22, Tryd.ntmps22
  go_wp2
  all_goals go_ret
  all_goals refine ⟨ret_int ?_, rfl⟩
  all_goals simp only [IntKind.wrap_u64, beq_eq_false_iff_ne, beq_iff_eq] at *
  · rw [show kindN a.toNat = 0 from if_pos (by unfold absN; omega)]; rfl
  · rw [show kindN a.toNat = 1 from (if_neg (by unfold absN; omega)).trans (if_pos (by unfold absN; omega))]; rfl
  · rw [show kindN a.toNat = 2 from (if_neg (by unfold absN; omega)).trans ((if_neg (by unfold absN; omega)).trans (if_pos (by unfold absN; omega)))]; rfl
  · rw [show kindN a.toNat = 3 from (if_neg (by unfold absN; omega)).trans ((if_neg (by unfold absN; omega)).trans ((if_neg (by unfold absN; omega)).trans (if_pos (by unfold absN; omega))))]; rfl
  · rw [show kindN a.toNat = 4 from (if_neg (by unfold absN; omega)).trans ((if_neg (by unfold absN; omega)).trans ((if_neg (by unfold absN; omega)).trans (if_neg (by unfold absN; omega))))]; rfl
theorem rkind_any (n : Nat) (h : n < 18446744073709551616) (w : World) : Calls Tryd.prog 22 #[.int .u64 n] w fun e w' => e = .returned (.int .i64 (kindN n)) ∧ w = w' :=
  rkind_int (n : Int) (by omega) (by omega) w
theorem minus_any (n : Nat) (h : n < 18446744073709551616) (w : World) : Calls Tryd.prog 31 #[.int .u64 n] w fun e w' => e = .returned (.string ⟨if n < 9223372036854775808 then #[] else #[45]⟩) ∧ w = w' := by
  have hb := and_top n h
  split at hb
  all_goals rename_i h1
  all_goals
    go_enter Tryd.func31, Tryd.ntmps31
    go_wp2
    go_ret
    exact ⟨rfl, rfl⟩
set_option maxRecDepth 100000 in
theorem kind_any (n : Nat) (h : n < 18446744073709551616) (w : World) (tabs : Tabs w) : Calls Tryd.prog 21 #[.int .u64 n] w fun e w' => e = .returned (.int .i64 (kindN n)) ∧ Below w.heap.size w w' := by
  obtain ⟨t0, t1, t2, t3, t4, t5⟩ := tabs
  have hk : (kindN n = if absN n < 1 then 0 else if absN n < 4503599627370496 then 1 else if absN n < 9218868437227405312 then 2 else if absN n < 9218868437227405313 then 3 else 4) := rfl
  generalize kindN n = K at *
  have ha : ∀ w, Calls Tryd.prog 20 #[.int .u64 n] w fun e w' => e = .returned (.int .u64 (absN n)) ∧ w = w' := fun w => abs_any n h w
  obtain ⟨m, hm⟩ : ∃ m : Int, m = absN n := ⟨_, rfl⟩
  rw [← hm] at ha
  have hK : (K : Int) = if m < 1 then 0 else if m < 4503599627370496 then 1 else if m < 9218868437227405312 then 2 else if m < 9218868437227405313 then 3 else 4 := by
    rw [hk]; split <;> split <;> (try split) <;> (try split) <;> (try split) <;> (try split) <;> (try split) <;> omega
  generalize (K : Int) = k at *
  have hK' := hid hK
  clear hK hm hk
  go_enter Tryd.func21, Tryd.ntmps21
  go_wp2_with fail
  refine wp_loop_rounds 5 ?_
  rw [rounds_succ]
  go_wp2_with fail
  go_region_held3 (fun w' => w'.cell? ⟨0, 0, none⟩ = some (.int .u64 1)) (go_keep) (first | (go_at_call 20; refine (ha _).mono ?_; rintro e w' ⟨rfl, rfl⟩))
  all_goals go_wp2_with fail
  rotate_left
  · rename_i hx
    rw [hK'.out, if_pos (by omega)]
    go_ret
    exact ⟨rfl, by repeat (first | exact Below.refl _ _ | apply Below.drew)⟩
  rw [rounds_succ]
  go_wp2_with fail
  go_region_held3 (fun w' => w'.cell? ⟨0, 1, none⟩ = some (.int .u64 4503599627370496)) (go_keep) (first | (go_at_call 20; refine (ha _).mono ?_; rintro e w' ⟨rfl, rfl⟩))
  all_goals go_wp2_with fail
  rotate_left
  · rename_i hx
    rw [hK'.out, if_neg (by omega), if_pos (by omega)]
    go_ret
    exact ⟨rfl, by repeat (first | exact Below.refl _ _ | apply Below.drew)⟩
  rw [rounds_succ]
  go_wp2_with fail
  go_region_held3 (fun w' => w'.cell? ⟨0, 2, none⟩ = some (.int .u64 9218868437227405312)) (go_keep) (first | (go_at_call 20; refine (ha _).mono ?_; rintro e w' ⟨rfl, rfl⟩))
  all_goals go_wp2_with fail
  rotate_left
  · rename_i hx
    rw [hK'.out, if_neg (by omega), if_neg (by omega), if_pos (by omega)]
    go_ret
    exact ⟨rfl, by repeat (first | exact Below.refl _ _ | apply Below.drew)⟩
  rw [rounds_succ]
  go_wp2_with fail
  go_region_held3 (fun w' => w'.cell? ⟨0, 3, none⟩ = some (.int .u64 9218868437227405313)) (go_keep) (first | (go_at_call 20; refine (ha _).mono ?_; rintro e w' ⟨rfl, rfl⟩))
  all_goals go_wp2_with fail
  rotate_left
  · rename_i hx
    rw [hK'.out, if_neg (by omega), if_neg (by omega), if_neg (by omega), if_pos (by omega)]
    go_ret
    exact ⟨rfl, by repeat (first | exact Below.refl _ _ | apply Below.drew)⟩
  rw [rounds_succ]
  go_wp2_with fail
  go_region
  all_goals go_wp2_with fail
  rw [hK'.out, if_neg (by omega), if_neg (by omega), if_neg (by omega), if_neg (by omega)]
  go_ret
  exact ⟨rfl, by repeat (first | exact Below.refl _ _ | apply Below.drew)⟩
end Go.Proofs.YtmjheiedoihohaaDoor
