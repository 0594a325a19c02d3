import Derived.Test.YtmjheiedoihohaaDoorF6
import Derived.Test.YtmjheiedoihohaaDoorM1
import Derived.Test.YtmjheiedoihohaaDoorWf
namespace Go.Proofs.YtmjheiedoihohaaDoor
open Go.RowKit
set_option linter.unusedVariables false

theorem or_top (n : Nat) (h : n < 9223372036854775808) : bits .or .u64 n 9223372036854775808 = ((n + 9223372036854775808 : Nat) : Int) := by
  rw [show (9223372036854775808 : Int) = ((9223372036854775808 : Nat) : Int) from rfl, u64_or_nat _ _ (by omega) (by decide)]
  congr 1
  rw [Nat.or_comm, show 9223372036854775808 = 2 ^ 63 * 1 from rfl, ← Nat.two_pow_add_eq_or_of_lt (i := 63) h 1]
  omega
theorem or_inf (f : Nat) (h : f < 4503599627370496) : bits .or .u64 9218868437227405312 f = ((f + 9218868437227405312 : Nat) : Int) := by
  rw [show (9218868437227405312 : Int) = ((9218868437227405312 : Nat) : Int) from rfl, u64_or_nat _ _ (by decide) (by omega)]
  congr 1
  rw [show 9218868437227405312 = 2 ^ 52 * 2047 from rfl, ← Nat.two_pow_add_eq_or_of_lt (i := 52) h 2047]
  omega
theorem low_val (low : Nat) : IntKind.u64.wrap ((low : Int) * 4096) / 4096 = ((low % 4503599627370496 : Nat) : Int) := by
  rw [IntKind.wrap_u64]
  omega
theorem low_ne {low : Nat} (h : (IntKind.u64.wrap ((low : Int) * 4096) == 0) = false) : low % 4503599627370496 ≠ 0 := by
  rw [IntKind.wrap_u64] at h
  simp at h
  omega

theorem n_add (n a : Nat) (h : n < 18446744073709551616) (hn : isNan n = true) (N : Int) (hN : (n : Int) = N) (w : World) : Calls Tryd.prog 14 #[.int .u64 N, .int .u64 a] w fun e w' => e = .returned (.int .u64 9221120237041090560) ∧ Below w.heap.size w w' := by
  subst hN
  exact (add_any n a w).mono (by rintro e w' ⟨rfl, hb⟩; exact ⟨by rw [fl_nan_add a h hn]; rfl, hb⟩)
theorem n_mul (n a : Nat) (h : n < 18446744073709551616) (hn : isNan n = true) (N : Int) (hN : (n : Int) = N) (w : World) : Calls Tryd.prog 17 #[.int .u64 N, .int .u64 a] w fun e w' => e = .returned (.int .u64 9221120237041090560) ∧ Below w.heap.size w w' := by
  subst hN
  exact (mul_any n a w).mono (by rintro e w' ⟨rfl, hb⟩; exact ⟨by rw [fl_nan_mul a h hn]; rfl, hb⟩)
theorem n_sub (n a : Nat) (h : n < 18446744073709551616) (hn : isNan n = true) (N : Int) (hN : (n : Int) = N) (w : World) : Calls Tryd.prog 16 #[.int .u64 a, .int .u64 N] w fun e w' => e = .returned (.int .u64 9221120237041090560) ∧ Below w.heap.size w w' := by
  subst hN
  exact (sub_any a n w).mono (by rintro e w' ⟨rfl, hb⟩; exact ⟨by rw [fl_nan_sub a h hn]; rfl, hb⟩)
theorem n_div (n a : Nat) (h : n < 18446744073709551616) (hn : isNan n = true) (N : Int) (hN : (n : Int) = N) (w : World) : Calls Tryd.prog 18 #[.int .u64 a, .int .u64 N] w fun e w' => e = .returned (.int .u64 9221120237041090560) ∧ Below w.heap.size w w' := by
  subst hN
  exact (div_any a n w).mono (by rintro e w' ⟨rfl, hb⟩; exact ⟨by rw [fl_nan_div a h hn]; rfl, hb⟩)
theorem n_cmp1 (n a : Nat) (h : n < 18446744073709551616) (ha : a < 18446744073709551616) (hn : isNan n = true) (N : Int) (hN : (n : Int) = N) (w : World) (tabs : Tabs w) : Calls Tryd.prog 12 #[.int .u64 N, .int .u64 a] w fun e w' => e = .returned (.tuple #[.bool true, .bool true, .bool true]) ∧ Below w.heap.size w w' := by
  subst hN
  exact (compare_any n a h ha w tabs).mono (by rintro e w' ⟨rfl, hb⟩; exact ⟨by simp [zf, pf, cf, hn], hb⟩)
theorem n_cmp2 (n a : Nat) (h : n < 18446744073709551616) (ha : a < 18446744073709551616) (hn : isNan n = true) (N : Int) (hN : (n : Int) = N) (w : World) (tabs : Tabs w) : Calls Tryd.prog 12 #[.int .u64 a, .int .u64 N] w fun e w' => e = .returned (.tuple #[.bool true, .bool true, .bool true]) ∧ Below w.heap.size w w' := by
  subst hN
  exact (compare_any a n ha h w tabs).mono (by rintro e w' ⟨rfl, hb⟩; exact ⟨by simp [zf, pf, cf, hn], hb⟩)
theorem n_neg (n : Nat) (h : n < 18446744073709551616) (N : Int) (hN : (n : Int) = N) (w : World) : Calls Tryd.prog 19 #[.int .u64 N] w fun e w' => e = .returned (.int .u64 (negN n)) ∧ w = w' := by
  subst hN
  exact neg_any n h w
theorem n_neg2 (n : Nat) (h : n < 18446744073709551616) (N : Int) (hN : (n : Int) = N) (w : World) : Calls Tryd.prog 19 #[.int .u64 (negN n)] w fun e w' => e = .returned (.int .u64 N) ∧ w = w' := by
  subst hN
  exact (neg_any (negN n) (negN_lt h) w).mono (by rintro e w' ⟨rfl, rfl⟩; exact ⟨by rw [neg_neg h], rfl⟩)

set_option maxHeartbeats 4000000 in
theorem none_walk (a low : Nat) (sign : Bool) (ha : a < 18446744073709551616) (hl : low < 18446744073709551616) (w : World) (tabs : Tabs w) : Calls Tryd.prog 4 #[.int .u64 a, .int .u64 low, .bool sign] w fun e w' => e = .returned (.bool true) ∧ Below w.heap.size w w' := by
  have hv := low_val low
  have hne := hid (low_ne (low := low))
  have hf : low % 4503599627370496 < 4503599627370496 := Nat.mod_lt _ (by decide)
  generalize low % 4503599627370496 = f at *
  have hoi := or_inf f hf
  have o1 : bits .or .u64 9221120237041090560 9223372036854775808 = 18444492273895866368 := by decide +kernel
  have o2 : bits .or .u64 ((f : Int) + 9218868437227405312) 9223372036854775808 = (f : Int) + 18442240474082181120 := by
    have h := or_top (f + 9218868437227405312) (by omega)
    rw [show ((f + 9218868437227405312 : Nat) : Int) = (f : Int) + 9218868437227405312 by omega] at h
    rw [h]; omega
  cases sign
  · go_enter Tryd.func4, Tryd.ntmps4
    go_wp2_with fail
    refine (known_any _ tabs).mono ?_
    rintro e w1 ⟨rfl, b2⟩
    replace tabs := tabs.below b2
    go_wp2_with fail
    · obtain ⟨n, hN⟩ : ∃ n, n = 9221120237041090560 := ⟨_, rfl⟩
      have hI : (n : Int) = 9221120237041090560 := by omega
      have h : n < 18446744073709551616 := by omega
      have hn : isNan n = true := by rw [hN]; kernel_rfl
      have hk : (kindN n : Int) = 4 := by rw [kind_nan hn]; rfl
      clear hN
      refine (n_cmp1 n a h ha hn _ hI _ tabs).mono ?_
      rintro e w1 ⟨rfl, b1⟩
      replace tabs := tabs.below b1
      replace b2 := b2.trans (b1.mono b2.size)
      clear b1
      go_wp2_with fail
      refine (n_cmp2 n a h ha hn _ hI _ tabs).mono ?_
      rintro e w1 ⟨rfl, b1⟩
      replace tabs := tabs.below b1
      replace b2 := b2.trans (b1.mono b2.size)
      clear b1
      go_wp2_with fail
      refine (n_add n a h hn _ hI _).mono ?_
      rintro e w1 ⟨rfl, b1⟩
      replace tabs := tabs.below b1
      replace b2 := b2.trans (b1.mono b2.size)
      clear b1
      go_wp2_with fail
      refine (n_sub n a h hn _ hI _).mono ?_
      rintro e w1 ⟨rfl, b1⟩
      replace tabs := tabs.below b1
      replace b2 := b2.trans (b1.mono b2.size)
      clear b1
      go_wp2_with fail
      refine (n_mul n a h hn _ hI _).mono ?_
      rintro e w1 ⟨rfl, b1⟩
      replace tabs := tabs.below b1
      replace b2 := b2.trans (b1.mono b2.size)
      clear b1
      go_wp2_with fail
      refine (n_div n a h hn _ hI _).mono ?_
      rintro e w1 ⟨rfl, b1⟩
      replace tabs := tabs.below b1
      replace b2 := b2.trans (b1.mono b2.size)
      clear b1
      go_wp2_with fail
      refine (k_kind n h 4 hk _ hI _ tabs).mono ?_
      rintro e w1 ⟨rfl, b1⟩
      replace tabs := tabs.below b1
      replace b2 := b2.trans (b1.mono b2.size)
      clear b1
      go_wp2_with fail
      refine (k_text n h _ (textN_nan hn) _ hI _ tabs).mono ?_
      rintro e w1 ⟨rfl, b1⟩
      replace tabs := tabs.below b1
      replace b2 := b2.trans (b1.mono b2.size)
      clear b1
      go_wp2_with fail
      refine (n_neg n h _ hI _).mono ?_
      rintro e w1 ⟨rfl, rfl⟩
      go_wp2_with fail
      refine (n_neg2 n h _ hI _).mono ?_
      rintro e w1 ⟨rfl, rfl⟩
      go_wp2_with fail
      go_ret
      exact ⟨rfl, b2⟩
    · have hz := hne.out (by assumption)
      obtain ⟨n, hN⟩ : ∃ n, n = f + 9218868437227405312 := ⟨_, rfl⟩
      have hI : (n : Int) = (f : Int) + 9218868437227405312 := by omega
      have h : n < 18446744073709551616 := by omega
      have hn : isNan n = true := by unfold isNan absN; rw [decide_eq_true_iff]; omega
      have hk : (kindN n : Int) = 4 := by rw [kind_nan hn]; rfl
      clear hN
      refine (n_cmp1 n a h ha hn _ hI _ tabs).mono ?_
      rintro e w1 ⟨rfl, b1⟩
      replace tabs := tabs.below b1
      replace b2 := b2.trans (b1.mono b2.size)
      clear b1
      go_wp2_with fail
      refine (n_cmp2 n a h ha hn _ hI _ tabs).mono ?_
      rintro e w1 ⟨rfl, b1⟩
      replace tabs := tabs.below b1
      replace b2 := b2.trans (b1.mono b2.size)
      clear b1
      go_wp2_with fail
      refine (n_add n a h hn _ hI _).mono ?_
      rintro e w1 ⟨rfl, b1⟩
      replace tabs := tabs.below b1
      replace b2 := b2.trans (b1.mono b2.size)
      clear b1
      go_wp2_with fail
      refine (n_sub n a h hn _ hI _).mono ?_
      rintro e w1 ⟨rfl, b1⟩
      replace tabs := tabs.below b1
      replace b2 := b2.trans (b1.mono b2.size)
      clear b1
      go_wp2_with fail
      refine (n_mul n a h hn _ hI _).mono ?_
      rintro e w1 ⟨rfl, b1⟩
      replace tabs := tabs.below b1
      replace b2 := b2.trans (b1.mono b2.size)
      clear b1
      go_wp2_with fail
      refine (n_div n a h hn _ hI _).mono ?_
      rintro e w1 ⟨rfl, b1⟩
      replace tabs := tabs.below b1
      replace b2 := b2.trans (b1.mono b2.size)
      clear b1
      go_wp2_with fail
      refine (k_kind n h 4 hk _ hI _ tabs).mono ?_
      rintro e w1 ⟨rfl, b1⟩
      replace tabs := tabs.below b1
      replace b2 := b2.trans (b1.mono b2.size)
      clear b1
      go_wp2_with fail
      refine (k_text n h _ (textN_nan hn) _ hI _ tabs).mono ?_
      rintro e w1 ⟨rfl, b1⟩
      replace tabs := tabs.below b1
      replace b2 := b2.trans (b1.mono b2.size)
      clear b1
      go_wp2_with fail
      refine (n_neg n h _ hI _).mono ?_
      rintro e w1 ⟨rfl, rfl⟩
      go_wp2_with fail
      refine (n_neg2 n h _ hI _).mono ?_
      rintro e w1 ⟨rfl, rfl⟩
      go_wp2_with fail
      go_ret
      exact ⟨rfl, b2⟩
  · go_enter Tryd.func4, Tryd.ntmps4
    go_wp2_with fail
    refine (known_any _ tabs).mono ?_
    rintro e w1 ⟨rfl, b2⟩
    replace tabs := tabs.below b2
    go_wp2_with fail
    · obtain ⟨n, hN⟩ : ∃ n, n = 18444492273895866368 := ⟨_, rfl⟩
      have hI : (n : Int) = 18444492273895866368 := by omega
      have h : n < 18446744073709551616 := by omega
      have hn : isNan n = true := by rw [hN]; kernel_rfl
      have hk : (kindN n : Int) = 4 := by rw [kind_nan hn]; rfl
      clear hN
      refine (n_cmp1 n a h ha hn _ hI _ tabs).mono ?_
      rintro e w1 ⟨rfl, b1⟩
      replace tabs := tabs.below b1
      replace b2 := b2.trans (b1.mono b2.size)
      clear b1
      go_wp2_with fail
      refine (n_cmp2 n a h ha hn _ hI _ tabs).mono ?_
      rintro e w1 ⟨rfl, b1⟩
      replace tabs := tabs.below b1
      replace b2 := b2.trans (b1.mono b2.size)
      clear b1
      go_wp2_with fail
      refine (n_add n a h hn _ hI _).mono ?_
      rintro e w1 ⟨rfl, b1⟩
      replace tabs := tabs.below b1
      replace b2 := b2.trans (b1.mono b2.size)
      clear b1
      go_wp2_with fail
      refine (n_sub n a h hn _ hI _).mono ?_
      rintro e w1 ⟨rfl, b1⟩
      replace tabs := tabs.below b1
      replace b2 := b2.trans (b1.mono b2.size)
      clear b1
      go_wp2_with fail
      refine (n_mul n a h hn _ hI _).mono ?_
      rintro e w1 ⟨rfl, b1⟩
      replace tabs := tabs.below b1
      replace b2 := b2.trans (b1.mono b2.size)
      clear b1
      go_wp2_with fail
      refine (n_div n a h hn _ hI _).mono ?_
      rintro e w1 ⟨rfl, b1⟩
      replace tabs := tabs.below b1
      replace b2 := b2.trans (b1.mono b2.size)
      clear b1
      go_wp2_with fail
      refine (k_kind n h 4 hk _ hI _ tabs).mono ?_
      rintro e w1 ⟨rfl, b1⟩
      replace tabs := tabs.below b1
      replace b2 := b2.trans (b1.mono b2.size)
      clear b1
      go_wp2_with fail
      refine (k_text n h _ (textN_nan hn) _ hI _ tabs).mono ?_
      rintro e w1 ⟨rfl, b1⟩
      replace tabs := tabs.below b1
      replace b2 := b2.trans (b1.mono b2.size)
      clear b1
      go_wp2_with fail
      refine (n_neg n h _ hI _).mono ?_
      rintro e w1 ⟨rfl, rfl⟩
      go_wp2_with fail
      refine (n_neg2 n h _ hI _).mono ?_
      rintro e w1 ⟨rfl, rfl⟩
      go_wp2_with fail
      go_ret
      exact ⟨rfl, b2⟩
    · have hz := hne.out (by assumption)
      obtain ⟨n, hN⟩ : ∃ n, n = f + 18442240474082181120 := ⟨_, rfl⟩
      have hI : (n : Int) = (f : Int) + 18442240474082181120 := by omega
      have h : n < 18446744073709551616 := by omega
      have hn : isNan n = true := by unfold isNan absN; rw [decide_eq_true_iff]; omega
      have hk : (kindN n : Int) = 4 := by rw [kind_nan hn]; rfl
      clear hN
      refine (n_cmp1 n a h ha hn _ hI _ tabs).mono ?_
      rintro e w1 ⟨rfl, b1⟩
      replace tabs := tabs.below b1
      replace b2 := b2.trans (b1.mono b2.size)
      clear b1
      go_wp2_with fail
      refine (n_cmp2 n a h ha hn _ hI _ tabs).mono ?_
      rintro e w1 ⟨rfl, b1⟩
      replace tabs := tabs.below b1
      replace b2 := b2.trans (b1.mono b2.size)
      clear b1
      go_wp2_with fail
      refine (n_add n a h hn _ hI _).mono ?_
      rintro e w1 ⟨rfl, b1⟩
      replace tabs := tabs.below b1
      replace b2 := b2.trans (b1.mono b2.size)
      clear b1
      go_wp2_with fail
      refine (n_sub n a h hn _ hI _).mono ?_
      rintro e w1 ⟨rfl, b1⟩
      replace tabs := tabs.below b1
      replace b2 := b2.trans (b1.mono b2.size)
      clear b1
      go_wp2_with fail
      refine (n_mul n a h hn _ hI _).mono ?_
      rintro e w1 ⟨rfl, b1⟩
      replace tabs := tabs.below b1
      replace b2 := b2.trans (b1.mono b2.size)
      clear b1
      go_wp2_with fail
      refine (n_div n a h hn _ hI _).mono ?_
      rintro e w1 ⟨rfl, b1⟩
      replace tabs := tabs.below b1
      replace b2 := b2.trans (b1.mono b2.size)
      clear b1
      go_wp2_with fail
      refine (k_kind n h 4 hk _ hI _ tabs).mono ?_
      rintro e w1 ⟨rfl, b1⟩
      replace tabs := tabs.below b1
      replace b2 := b2.trans (b1.mono b2.size)
      clear b1
      go_wp2_with fail
      refine (k_text n h _ (textN_nan hn) _ hI _ tabs).mono ?_
      rintro e w1 ⟨rfl, b1⟩
      replace tabs := tabs.below b1
      replace b2 := b2.trans (b1.mono b2.size)
      clear b1
      go_wp2_with fail
      refine (n_neg n h _ hI _).mono ?_
      rintro e w1 ⟨rfl, rfl⟩
      go_wp2_with fail
      refine (n_neg2 n h _ hI _).mono ?_
      rintro e w1 ⟨rfl, rfl⟩
      go_wp2_with fail
      go_ret
      exact ⟨rfl, b2⟩
end Go.Proofs.YtmjheiedoihohaaDoor
