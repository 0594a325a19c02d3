import Derived.Test.YtmjheiedoihohaaDoorF5
namespace Go.Proofs.YtmjheiedoihohaaDoor
open Go.RowKit
set_option linter.unusedVariables false

theorem k_div (w : World) : Calls Tryd.prog 18 #[.int .u64 4607182418800017408, .int .u64 0] w fun e w' => e = .returned (.int .u64 9218868437227405312) ∧ Below w.heap.size w w' :=
  (div_any 4607182418800017408 0 w).mono (by rintro e w' ⟨rfl, hb⟩; exact ⟨by kernel_rfl, hb⟩)
theorem k_sub (w : World) : Calls Tryd.prog 16 #[.int .u64 9218868437227405312, .int .u64 9218868437227405312] w fun e w' => e = .returned (.int .u64 9221120237041090560) ∧ Below w.heap.size w w' :=
  (sub_any 9218868437227405312 9218868437227405312 w).mono (by rintro e w' ⟨rfl, hb⟩; exact ⟨by kernel_rfl, hb⟩)
theorem k_add (w : World) : Calls Tryd.prog 14 #[.int .u64 4607182418800017408, .int .u64 4607182418800017408] w fun e w' => e = .returned (.int .u64 4611686018427387904) ∧ Below w.heap.size w w' :=
  (add_any 4607182418800017408 4607182418800017408 w).mono (by rintro e w' ⟨rfl, hb⟩; exact ⟨by kernel_rfl, hb⟩)
theorem k_cmp1 (w : World) (tabs : Tabs w) : Calls Tryd.prog 12 #[.int .u64 0, .int .u64 9223372036854775808] w fun e w' => e = .returned (.tuple #[.bool true, .bool false, .bool false]) ∧ Below w.heap.size w w' :=
  (compare_any 0 9223372036854775808 (by decide) (by decide) w tabs).mono (by rintro e w' ⟨rfl, hb⟩; exact ⟨by kernel_rfl, hb⟩)
theorem k_cmp2 (w : World) (tabs : Tabs w) : Calls Tryd.prog 12 #[.int .u64 9221120237041090560, .int .u64 4607182418800017408] w fun e w' => e = .returned (.tuple #[.bool true, .bool true, .bool true]) ∧ Below w.heap.size w w' :=
  (compare_any 9221120237041090560 4607182418800017408 (by decide) (by decide) w tabs).mono (by rintro e w' ⟨rfl, hb⟩; exact ⟨by kernel_rfl, hb⟩)
theorem k_kind (n : Nat) (h : n < 18446744073709551616) (k : Int) (hk : (kindN n : Int) = k) (a : Int) (ha : (n : Int) = a) (w : World) (tabs : Tabs w) : Calls Tryd.prog 21 #[.int .u64 a] w fun e w' => e = .returned (.int .i64 k) ∧ Below w.heap.size w w' := by
  subst hk; subst ha
  exact kind_any n h w tabs
theorem k_text (n : Nat) (h : n < 18446744073709551616) (s : ByteArray) (hs : textN n = s) (a : Int) (ha : (n : Int) = a) (w : World) (tabs : Tabs w) : Calls Tryd.prog 23 #[.int .u64 a] w fun e w' => e = .returned (.string s) ∧ Below w.heap.size w w' := by
  subst hs; subst ha
  exact text_any n h w tabs
theorem t_neg0 : textN 9223372036854775808 = ⟨#[45, 48]⟩ := by
  rw [textN_fin (by kernel_rfl) (by kernel_rfl), show absN 9223372036854775808 = 0 by kernel_rfl, hexL_lo (by decide)]
  kernel_rfl
theorem t_inf : textN 9218868437227405312 = ⟨#[105, 110, 102]⟩ := by
  rw [textN_inf (by kernel_rfl) (by kernel_rfl)]
  kernel_rfl
theorem t_nan : textN 9221120237041090560 = ⟨#[110, 97, 110]⟩ := by
  rw [textN_nan (by kernel_rfl)]
theorem k_neg (w : World) : Calls Tryd.prog 19 #[.int .u64 0] w fun e w' => e = .returned (.int .u64 9223372036854775808) ∧ w = w' :=
  (neg_any 0 (by decide) w).mono (by rintro e w' ⟨rfl, hb⟩; exact ⟨by kernel_rfl, hb⟩)

theorem known_any (w : World) (tabs : Tabs w) : Calls Tryd.prog 11 #[] w fun e w' => e = .returned (.bool true) ∧ Below w.heap.size w w' := by
  go_enter Tryd.func11, Tryd.ntmps11
  go_wp2_with fail
  refine (k_cmp1 _ tabs).mono ?_
  rintro e w1 ⟨rfl, b1⟩
  replace tabs := tabs.below b1
  go_wp2_with fail
  refine (k_cmp2 _ tabs).mono ?_
  rintro e w2 ⟨rfl, b2⟩
  replace tabs := tabs.below b2
  replace b2 := b1.trans (b2.mono b1.size)
  clear b1
  go_wp2_with fail
  refine (k_div _).mono ?_
  rintro e w1 ⟨rfl, b1⟩
  replace tabs := tabs.below b1
  replace b2 := b2.trans (b1.mono b2.size)
  clear b1
  go_wp2_with fail
  refine (k_sub _).mono ?_
  rintro e w1 ⟨rfl, b1⟩
  replace tabs := tabs.below b1
  replace b2 := b2.trans (b1.mono b2.size)
  clear b1
  go_wp2_with fail
  refine (k_add _).mono ?_
  rintro e w1 ⟨rfl, b1⟩
  replace tabs := tabs.below b1
  replace b2 := b2.trans (b1.mono b2.size)
  clear b1
  go_wp2_with fail
  refine (k_kind 9223372036854775808 (by decide) 0 (by kernel_rfl) 9223372036854775808 (by kernel_rfl) _ tabs).mono ?_
  rintro e w1 ⟨rfl, b1⟩
  replace tabs := tabs.below b1
  replace b2 := b2.trans (b1.mono b2.size)
  clear b1
  go_wp2_with fail
  refine (k_kind 1 (by decide) 1 (by kernel_rfl) 1 (by kernel_rfl) _ tabs).mono ?_
  rintro e w1 ⟨rfl, b1⟩
  replace tabs := tabs.below b1
  replace b2 := b2.trans (b1.mono b2.size)
  clear b1
  go_wp2_with fail
  refine (k_kind 4607182418800017408 (by decide) 2 (by kernel_rfl) 4607182418800017408 (by kernel_rfl) _ tabs).mono ?_
  rintro e w1 ⟨rfl, b1⟩
  replace tabs := tabs.below b1
  replace b2 := b2.trans (b1.mono b2.size)
  clear b1
  go_wp2_with fail
  refine (k_kind 9218868437227405312 (by decide) 3 (by kernel_rfl) 9218868437227405312 (by kernel_rfl) _ tabs).mono ?_
  rintro e w1 ⟨rfl, b1⟩
  replace tabs := tabs.below b1
  replace b2 := b2.trans (b1.mono b2.size)
  clear b1
  go_wp2_with fail
  refine (k_kind 9221120237041090565 (by decide) 4 (by kernel_rfl) 9221120237041090565 (by kernel_rfl) _ tabs).mono ?_
  rintro e w1 ⟨rfl, b1⟩
  replace tabs := tabs.below b1
  replace b2 := b2.trans (b1.mono b2.size)
  clear b1
  go_wp2_with fail
  refine (k_text 9223372036854775808 (by decide) _ t_neg0 9223372036854775808 (by kernel_rfl) _ tabs).mono ?_
  rintro e w1 ⟨rfl, b1⟩
  replace tabs := tabs.below b1
  replace b2 := b2.trans (b1.mono b2.size)
  clear b1
  go_wp2_with fail
  refine (k_text 9218868437227405312 (by decide) _ t_inf 9218868437227405312 (by kernel_rfl) _ tabs).mono ?_
  rintro e w1 ⟨rfl, b1⟩
  replace tabs := tabs.below b1
  replace b2 := b2.trans (b1.mono b2.size)
  clear b1
  go_wp2_with fail
  refine (k_text 9221120237041090560 (by decide) _ t_nan 9221120237041090560 (by kernel_rfl) _ tabs).mono ?_
  rintro e w1 ⟨rfl, b1⟩
  replace tabs := tabs.below b1
  replace b2 := b2.trans (b1.mono b2.size)
  clear b1
  go_wp2_with fail
  refine (k_neg _).mono ?_
  rintro e w1 ⟨rfl, rfl⟩
  go_wp2_with fail
  go_ret
  exact ⟨rfl, b2⟩
end Go.Proofs.YtmjheiedoihohaaDoor
