import Derived.Test.YtmjheiedoihohaaDoorF6
import Derived.Test.YtmjheiedoihohaaDoorM5
import Derived.Test.YtmjheiedoihohaaDoorWf
namespace Go.Proofs.YtmjheiedoihohaaDoor
open Go.RowKit
set_option linter.unusedVariables false

theorem e_add (x y r : Nat) (X Y R : Int) (hX : (x : Int) = X) (hY : (y : Int) = Y) (hr : fl .add x y = r) (hR : (r : Int) = R) (w : World) : Calls Tryd.prog 14 #[.int .u64 X, .int .u64 Y] w fun e w' => e = .returned (.int .u64 R) ∧ Below w.heap.size w w' := by
  subst hX; subst hY; subst hR; subst hr
  exact add_any x y w
theorem e_sub (x y r : Nat) (X Y R : Int) (hX : (x : Int) = X) (hY : (y : Int) = Y) (hr : fl .sub x y = r) (hR : (r : Int) = R) (w : World) : Calls Tryd.prog 16 #[.int .u64 X, .int .u64 Y] w fun e w' => e = .returned (.int .u64 R) ∧ Below w.heap.size w w' := by
  subst hX; subst hY; subst hR; subst hr
  exact sub_any x y w
theorem e_mul (x y r : Nat) (X Y R : Int) (hX : (x : Int) = X) (hY : (y : Int) = Y) (hr : fl .mul x y = r) (hR : (r : Int) = R) (w : World) : Calls Tryd.prog 17 #[.int .u64 X, .int .u64 Y] w fun e w' => e = .returned (.int .u64 R) ∧ Below w.heap.size w w' := by
  subst hX; subst hY; subst hR; subst hr
  exact mul_any x y w
theorem e_div (x y r : Nat) (X Y R : Int) (hX : (x : Int) = X) (hY : (y : Int) = Y) (hr : fl .quo x y = r) (hR : (r : Int) = R) (w : World) : Calls Tryd.prog 18 #[.int .u64 X, .int .u64 Y] w fun e w' => e = .returned (.int .u64 R) ∧ Below w.heap.size w w' := by
  subst hX; subst hY; subst hR; subst hr
  exact div_any x y w

theorem sgn_div {a : Nat} : (((a : Int) / 9223372036854775808 == 1)) = decide (9223372036854775808 ≤ a ∧ a < 18446744073709551616) := by
  rw [Bool.eq_iff_iff, beq_iff_eq, decide_eq_true_iff]; omega
theorem kind_mid {a : Nat} (h : (kindN a : Int) = 1 ∨ (kindN a : Int) = 2) : finN a ∧ absN a ≠ 0 := by
  unfold finN
  unfold kindN at h
  split at h
  · omega
  · split at h
    · omega
    · split at h
      · omega
      · split at h <;> omega
theorem sgn_eq {a : Nat} (h : a < 18446744073709551616) : ((a : Int) / 9223372036854775808 == 1) = sgn a := by
  rw [sgn_div]
  unfold sgn
  rw [decide_eq_decide]
  omega

set_option maxHeartbeats 1000000 in
theorem edges_000 (a : Nat) (ha : a < 18446744073709551616) (hs : sgn a = false) (w : World) (tabs : Tabs w) : Calls Tryd.prog 5 #[.int .u64 a, .bool false, .bool false] w fun e w' => e = .returned (.bool true) ∧ Below w.heap.size w w' := by
  have hg := sgn_eq ha
  rw [hs] at hg
  have hm := hid (kind_mid (a := a))
  have ho : bits .or .u64 9218868437227405312 9223372036854775808 = 18442240474082181120 := by decide +kernel
  have hs' := hid hs
  clear hs
  go_enter Tryd.func5, Tryd.ntmps5
  go_wp2_with fail
  refine (known_any _ tabs).mono ?_
  rintro e w1 ⟨rfl, b2⟩
  replace tabs := tabs.below b2
  go_wp2_with fail
  refine (kind_any a ha _ tabs).mono ?_
  rintro e w1 ⟨rfl, b1⟩
  replace tabs := tabs.below b1
  replace b2 := b2.trans (b1.mono b2.size)
  clear b1
  go_wp2_with fail
  ·   obtain ⟨hf, h0⟩ := hm.out (by first | (left; simp_all; done) | (right; simp_all; done))
      refine (e_add a (zeroW false) a _ 0 _ rfl (by kernel_rfl) (az_add ha hf h0 false) rfl _).mono ?_
      rintro e w1 ⟨rfl, b1⟩
      replace tabs := tabs.below b1
      replace b2 := b2.trans (b1.mono b2.size)
      clear b1
      go_wp2_with fail
      refine (e_add a (infW false) _ _ 9218868437227405312 9218868437227405312 rfl (by kernel_rfl) (ai_add ha hf false) (by kernel_rfl) _).mono ?_
      rintro e w1 ⟨rfl, b1⟩
      replace tabs := tabs.below b1
      replace b2 := b2.trans (b1.mono b2.size)
      clear b1
      go_wp2_with fail
      refine (e_mul a (zeroW false) _ _ 0 0 rfl (by kernel_rfl) (az_mul ha hf false) (by rw [hs'.out]; kernel_rfl) _).mono ?_
      rintro e w1 ⟨rfl, b1⟩
      replace tabs := tabs.below b1
      replace b2 := b2.trans (b1.mono b2.size)
      clear b1
      go_wp2_with fail
      refine (e_mul a (infW false) _ _ 9218868437227405312 9218868437227405312 rfl (by kernel_rfl) (ai_mul ha hf h0 false) (by rw [hs'.out]; kernel_rfl) _).mono ?_
      rintro e w1 ⟨rfl, b1⟩
      replace tabs := tabs.below b1
      replace b2 := b2.trans (b1.mono b2.size)
      clear b1
      go_wp2_with fail
      refine (e_div a (zeroW false) _ _ 0 9218868437227405312 rfl (by kernel_rfl) (az_div ha hf h0 false) (by rw [hs'.out]; kernel_rfl) _).mono ?_
      rintro e w1 ⟨rfl, b1⟩
      replace tabs := tabs.below b1
      replace b2 := b2.trans (b1.mono b2.size)
      clear b1
      go_wp2_with fail
      refine (e_div a (infW false) _ _ 9218868437227405312 0 rfl (by kernel_rfl) (ai_div ha hf false) (by rw [hs'.out]; kernel_rfl) _).mono ?_
      rintro e w1 ⟨rfl, b1⟩
      replace tabs := tabs.below b1
      replace b2 := b2.trans (b1.mono b2.size)
      clear b1
      go_wp2_with fail
      refine (e_sub a a 0 _ _ 0 rfl rfl (aa_sub ha hf) rfl _).mono ?_
      rintro e w1 ⟨rfl, b1⟩
      replace tabs := tabs.below b1
      replace b2 := b2.trans (b1.mono b2.size)
      clear b1
      go_wp2_with fail
      go_ret
      exact ⟨rfl, b2⟩
  ·   refine (e_mul (zeroW false) (infW false) _ 0 9218868437227405312 9221120237041090560 (by kernel_rfl) (by kernel_rfl) (zi_mul false false) (by kernel_rfl) _).mono ?_
      rintro e w1 ⟨rfl, b1⟩
      replace tabs := tabs.below b1
      replace b2 := b2.trans (b1.mono b2.size)
      clear b1
      go_wp2_with fail
      refine (e_div (infW false) (infW false) _ 9218868437227405312 9218868437227405312 9221120237041090560 (by kernel_rfl) (by kernel_rfl) (ii_div false) (by kernel_rfl) _).mono ?_
      rintro e w1 ⟨rfl, b1⟩
      replace tabs := tabs.below b1
      replace b2 := b2.trans (b1.mono b2.size)
      clear b1
      go_wp2_with fail
      refine (e_div (zeroW false) (zeroW false) _ 0 0 9221120237041090560 (by kernel_rfl) (by kernel_rfl) (zz_div false) (by kernel_rfl) _).mono ?_
      rintro e w1 ⟨rfl, b1⟩
      replace tabs := tabs.below b1
      replace b2 := b2.trans (b1.mono b2.size)
      clear b1
      go_wp2_with fail
      go_ret
      exact ⟨rfl, b2⟩
  ·   obtain ⟨hf, h0⟩ := hm.out (by first | (left; simp_all; done) | (right; simp_all; done))
      refine (e_add a (zeroW false) a _ 0 _ rfl (by kernel_rfl) (az_add ha hf h0 false) rfl _).mono ?_
      rintro e w1 ⟨rfl, b1⟩
      replace tabs := tabs.below b1
      replace b2 := b2.trans (b1.mono b2.size)
      clear b1
      go_wp2_with fail
      refine (e_add a (infW false) _ _ 9218868437227405312 9218868437227405312 rfl (by kernel_rfl) (ai_add ha hf false) (by kernel_rfl) _).mono ?_
      rintro e w1 ⟨rfl, b1⟩
      replace tabs := tabs.below b1
      replace b2 := b2.trans (b1.mono b2.size)
      clear b1
      go_wp2_with fail
      refine (e_mul a (zeroW false) _ _ 0 0 rfl (by kernel_rfl) (az_mul ha hf false) (by rw [hs'.out]; kernel_rfl) _).mono ?_
      rintro e w1 ⟨rfl, b1⟩
      replace tabs := tabs.below b1
      replace b2 := b2.trans (b1.mono b2.size)
      clear b1
      go_wp2_with fail
      refine (e_mul a (infW false) _ _ 9218868437227405312 9218868437227405312 rfl (by kernel_rfl) (ai_mul ha hf h0 false) (by rw [hs'.out]; kernel_rfl) _).mono ?_
      rintro e w1 ⟨rfl, b1⟩
      replace tabs := tabs.below b1
      replace b2 := b2.trans (b1.mono b2.size)
      clear b1
      go_wp2_with fail
      refine (e_div a (zeroW false) _ _ 0 9218868437227405312 rfl (by kernel_rfl) (az_div ha hf h0 false) (by rw [hs'.out]; kernel_rfl) _).mono ?_
      rintro e w1 ⟨rfl, b1⟩
      replace tabs := tabs.below b1
      replace b2 := b2.trans (b1.mono b2.size)
      clear b1
      go_wp2_with fail
      refine (e_div a (infW false) _ _ 9218868437227405312 0 rfl (by kernel_rfl) (ai_div ha hf false) (by rw [hs'.out]; kernel_rfl) _).mono ?_
      rintro e w1 ⟨rfl, b1⟩
      replace tabs := tabs.below b1
      replace b2 := b2.trans (b1.mono b2.size)
      clear b1
      go_wp2_with fail
      refine (e_sub a a 0 _ _ 0 rfl rfl (aa_sub ha hf) rfl _).mono ?_
      rintro e w1 ⟨rfl, b1⟩
      replace tabs := tabs.below b1
      replace b2 := b2.trans (b1.mono b2.size)
      clear b1
      go_wp2_with fail
      go_ret
      exact ⟨rfl, b2⟩

set_option maxHeartbeats 1000000 in
theorem edges_001 (a : Nat) (ha : a < 18446744073709551616) (hs : sgn a = false) (w : World) (tabs : Tabs w) : Calls Tryd.prog 5 #[.int .u64 a, .bool false, .bool true] w fun e w' => e = .returned (.bool true) ∧ Below w.heap.size w w' := by
  have hg := sgn_eq ha
  rw [hs] at hg
  have hm := hid (kind_mid (a := a))
  have ho : bits .or .u64 9218868437227405312 9223372036854775808 = 18442240474082181120 := by decide +kernel
  have hs' := hid hs
  clear hs
  go_enter Tryd.func5, Tryd.ntmps5
  go_wp2_with fail
  refine (known_any _ tabs).mono ?_
  rintro e w1 ⟨rfl, b2⟩
  replace tabs := tabs.below b2
  go_wp2_with fail
  refine (kind_any a ha _ tabs).mono ?_
  rintro e w1 ⟨rfl, b1⟩
  replace tabs := tabs.below b1
  replace b2 := b2.trans (b1.mono b2.size)
  clear b1
  go_wp2_with fail
  ·   obtain ⟨hf, h0⟩ := hm.out (by first | (left; simp_all; done) | (right; simp_all; done))
      refine (e_add a (zeroW false) a _ 0 _ rfl (by kernel_rfl) (az_add ha hf h0 false) rfl _).mono ?_
      rintro e w1 ⟨rfl, b1⟩
      replace tabs := tabs.below b1
      replace b2 := b2.trans (b1.mono b2.size)
      clear b1
      go_wp2_with fail
      refine (e_add a (infW true) _ _ 18442240474082181120 18442240474082181120 rfl (by kernel_rfl) (ai_add ha hf true) (by kernel_rfl) _).mono ?_
      rintro e w1 ⟨rfl, b1⟩
      replace tabs := tabs.below b1
      replace b2 := b2.trans (b1.mono b2.size)
      clear b1
      go_wp2_with fail
      refine (e_mul a (zeroW false) _ _ 0 0 rfl (by kernel_rfl) (az_mul ha hf false) (by rw [hs'.out]; kernel_rfl) _).mono ?_
      rintro e w1 ⟨rfl, b1⟩
      replace tabs := tabs.below b1
      replace b2 := b2.trans (b1.mono b2.size)
      clear b1
      go_wp2_with fail
      refine (e_mul a (infW true) _ _ 18442240474082181120 18442240474082181120 rfl (by kernel_rfl) (ai_mul ha hf h0 true) (by rw [hs'.out]; kernel_rfl) _).mono ?_
      rintro e w1 ⟨rfl, b1⟩
      replace tabs := tabs.below b1
      replace b2 := b2.trans (b1.mono b2.size)
      clear b1
      go_wp2_with fail
      refine (e_div a (zeroW false) _ _ 0 9218868437227405312 rfl (by kernel_rfl) (az_div ha hf h0 false) (by rw [hs'.out]; kernel_rfl) _).mono ?_
      rintro e w1 ⟨rfl, b1⟩
      replace tabs := tabs.below b1
      replace b2 := b2.trans (b1.mono b2.size)
      clear b1
      go_wp2_with fail
      refine (e_div a (infW true) _ _ 18442240474082181120 9223372036854775808 rfl (by kernel_rfl) (ai_div ha hf true) (by rw [hs'.out]; kernel_rfl) _).mono ?_
      rintro e w1 ⟨rfl, b1⟩
      replace tabs := tabs.below b1
      replace b2 := b2.trans (b1.mono b2.size)
      clear b1
      go_wp2_with fail
      refine (e_sub a a 0 _ _ 0 rfl rfl (aa_sub ha hf) rfl _).mono ?_
      rintro e w1 ⟨rfl, b1⟩
      replace tabs := tabs.below b1
      replace b2 := b2.trans (b1.mono b2.size)
      clear b1
      go_wp2_with fail
      go_ret
      exact ⟨rfl, b2⟩
  ·   refine (e_mul (zeroW false) (infW true) _ 0 18442240474082181120 9221120237041090560 (by kernel_rfl) (by kernel_rfl) (zi_mul false true) (by kernel_rfl) _).mono ?_
      rintro e w1 ⟨rfl, b1⟩
      replace tabs := tabs.below b1
      replace b2 := b2.trans (b1.mono b2.size)
      clear b1
      go_wp2_with fail
      refine (e_div (infW true) (infW true) _ 18442240474082181120 18442240474082181120 9221120237041090560 (by kernel_rfl) (by kernel_rfl) (ii_div true) (by kernel_rfl) _).mono ?_
      rintro e w1 ⟨rfl, b1⟩
      replace tabs := tabs.below b1
      replace b2 := b2.trans (b1.mono b2.size)
      clear b1
      go_wp2_with fail
      refine (e_div (zeroW false) (zeroW false) _ 0 0 9221120237041090560 (by kernel_rfl) (by kernel_rfl) (zz_div false) (by kernel_rfl) _).mono ?_
      rintro e w1 ⟨rfl, b1⟩
      replace tabs := tabs.below b1
      replace b2 := b2.trans (b1.mono b2.size)
      clear b1
      go_wp2_with fail
      go_ret
      exact ⟨rfl, b2⟩
  ·   obtain ⟨hf, h0⟩ := hm.out (by first | (left; simp_all; done) | (right; simp_all; done))
      refine (e_add a (zeroW false) a _ 0 _ rfl (by kernel_rfl) (az_add ha hf h0 false) rfl _).mono ?_
      rintro e w1 ⟨rfl, b1⟩
      replace tabs := tabs.below b1
      replace b2 := b2.trans (b1.mono b2.size)
      clear b1
      go_wp2_with fail
      refine (e_add a (infW true) _ _ 18442240474082181120 18442240474082181120 rfl (by kernel_rfl) (ai_add ha hf true) (by kernel_rfl) _).mono ?_
      rintro e w1 ⟨rfl, b1⟩
      replace tabs := tabs.below b1
      replace b2 := b2.trans (b1.mono b2.size)
      clear b1
      go_wp2_with fail
      refine (e_mul a (zeroW false) _ _ 0 0 rfl (by kernel_rfl) (az_mul ha hf false) (by rw [hs'.out]; kernel_rfl) _).mono ?_
      rintro e w1 ⟨rfl, b1⟩
      replace tabs := tabs.below b1
      replace b2 := b2.trans (b1.mono b2.size)
      clear b1
      go_wp2_with fail
      refine (e_mul a (infW true) _ _ 18442240474082181120 18442240474082181120 rfl (by kernel_rfl) (ai_mul ha hf h0 true) (by rw [hs'.out]; kernel_rfl) _).mono ?_
      rintro e w1 ⟨rfl, b1⟩
      replace tabs := tabs.below b1
      replace b2 := b2.trans (b1.mono b2.size)
      clear b1
      go_wp2_with fail
      refine (e_div a (zeroW false) _ _ 0 9218868437227405312 rfl (by kernel_rfl) (az_div ha hf h0 false) (by rw [hs'.out]; kernel_rfl) _).mono ?_
      rintro e w1 ⟨rfl, b1⟩
      replace tabs := tabs.below b1
      replace b2 := b2.trans (b1.mono b2.size)
      clear b1
      go_wp2_with fail
      refine (e_div a (infW true) _ _ 18442240474082181120 9223372036854775808 rfl (by kernel_rfl) (ai_div ha hf true) (by rw [hs'.out]; kernel_rfl) _).mono ?_
      rintro e w1 ⟨rfl, b1⟩
      replace tabs := tabs.below b1
      replace b2 := b2.trans (b1.mono b2.size)
      clear b1
      go_wp2_with fail
      refine (e_sub a a 0 _ _ 0 rfl rfl (aa_sub ha hf) rfl _).mono ?_
      rintro e w1 ⟨rfl, b1⟩
      replace tabs := tabs.below b1
      replace b2 := b2.trans (b1.mono b2.size)
      clear b1
      go_wp2_with fail
      go_ret
      exact ⟨rfl, b2⟩

set_option maxHeartbeats 1000000 in
theorem edges_010 (a : Nat) (ha : a < 18446744073709551616) (hs : sgn a = false) (w : World) (tabs : Tabs w) : Calls Tryd.prog 5 #[.int .u64 a, .bool true, .bool false] w fun e w' => e = .returned (.bool true) ∧ Below w.heap.size w w' := by
  have hg := sgn_eq ha
  rw [hs] at hg
  have hm := hid (kind_mid (a := a))
  have ho : bits .or .u64 9218868437227405312 9223372036854775808 = 18442240474082181120 := by decide +kernel
  have hs' := hid hs
  clear hs
  go_enter Tryd.func5, Tryd.ntmps5
  go_wp2_with fail
  refine (known_any _ tabs).mono ?_
  rintro e w1 ⟨rfl, b2⟩
  replace tabs := tabs.below b2
  go_wp2_with fail
  refine (kind_any a ha _ tabs).mono ?_
  rintro e w1 ⟨rfl, b1⟩
  replace tabs := tabs.below b1
  replace b2 := b2.trans (b1.mono b2.size)
  clear b1
  go_wp2_with fail
  ·   obtain ⟨hf, h0⟩ := hm.out (by first | (left; simp_all; done) | (right; simp_all; done))
      refine (e_add a (zeroW true) a _ 9223372036854775808 _ rfl (by kernel_rfl) (az_add ha hf h0 true) rfl _).mono ?_
      rintro e w1 ⟨rfl, b1⟩
      replace tabs := tabs.below b1
      replace b2 := b2.trans (b1.mono b2.size)
      clear b1
      go_wp2_with fail
      refine (e_add a (infW false) _ _ 9218868437227405312 9218868437227405312 rfl (by kernel_rfl) (ai_add ha hf false) (by kernel_rfl) _).mono ?_
      rintro e w1 ⟨rfl, b1⟩
      replace tabs := tabs.below b1
      replace b2 := b2.trans (b1.mono b2.size)
      clear b1
      go_wp2_with fail
      refine (e_mul a (zeroW true) _ _ 9223372036854775808 9223372036854775808 rfl (by kernel_rfl) (az_mul ha hf true) (by rw [hs'.out]; kernel_rfl) _).mono ?_
      rintro e w1 ⟨rfl, b1⟩
      replace tabs := tabs.below b1
      replace b2 := b2.trans (b1.mono b2.size)
      clear b1
      go_wp2_with fail
      refine (e_mul a (infW false) _ _ 9218868437227405312 9218868437227405312 rfl (by kernel_rfl) (ai_mul ha hf h0 false) (by rw [hs'.out]; kernel_rfl) _).mono ?_
      rintro e w1 ⟨rfl, b1⟩
      replace tabs := tabs.below b1
      replace b2 := b2.trans (b1.mono b2.size)
      clear b1
      go_wp2_with fail
      refine (e_div a (zeroW true) _ _ 9223372036854775808 18442240474082181120 rfl (by kernel_rfl) (az_div ha hf h0 true) (by rw [hs'.out]; kernel_rfl) _).mono ?_
      rintro e w1 ⟨rfl, b1⟩
      replace tabs := tabs.below b1
      replace b2 := b2.trans (b1.mono b2.size)
      clear b1
      go_wp2_with fail
      refine (e_div a (infW false) _ _ 9218868437227405312 0 rfl (by kernel_rfl) (ai_div ha hf false) (by rw [hs'.out]; kernel_rfl) _).mono ?_
      rintro e w1 ⟨rfl, b1⟩
      replace tabs := tabs.below b1
      replace b2 := b2.trans (b1.mono b2.size)
      clear b1
      go_wp2_with fail
      refine (e_sub a a 0 _ _ 0 rfl rfl (aa_sub ha hf) rfl _).mono ?_
      rintro e w1 ⟨rfl, b1⟩
      replace tabs := tabs.below b1
      replace b2 := b2.trans (b1.mono b2.size)
      clear b1
      go_wp2_with fail
      go_ret
      exact ⟨rfl, b2⟩
  ·   refine (e_mul (zeroW true) (infW false) _ 9223372036854775808 9218868437227405312 9221120237041090560 (by kernel_rfl) (by kernel_rfl) (zi_mul true false) (by kernel_rfl) _).mono ?_
      rintro e w1 ⟨rfl, b1⟩
      replace tabs := tabs.below b1
      replace b2 := b2.trans (b1.mono b2.size)
      clear b1
      go_wp2_with fail
      refine (e_div (infW false) (infW false) _ 9218868437227405312 9218868437227405312 9221120237041090560 (by kernel_rfl) (by kernel_rfl) (ii_div false) (by kernel_rfl) _).mono ?_
      rintro e w1 ⟨rfl, b1⟩
      replace tabs := tabs.below b1
      replace b2 := b2.trans (b1.mono b2.size)
      clear b1
      go_wp2_with fail
      refine (e_div (zeroW true) (zeroW true) _ 9223372036854775808 9223372036854775808 9221120237041090560 (by kernel_rfl) (by kernel_rfl) (zz_div true) (by kernel_rfl) _).mono ?_
      rintro e w1 ⟨rfl, b1⟩
      replace tabs := tabs.below b1
      replace b2 := b2.trans (b1.mono b2.size)
      clear b1
      go_wp2_with fail
      go_ret
      exact ⟨rfl, b2⟩
  ·   obtain ⟨hf, h0⟩ := hm.out (by first | (left; simp_all; done) | (right; simp_all; done))
      refine (e_add a (zeroW true) a _ 9223372036854775808 _ rfl (by kernel_rfl) (az_add ha hf h0 true) rfl _).mono ?_
      rintro e w1 ⟨rfl, b1⟩
      replace tabs := tabs.below b1
      replace b2 := b2.trans (b1.mono b2.size)
      clear b1
      go_wp2_with fail
      refine (e_add a (infW false) _ _ 9218868437227405312 9218868437227405312 rfl (by kernel_rfl) (ai_add ha hf false) (by kernel_rfl) _).mono ?_
      rintro e w1 ⟨rfl, b1⟩
      replace tabs := tabs.below b1
      replace b2 := b2.trans (b1.mono b2.size)
      clear b1
      go_wp2_with fail
      refine (e_mul a (zeroW true) _ _ 9223372036854775808 9223372036854775808 rfl (by kernel_rfl) (az_mul ha hf true) (by rw [hs'.out]; kernel_rfl) _).mono ?_
      rintro e w1 ⟨rfl, b1⟩
      replace tabs := tabs.below b1
      replace b2 := b2.trans (b1.mono b2.size)
      clear b1
      go_wp2_with fail
      refine (e_mul a (infW false) _ _ 9218868437227405312 9218868437227405312 rfl (by kernel_rfl) (ai_mul ha hf h0 false) (by rw [hs'.out]; kernel_rfl) _).mono ?_
      rintro e w1 ⟨rfl, b1⟩
      replace tabs := tabs.below b1
      replace b2 := b2.trans (b1.mono b2.size)
      clear b1
      go_wp2_with fail
      refine (e_div a (zeroW true) _ _ 9223372036854775808 18442240474082181120 rfl (by kernel_rfl) (az_div ha hf h0 true) (by rw [hs'.out]; kernel_rfl) _).mono ?_
      rintro e w1 ⟨rfl, b1⟩
      replace tabs := tabs.below b1
      replace b2 := b2.trans (b1.mono b2.size)
      clear b1
      go_wp2_with fail
      refine (e_div a (infW false) _ _ 9218868437227405312 0 rfl (by kernel_rfl) (ai_div ha hf false) (by rw [hs'.out]; kernel_rfl) _).mono ?_
      rintro e w1 ⟨rfl, b1⟩
      replace tabs := tabs.below b1
      replace b2 := b2.trans (b1.mono b2.size)
      clear b1
      go_wp2_with fail
      refine (e_sub a a 0 _ _ 0 rfl rfl (aa_sub ha hf) rfl _).mono ?_
      rintro e w1 ⟨rfl, b1⟩
      replace tabs := tabs.below b1
      replace b2 := b2.trans (b1.mono b2.size)
      clear b1
      go_wp2_with fail
      go_ret
      exact ⟨rfl, b2⟩

set_option maxHeartbeats 1000000 in
theorem edges_011 (a : Nat) (ha : a < 18446744073709551616) (hs : sgn a = false) (w : World) (tabs : Tabs w) : Calls Tryd.prog 5 #[.int .u64 a, .bool true, .bool true] w fun e w' => e = .returned (.bool true) ∧ Below w.heap.size w w' := by
  have hg := sgn_eq ha
  rw [hs] at hg
  have hm := hid (kind_mid (a := a))
  have ho : bits .or .u64 9218868437227405312 9223372036854775808 = 18442240474082181120 := by decide +kernel
  have hs' := hid hs
  clear hs
  go_enter Tryd.func5, Tryd.ntmps5
  go_wp2_with fail
  refine (known_any _ tabs).mono ?_
  rintro e w1 ⟨rfl, b2⟩
  replace tabs := tabs.below b2
  go_wp2_with fail
  refine (kind_any a ha _ tabs).mono ?_
  rintro e w1 ⟨rfl, b1⟩
  replace tabs := tabs.below b1
  replace b2 := b2.trans (b1.mono b2.size)
  clear b1
  go_wp2_with fail
  ·   obtain ⟨hf, h0⟩ := hm.out (by first | (left; simp_all; done) | (right; simp_all; done))
      refine (e_add a (zeroW true) a _ 9223372036854775808 _ rfl (by kernel_rfl) (az_add ha hf h0 true) rfl _).mono ?_
      rintro e w1 ⟨rfl, b1⟩
      replace tabs := tabs.below b1
      replace b2 := b2.trans (b1.mono b2.size)
      clear b1
      go_wp2_with fail
      refine (e_add a (infW true) _ _ 18442240474082181120 18442240474082181120 rfl (by kernel_rfl) (ai_add ha hf true) (by kernel_rfl) _).mono ?_
      rintro e w1 ⟨rfl, b1⟩
      replace tabs := tabs.below b1
      replace b2 := b2.trans (b1.mono b2.size)
      clear b1
      go_wp2_with fail
      refine (e_mul a (zeroW true) _ _ 9223372036854775808 9223372036854775808 rfl (by kernel_rfl) (az_mul ha hf true) (by rw [hs'.out]; kernel_rfl) _).mono ?_
      rintro e w1 ⟨rfl, b1⟩
      replace tabs := tabs.below b1
      replace b2 := b2.trans (b1.mono b2.size)
      clear b1
      go_wp2_with fail
      refine (e_mul a (infW true) _ _ 18442240474082181120 18442240474082181120 rfl (by kernel_rfl) (ai_mul ha hf h0 true) (by rw [hs'.out]; kernel_rfl) _).mono ?_
      rintro e w1 ⟨rfl, b1⟩
      replace tabs := tabs.below b1
      replace b2 := b2.trans (b1.mono b2.size)
      clear b1
      go_wp2_with fail
      refine (e_div a (zeroW true) _ _ 9223372036854775808 18442240474082181120 rfl (by kernel_rfl) (az_div ha hf h0 true) (by rw [hs'.out]; kernel_rfl) _).mono ?_
      rintro e w1 ⟨rfl, b1⟩
      replace tabs := tabs.below b1
      replace b2 := b2.trans (b1.mono b2.size)
      clear b1
      go_wp2_with fail
      refine (e_div a (infW true) _ _ 18442240474082181120 9223372036854775808 rfl (by kernel_rfl) (ai_div ha hf true) (by rw [hs'.out]; kernel_rfl) _).mono ?_
      rintro e w1 ⟨rfl, b1⟩
      replace tabs := tabs.below b1
      replace b2 := b2.trans (b1.mono b2.size)
      clear b1
      go_wp2_with fail
      refine (e_sub a a 0 _ _ 0 rfl rfl (aa_sub ha hf) rfl _).mono ?_
      rintro e w1 ⟨rfl, b1⟩
      replace tabs := tabs.below b1
      replace b2 := b2.trans (b1.mono b2.size)
      clear b1
      go_wp2_with fail
      go_ret
      exact ⟨rfl, b2⟩
  ·   refine (e_mul (zeroW true) (infW true) _ 9223372036854775808 18442240474082181120 9221120237041090560 (by kernel_rfl) (by kernel_rfl) (zi_mul true true) (by kernel_rfl) _).mono ?_
      rintro e w1 ⟨rfl, b1⟩
      replace tabs := tabs.below b1
      replace b2 := b2.trans (b1.mono b2.size)
      clear b1
      go_wp2_with fail
      refine (e_div (infW true) (infW true) _ 18442240474082181120 18442240474082181120 9221120237041090560 (by kernel_rfl) (by kernel_rfl) (ii_div true) (by kernel_rfl) _).mono ?_
      rintro e w1 ⟨rfl, b1⟩
      replace tabs := tabs.below b1
      replace b2 := b2.trans (b1.mono b2.size)
      clear b1
      go_wp2_with fail
      refine (e_div (zeroW true) (zeroW true) _ 9223372036854775808 9223372036854775808 9221120237041090560 (by kernel_rfl) (by kernel_rfl) (zz_div true) (by kernel_rfl) _).mono ?_
      rintro e w1 ⟨rfl, b1⟩
      replace tabs := tabs.below b1
      replace b2 := b2.trans (b1.mono b2.size)
      clear b1
      go_wp2_with fail
      go_ret
      exact ⟨rfl, b2⟩
  ·   obtain ⟨hf, h0⟩ := hm.out (by first | (left; simp_all; done) | (right; simp_all; done))
      refine (e_add a (zeroW true) a _ 9223372036854775808 _ rfl (by kernel_rfl) (az_add ha hf h0 true) rfl _).mono ?_
      rintro e w1 ⟨rfl, b1⟩
      replace tabs := tabs.below b1
      replace b2 := b2.trans (b1.mono b2.size)
      clear b1
      go_wp2_with fail
      refine (e_add a (infW true) _ _ 18442240474082181120 18442240474082181120 rfl (by kernel_rfl) (ai_add ha hf true) (by kernel_rfl) _).mono ?_
      rintro e w1 ⟨rfl, b1⟩
      replace tabs := tabs.below b1
      replace b2 := b2.trans (b1.mono b2.size)
      clear b1
      go_wp2_with fail
      refine (e_mul a (zeroW true) _ _ 9223372036854775808 9223372036854775808 rfl (by kernel_rfl) (az_mul ha hf true) (by rw [hs'.out]; kernel_rfl) _).mono ?_
      rintro e w1 ⟨rfl, b1⟩
      replace tabs := tabs.below b1
      replace b2 := b2.trans (b1.mono b2.size)
      clear b1
      go_wp2_with fail
      refine (e_mul a (infW true) _ _ 18442240474082181120 18442240474082181120 rfl (by kernel_rfl) (ai_mul ha hf h0 true) (by rw [hs'.out]; kernel_rfl) _).mono ?_
      rintro e w1 ⟨rfl, b1⟩
      replace tabs := tabs.below b1
      replace b2 := b2.trans (b1.mono b2.size)
      clear b1
      go_wp2_with fail
      refine (e_div a (zeroW true) _ _ 9223372036854775808 18442240474082181120 rfl (by kernel_rfl) (az_div ha hf h0 true) (by rw [hs'.out]; kernel_rfl) _).mono ?_
      rintro e w1 ⟨rfl, b1⟩
      replace tabs := tabs.below b1
      replace b2 := b2.trans (b1.mono b2.size)
      clear b1
      go_wp2_with fail
      refine (e_div a (infW true) _ _ 18442240474082181120 9223372036854775808 rfl (by kernel_rfl) (ai_div ha hf true) (by rw [hs'.out]; kernel_rfl) _).mono ?_
      rintro e w1 ⟨rfl, b1⟩
      replace tabs := tabs.below b1
      replace b2 := b2.trans (b1.mono b2.size)
      clear b1
      go_wp2_with fail
      refine (e_sub a a 0 _ _ 0 rfl rfl (aa_sub ha hf) rfl _).mono ?_
      rintro e w1 ⟨rfl, b1⟩
      replace tabs := tabs.below b1
      replace b2 := b2.trans (b1.mono b2.size)
      clear b1
      go_wp2_with fail
      go_ret
      exact ⟨rfl, b2⟩

set_option maxHeartbeats 1000000 in
theorem edges_100 (a : Nat) (ha : a < 18446744073709551616) (hs : sgn a = true) (w : World) (tabs : Tabs w) : Calls Tryd.prog 5 #[.int .u64 a, .bool false, .bool false] w fun e w' => e = .returned (.bool true) ∧ Below w.heap.size w w' := by
  have hg := sgn_eq ha
  rw [hs] at hg
  have hm := hid (kind_mid (a := a))
  have ho : bits .or .u64 9218868437227405312 9223372036854775808 = 18442240474082181120 := by decide +kernel
  have hs' := hid hs
  clear hs
  go_enter Tryd.func5, Tryd.ntmps5
  go_wp2_with fail
  refine (known_any _ tabs).mono ?_
  rintro e w1 ⟨rfl, b2⟩
  replace tabs := tabs.below b2
  go_wp2_with fail
  refine (kind_any a ha _ tabs).mono ?_
  rintro e w1 ⟨rfl, b1⟩
  replace tabs := tabs.below b1
  replace b2 := b2.trans (b1.mono b2.size)
  clear b1
  go_wp2_with fail
  ·   obtain ⟨hf, h0⟩ := hm.out (by first | (left; simp_all; done) | (right; simp_all; done))
      refine (e_add a (zeroW false) a _ 0 _ rfl (by kernel_rfl) (az_add ha hf h0 false) rfl _).mono ?_
      rintro e w1 ⟨rfl, b1⟩
      replace tabs := tabs.below b1
      replace b2 := b2.trans (b1.mono b2.size)
      clear b1
      go_wp2_with fail
      refine (e_add a (infW false) _ _ 9218868437227405312 9218868437227405312 rfl (by kernel_rfl) (ai_add ha hf false) (by kernel_rfl) _).mono ?_
      rintro e w1 ⟨rfl, b1⟩
      replace tabs := tabs.below b1
      replace b2 := b2.trans (b1.mono b2.size)
      clear b1
      go_wp2_with fail
      refine (e_mul a (zeroW false) _ _ 0 9223372036854775808 rfl (by kernel_rfl) (az_mul ha hf false) (by rw [hs'.out]; kernel_rfl) _).mono ?_
      rintro e w1 ⟨rfl, b1⟩
      replace tabs := tabs.below b1
      replace b2 := b2.trans (b1.mono b2.size)
      clear b1
      go_wp2_with fail
      refine (e_mul a (infW false) _ _ 9218868437227405312 18442240474082181120 rfl (by kernel_rfl) (ai_mul ha hf h0 false) (by rw [hs'.out]; kernel_rfl) _).mono ?_
      rintro e w1 ⟨rfl, b1⟩
      replace tabs := tabs.below b1
      replace b2 := b2.trans (b1.mono b2.size)
      clear b1
      go_wp2_with fail
      refine (e_div a (zeroW false) _ _ 0 18442240474082181120 rfl (by kernel_rfl) (az_div ha hf h0 false) (by rw [hs'.out]; kernel_rfl) _).mono ?_
      rintro e w1 ⟨rfl, b1⟩
      replace tabs := tabs.below b1
      replace b2 := b2.trans (b1.mono b2.size)
      clear b1
      go_wp2_with fail
      refine (e_div a (infW false) _ _ 9218868437227405312 9223372036854775808 rfl (by kernel_rfl) (ai_div ha hf false) (by rw [hs'.out]; kernel_rfl) _).mono ?_
      rintro e w1 ⟨rfl, b1⟩
      replace tabs := tabs.below b1
      replace b2 := b2.trans (b1.mono b2.size)
      clear b1
      go_wp2_with fail
      refine (e_sub a a 0 _ _ 0 rfl rfl (aa_sub ha hf) rfl _).mono ?_
      rintro e w1 ⟨rfl, b1⟩
      replace tabs := tabs.below b1
      replace b2 := b2.trans (b1.mono b2.size)
      clear b1
      go_wp2_with fail
      go_ret
      exact ⟨rfl, b2⟩
  ·   refine (e_mul (zeroW false) (infW false) _ 0 9218868437227405312 9221120237041090560 (by kernel_rfl) (by kernel_rfl) (zi_mul false false) (by kernel_rfl) _).mono ?_
      rintro e w1 ⟨rfl, b1⟩
      replace tabs := tabs.below b1
      replace b2 := b2.trans (b1.mono b2.size)
      clear b1
      go_wp2_with fail
      refine (e_div (infW false) (infW false) _ 9218868437227405312 9218868437227405312 9221120237041090560 (by kernel_rfl) (by kernel_rfl) (ii_div false) (by kernel_rfl) _).mono ?_
      rintro e w1 ⟨rfl, b1⟩
      replace tabs := tabs.below b1
      replace b2 := b2.trans (b1.mono b2.size)
      clear b1
      go_wp2_with fail
      refine (e_div (zeroW false) (zeroW false) _ 0 0 9221120237041090560 (by kernel_rfl) (by kernel_rfl) (zz_div false) (by kernel_rfl) _).mono ?_
      rintro e w1 ⟨rfl, b1⟩
      replace tabs := tabs.below b1
      replace b2 := b2.trans (b1.mono b2.size)
      clear b1
      go_wp2_with fail
      go_ret
      exact ⟨rfl, b2⟩
  ·   obtain ⟨hf, h0⟩ := hm.out (by first | (left; simp_all; done) | (right; simp_all; done))
      refine (e_add a (zeroW false) a _ 0 _ rfl (by kernel_rfl) (az_add ha hf h0 false) rfl _).mono ?_
      rintro e w1 ⟨rfl, b1⟩
      replace tabs := tabs.below b1
      replace b2 := b2.trans (b1.mono b2.size)
      clear b1
      go_wp2_with fail
      refine (e_add a (infW false) _ _ 9218868437227405312 9218868437227405312 rfl (by kernel_rfl) (ai_add ha hf false) (by kernel_rfl) _).mono ?_
      rintro e w1 ⟨rfl, b1⟩
      replace tabs := tabs.below b1
      replace b2 := b2.trans (b1.mono b2.size)
      clear b1
      go_wp2_with fail
      refine (e_mul a (zeroW false) _ _ 0 9223372036854775808 rfl (by kernel_rfl) (az_mul ha hf false) (by rw [hs'.out]; kernel_rfl) _).mono ?_
      rintro e w1 ⟨rfl, b1⟩
      replace tabs := tabs.below b1
      replace b2 := b2.trans (b1.mono b2.size)
      clear b1
      go_wp2_with fail
      refine (e_mul a (infW false) _ _ 9218868437227405312 18442240474082181120 rfl (by kernel_rfl) (ai_mul ha hf h0 false) (by rw [hs'.out]; kernel_rfl) _).mono ?_
      rintro e w1 ⟨rfl, b1⟩
      replace tabs := tabs.below b1
      replace b2 := b2.trans (b1.mono b2.size)
      clear b1
      go_wp2_with fail
      refine (e_div a (zeroW false) _ _ 0 18442240474082181120 rfl (by kernel_rfl) (az_div ha hf h0 false) (by rw [hs'.out]; kernel_rfl) _).mono ?_
      rintro e w1 ⟨rfl, b1⟩
      replace tabs := tabs.below b1
      replace b2 := b2.trans (b1.mono b2.size)
      clear b1
      go_wp2_with fail
      refine (e_div a (infW false) _ _ 9218868437227405312 9223372036854775808 rfl (by kernel_rfl) (ai_div ha hf false) (by rw [hs'.out]; kernel_rfl) _).mono ?_
      rintro e w1 ⟨rfl, b1⟩
      replace tabs := tabs.below b1
      replace b2 := b2.trans (b1.mono b2.size)
      clear b1
      go_wp2_with fail
      refine (e_sub a a 0 _ _ 0 rfl rfl (aa_sub ha hf) rfl _).mono ?_
      rintro e w1 ⟨rfl, b1⟩
      replace tabs := tabs.below b1
      replace b2 := b2.trans (b1.mono b2.size)
      clear b1
      go_wp2_with fail
      go_ret
      exact ⟨rfl, b2⟩

set_option maxHeartbeats 1000000 in
theorem edges_101 (a : Nat) (ha : a < 18446744073709551616) (hs : sgn a = true) (w : World) (tabs : Tabs w) : Calls Tryd.prog 5 #[.int .u64 a, .bool false, .bool true] w fun e w' => e = .returned (.bool true) ∧ Below w.heap.size w w' := by
  have hg := sgn_eq ha
  rw [hs] at hg
  have hm := hid (kind_mid (a := a))
  have ho : bits .or .u64 9218868437227405312 9223372036854775808 = 18442240474082181120 := by decide +kernel
  have hs' := hid hs
  clear hs
  go_enter Tryd.func5, Tryd.ntmps5
  go_wp2_with fail
  refine (known_any _ tabs).mono ?_
  rintro e w1 ⟨rfl, b2⟩
  replace tabs := tabs.below b2
  go_wp2_with fail
  refine (kind_any a ha _ tabs).mono ?_
  rintro e w1 ⟨rfl, b1⟩
  replace tabs := tabs.below b1
  replace b2 := b2.trans (b1.mono b2.size)
  clear b1
  go_wp2_with fail
  ·   obtain ⟨hf, h0⟩ := hm.out (by first | (left; simp_all; done) | (right; simp_all; done))
      refine (e_add a (zeroW false) a _ 0 _ rfl (by kernel_rfl) (az_add ha hf h0 false) rfl _).mono ?_
      rintro e w1 ⟨rfl, b1⟩
      replace tabs := tabs.below b1
      replace b2 := b2.trans (b1.mono b2.size)
      clear b1
      go_wp2_with fail
      refine (e_add a (infW true) _ _ 18442240474082181120 18442240474082181120 rfl (by kernel_rfl) (ai_add ha hf true) (by kernel_rfl) _).mono ?_
      rintro e w1 ⟨rfl, b1⟩
      replace tabs := tabs.below b1
      replace b2 := b2.trans (b1.mono b2.size)
      clear b1
      go_wp2_with fail
      refine (e_mul a (zeroW false) _ _ 0 9223372036854775808 rfl (by kernel_rfl) (az_mul ha hf false) (by rw [hs'.out]; kernel_rfl) _).mono ?_
      rintro e w1 ⟨rfl, b1⟩
      replace tabs := tabs.below b1
      replace b2 := b2.trans (b1.mono b2.size)
      clear b1
      go_wp2_with fail
      refine (e_mul a (infW true) _ _ 18442240474082181120 9218868437227405312 rfl (by kernel_rfl) (ai_mul ha hf h0 true) (by rw [hs'.out]; kernel_rfl) _).mono ?_
      rintro e w1 ⟨rfl, b1⟩
      replace tabs := tabs.below b1
      replace b2 := b2.trans (b1.mono b2.size)
      clear b1
      go_wp2_with fail
      refine (e_div a (zeroW false) _ _ 0 18442240474082181120 rfl (by kernel_rfl) (az_div ha hf h0 false) (by rw [hs'.out]; kernel_rfl) _).mono ?_
      rintro e w1 ⟨rfl, b1⟩
      replace tabs := tabs.below b1
      replace b2 := b2.trans (b1.mono b2.size)
      clear b1
      go_wp2_with fail
      refine (e_div a (infW true) _ _ 18442240474082181120 0 rfl (by kernel_rfl) (ai_div ha hf true) (by rw [hs'.out]; kernel_rfl) _).mono ?_
      rintro e w1 ⟨rfl, b1⟩
      replace tabs := tabs.below b1
      replace b2 := b2.trans (b1.mono b2.size)
      clear b1
      go_wp2_with fail
      refine (e_sub a a 0 _ _ 0 rfl rfl (aa_sub ha hf) rfl _).mono ?_
      rintro e w1 ⟨rfl, b1⟩
      replace tabs := tabs.below b1
      replace b2 := b2.trans (b1.mono b2.size)
      clear b1
      go_wp2_with fail
      go_ret
      exact ⟨rfl, b2⟩
  ·   refine (e_mul (zeroW false) (infW true) _ 0 18442240474082181120 9221120237041090560 (by kernel_rfl) (by kernel_rfl) (zi_mul false true) (by kernel_rfl) _).mono ?_
      rintro e w1 ⟨rfl, b1⟩
      replace tabs := tabs.below b1
      replace b2 := b2.trans (b1.mono b2.size)
      clear b1
      go_wp2_with fail
      refine (e_div (infW true) (infW true) _ 18442240474082181120 18442240474082181120 9221120237041090560 (by kernel_rfl) (by kernel_rfl) (ii_div true) (by kernel_rfl) _).mono ?_
      rintro e w1 ⟨rfl, b1⟩
      replace tabs := tabs.below b1
      replace b2 := b2.trans (b1.mono b2.size)
      clear b1
      go_wp2_with fail
      refine (e_div (zeroW false) (zeroW false) _ 0 0 9221120237041090560 (by kernel_rfl) (by kernel_rfl) (zz_div false) (by kernel_rfl) _).mono ?_
      rintro e w1 ⟨rfl, b1⟩
      replace tabs := tabs.below b1
      replace b2 := b2.trans (b1.mono b2.size)
      clear b1
      go_wp2_with fail
      go_ret
      exact ⟨rfl, b2⟩
  ·   obtain ⟨hf, h0⟩ := hm.out (by first | (left; simp_all; done) | (right; simp_all; done))
      refine (e_add a (zeroW false) a _ 0 _ rfl (by kernel_rfl) (az_add ha hf h0 false) rfl _).mono ?_
      rintro e w1 ⟨rfl, b1⟩
      replace tabs := tabs.below b1
      replace b2 := b2.trans (b1.mono b2.size)
      clear b1
      go_wp2_with fail
      refine (e_add a (infW true) _ _ 18442240474082181120 18442240474082181120 rfl (by kernel_rfl) (ai_add ha hf true) (by kernel_rfl) _).mono ?_
      rintro e w1 ⟨rfl, b1⟩
      replace tabs := tabs.below b1
      replace b2 := b2.trans (b1.mono b2.size)
      clear b1
      go_wp2_with fail
      refine (e_mul a (zeroW false) _ _ 0 9223372036854775808 rfl (by kernel_rfl) (az_mul ha hf false) (by rw [hs'.out]; kernel_rfl) _).mono ?_
      rintro e w1 ⟨rfl, b1⟩
      replace tabs := tabs.below b1
      replace b2 := b2.trans (b1.mono b2.size)
      clear b1
      go_wp2_with fail
      refine (e_mul a (infW true) _ _ 18442240474082181120 9218868437227405312 rfl (by kernel_rfl) (ai_mul ha hf h0 true) (by rw [hs'.out]; kernel_rfl) _).mono ?_
      rintro e w1 ⟨rfl, b1⟩
      replace tabs := tabs.below b1
      replace b2 := b2.trans (b1.mono b2.size)
      clear b1
      go_wp2_with fail
      refine (e_div a (zeroW false) _ _ 0 18442240474082181120 rfl (by kernel_rfl) (az_div ha hf h0 false) (by rw [hs'.out]; kernel_rfl) _).mono ?_
      rintro e w1 ⟨rfl, b1⟩
      replace tabs := tabs.below b1
      replace b2 := b2.trans (b1.mono b2.size)
      clear b1
      go_wp2_with fail
      refine (e_div a (infW true) _ _ 18442240474082181120 0 rfl (by kernel_rfl) (ai_div ha hf true) (by rw [hs'.out]; kernel_rfl) _).mono ?_
      rintro e w1 ⟨rfl, b1⟩
      replace tabs := tabs.below b1
      replace b2 := b2.trans (b1.mono b2.size)
      clear b1
      go_wp2_with fail
      refine (e_sub a a 0 _ _ 0 rfl rfl (aa_sub ha hf) rfl _).mono ?_
      rintro e w1 ⟨rfl, b1⟩
      replace tabs := tabs.below b1
      replace b2 := b2.trans (b1.mono b2.size)
      clear b1
      go_wp2_with fail
      go_ret
      exact ⟨rfl, b2⟩

set_option maxHeartbeats 1000000 in
theorem edges_110 (a : Nat) (ha : a < 18446744073709551616) (hs : sgn a = true) (w : World) (tabs : Tabs w) : Calls Tryd.prog 5 #[.int .u64 a, .bool true, .bool false] w fun e w' => e = .returned (.bool true) ∧ Below w.heap.size w w' := by
  have hg := sgn_eq ha
  rw [hs] at hg
  have hm := hid (kind_mid (a := a))
  have ho : bits .or .u64 9218868437227405312 9223372036854775808 = 18442240474082181120 := by decide +kernel
  have hs' := hid hs
  clear hs
  go_enter Tryd.func5, Tryd.ntmps5
  go_wp2_with fail
  refine (known_any _ tabs).mono ?_
  rintro e w1 ⟨rfl, b2⟩
  replace tabs := tabs.below b2
  go_wp2_with fail
  refine (kind_any a ha _ tabs).mono ?_
  rintro e w1 ⟨rfl, b1⟩
  replace tabs := tabs.below b1
  replace b2 := b2.trans (b1.mono b2.size)
  clear b1
  go_wp2_with fail
  ·   obtain ⟨hf, h0⟩ := hm.out (by first | (left; simp_all; done) | (right; simp_all; done))
      refine (e_add a (zeroW true) a _ 9223372036854775808 _ rfl (by kernel_rfl) (az_add ha hf h0 true) rfl _).mono ?_
      rintro e w1 ⟨rfl, b1⟩
      replace tabs := tabs.below b1
      replace b2 := b2.trans (b1.mono b2.size)
      clear b1
      go_wp2_with fail
      refine (e_add a (infW false) _ _ 9218868437227405312 9218868437227405312 rfl (by kernel_rfl) (ai_add ha hf false) (by kernel_rfl) _).mono ?_
      rintro e w1 ⟨rfl, b1⟩
      replace tabs := tabs.below b1
      replace b2 := b2.trans (b1.mono b2.size)
      clear b1
      go_wp2_with fail
      refine (e_mul a (zeroW true) _ _ 9223372036854775808 0 rfl (by kernel_rfl) (az_mul ha hf true) (by rw [hs'.out]; kernel_rfl) _).mono ?_
      rintro e w1 ⟨rfl, b1⟩
      replace tabs := tabs.below b1
      replace b2 := b2.trans (b1.mono b2.size)
      clear b1
      go_wp2_with fail
      refine (e_mul a (infW false) _ _ 9218868437227405312 18442240474082181120 rfl (by kernel_rfl) (ai_mul ha hf h0 false) (by rw [hs'.out]; kernel_rfl) _).mono ?_
      rintro e w1 ⟨rfl, b1⟩
      replace tabs := tabs.below b1
      replace b2 := b2.trans (b1.mono b2.size)
      clear b1
      go_wp2_with fail
      refine (e_div a (zeroW true) _ _ 9223372036854775808 9218868437227405312 rfl (by kernel_rfl) (az_div ha hf h0 true) (by rw [hs'.out]; kernel_rfl) _).mono ?_
      rintro e w1 ⟨rfl, b1⟩
      replace tabs := tabs.below b1
      replace b2 := b2.trans (b1.mono b2.size)
      clear b1
      go_wp2_with fail
      refine (e_div a (infW false) _ _ 9218868437227405312 9223372036854775808 rfl (by kernel_rfl) (ai_div ha hf false) (by rw [hs'.out]; kernel_rfl) _).mono ?_
      rintro e w1 ⟨rfl, b1⟩
      replace tabs := tabs.below b1
      replace b2 := b2.trans (b1.mono b2.size)
      clear b1
      go_wp2_with fail
      refine (e_sub a a 0 _ _ 0 rfl rfl (aa_sub ha hf) rfl _).mono ?_
      rintro e w1 ⟨rfl, b1⟩
      replace tabs := tabs.below b1
      replace b2 := b2.trans (b1.mono b2.size)
      clear b1
      go_wp2_with fail
      go_ret
      exact ⟨rfl, b2⟩
  ·   refine (e_mul (zeroW true) (infW false) _ 9223372036854775808 9218868437227405312 9221120237041090560 (by kernel_rfl) (by kernel_rfl) (zi_mul true false) (by kernel_rfl) _).mono ?_
      rintro e w1 ⟨rfl, b1⟩
      replace tabs := tabs.below b1
      replace b2 := b2.trans (b1.mono b2.size)
      clear b1
      go_wp2_with fail
      refine (e_div (infW false) (infW false) _ 9218868437227405312 9218868437227405312 9221120237041090560 (by kernel_rfl) (by kernel_rfl) (ii_div false) (by kernel_rfl) _).mono ?_
      rintro e w1 ⟨rfl, b1⟩
      replace tabs := tabs.below b1
      replace b2 := b2.trans (b1.mono b2.size)
      clear b1
      go_wp2_with fail
      refine (e_div (zeroW true) (zeroW true) _ 9223372036854775808 9223372036854775808 9221120237041090560 (by kernel_rfl) (by kernel_rfl) (zz_div true) (by kernel_rfl) _).mono ?_
      rintro e w1 ⟨rfl, b1⟩
      replace tabs := tabs.below b1
      replace b2 := b2.trans (b1.mono b2.size)
      clear b1
      go_wp2_with fail
      go_ret
      exact ⟨rfl, b2⟩
  ·   obtain ⟨hf, h0⟩ := hm.out (by first | (left; simp_all; done) | (right; simp_all; done))
      refine (e_add a (zeroW true) a _ 9223372036854775808 _ rfl (by kernel_rfl) (az_add ha hf h0 true) rfl _).mono ?_
      rintro e w1 ⟨rfl, b1⟩
      replace tabs := tabs.below b1
      replace b2 := b2.trans (b1.mono b2.size)
      clear b1
      go_wp2_with fail
      refine (e_add a (infW false) _ _ 9218868437227405312 9218868437227405312 rfl (by kernel_rfl) (ai_add ha hf false) (by kernel_rfl) _).mono ?_
      rintro e w1 ⟨rfl, b1⟩
      replace tabs := tabs.below b1
      replace b2 := b2.trans (b1.mono b2.size)
      clear b1
      go_wp2_with fail
      refine (e_mul a (zeroW true) _ _ 9223372036854775808 0 rfl (by kernel_rfl) (az_mul ha hf true) (by rw [hs'.out]; kernel_rfl) _).mono ?_
      rintro e w1 ⟨rfl, b1⟩
      replace tabs := tabs.below b1
      replace b2 := b2.trans (b1.mono b2.size)
      clear b1
      go_wp2_with fail
      refine (e_mul a (infW false) _ _ 9218868437227405312 18442240474082181120 rfl (by kernel_rfl) (ai_mul ha hf h0 false) (by rw [hs'.out]; kernel_rfl) _).mono ?_
      rintro e w1 ⟨rfl, b1⟩
      replace tabs := tabs.below b1
      replace b2 := b2.trans (b1.mono b2.size)
      clear b1
      go_wp2_with fail
      refine (e_div a (zeroW true) _ _ 9223372036854775808 9218868437227405312 rfl (by kernel_rfl) (az_div ha hf h0 true) (by rw [hs'.out]; kernel_rfl) _).mono ?_
      rintro e w1 ⟨rfl, b1⟩
      replace tabs := tabs.below b1
      replace b2 := b2.trans (b1.mono b2.size)
      clear b1
      go_wp2_with fail
      refine (e_div a (infW false) _ _ 9218868437227405312 9223372036854775808 rfl (by kernel_rfl) (ai_div ha hf false) (by rw [hs'.out]; kernel_rfl) _).mono ?_
      rintro e w1 ⟨rfl, b1⟩
      replace tabs := tabs.below b1
      replace b2 := b2.trans (b1.mono b2.size)
      clear b1
      go_wp2_with fail
      refine (e_sub a a 0 _ _ 0 rfl rfl (aa_sub ha hf) rfl _).mono ?_
      rintro e w1 ⟨rfl, b1⟩
      replace tabs := tabs.below b1
      replace b2 := b2.trans (b1.mono b2.size)
      clear b1
      go_wp2_with fail
      go_ret
      exact ⟨rfl, b2⟩

set_option maxHeartbeats 1000000 in
theorem edges_111 (a : Nat) (ha : a < 18446744073709551616) (hs : sgn a = true) (w : World) (tabs : Tabs w) : Calls Tryd.prog 5 #[.int .u64 a, .bool true, .bool true] w fun e w' => e = .returned (.bool true) ∧ Below w.heap.size w w' := by
  have hg := sgn_eq ha
  rw [hs] at hg
  have hm := hid (kind_mid (a := a))
  have ho : bits .or .u64 9218868437227405312 9223372036854775808 = 18442240474082181120 := by decide +kernel
  have hs' := hid hs
  clear hs
  go_enter Tryd.func5, Tryd.ntmps5
  go_wp2_with fail
  refine (known_any _ tabs).mono ?_
  rintro e w1 ⟨rfl, b2⟩
  replace tabs := tabs.below b2
  go_wp2_with fail
  refine (kind_any a ha _ tabs).mono ?_
  rintro e w1 ⟨rfl, b1⟩
  replace tabs := tabs.below b1
  replace b2 := b2.trans (b1.mono b2.size)
  clear b1
  go_wp2_with fail
  ·   obtain ⟨hf, h0⟩ := hm.out (by first | (left; simp_all; done) | (right; simp_all; done))
      refine (e_add a (zeroW true) a _ 9223372036854775808 _ rfl (by kernel_rfl) (az_add ha hf h0 true) rfl _).mono ?_
      rintro e w1 ⟨rfl, b1⟩
      replace tabs := tabs.below b1
      replace b2 := b2.trans (b1.mono b2.size)
      clear b1
      go_wp2_with fail
      refine (e_add a (infW true) _ _ 18442240474082181120 18442240474082181120 rfl (by kernel_rfl) (ai_add ha hf true) (by kernel_rfl) _).mono ?_
      rintro e w1 ⟨rfl, b1⟩
      replace tabs := tabs.below b1
      replace b2 := b2.trans (b1.mono b2.size)
      clear b1
      go_wp2_with fail
      refine (e_mul a (zeroW true) _ _ 9223372036854775808 0 rfl (by kernel_rfl) (az_mul ha hf true) (by rw [hs'.out]; kernel_rfl) _).mono ?_
      rintro e w1 ⟨rfl, b1⟩
      replace tabs := tabs.below b1
      replace b2 := b2.trans (b1.mono b2.size)
      clear b1
      go_wp2_with fail
      refine (e_mul a (infW true) _ _ 18442240474082181120 9218868437227405312 rfl (by kernel_rfl) (ai_mul ha hf h0 true) (by rw [hs'.out]; kernel_rfl) _).mono ?_
      rintro e w1 ⟨rfl, b1⟩
      replace tabs := tabs.below b1
      replace b2 := b2.trans (b1.mono b2.size)
      clear b1
      go_wp2_with fail
      refine (e_div a (zeroW true) _ _ 9223372036854775808 9218868437227405312 rfl (by kernel_rfl) (az_div ha hf h0 true) (by rw [hs'.out]; kernel_rfl) _).mono ?_
      rintro e w1 ⟨rfl, b1⟩
      replace tabs := tabs.below b1
      replace b2 := b2.trans (b1.mono b2.size)
      clear b1
      go_wp2_with fail
      refine (e_div a (infW true) _ _ 18442240474082181120 0 rfl (by kernel_rfl) (ai_div ha hf true) (by rw [hs'.out]; kernel_rfl) _).mono ?_
      rintro e w1 ⟨rfl, b1⟩
      replace tabs := tabs.below b1
      replace b2 := b2.trans (b1.mono b2.size)
      clear b1
      go_wp2_with fail
      refine (e_sub a a 0 _ _ 0 rfl rfl (aa_sub ha hf) rfl _).mono ?_
      rintro e w1 ⟨rfl, b1⟩
      replace tabs := tabs.below b1
      replace b2 := b2.trans (b1.mono b2.size)
      clear b1
      go_wp2_with fail
      go_ret
      exact ⟨rfl, b2⟩
  ·   refine (e_mul (zeroW true) (infW true) _ 9223372036854775808 18442240474082181120 9221120237041090560 (by kernel_rfl) (by kernel_rfl) (zi_mul true true) (by kernel_rfl) _).mono ?_
      rintro e w1 ⟨rfl, b1⟩
      replace tabs := tabs.below b1
      replace b2 := b2.trans (b1.mono b2.size)
      clear b1
      go_wp2_with fail
      refine (e_div (infW true) (infW true) _ 18442240474082181120 18442240474082181120 9221120237041090560 (by kernel_rfl) (by kernel_rfl) (ii_div true) (by kernel_rfl) _).mono ?_
      rintro e w1 ⟨rfl, b1⟩
      replace tabs := tabs.below b1
      replace b2 := b2.trans (b1.mono b2.size)
      clear b1
      go_wp2_with fail
      refine (e_div (zeroW true) (zeroW true) _ 9223372036854775808 9223372036854775808 9221120237041090560 (by kernel_rfl) (by kernel_rfl) (zz_div true) (by kernel_rfl) _).mono ?_
      rintro e w1 ⟨rfl, b1⟩
      replace tabs := tabs.below b1
      replace b2 := b2.trans (b1.mono b2.size)
      clear b1
      go_wp2_with fail
      go_ret
      exact ⟨rfl, b2⟩
  ·   obtain ⟨hf, h0⟩ := hm.out (by first | (left; simp_all; done) | (right; simp_all; done))
      refine (e_add a (zeroW true) a _ 9223372036854775808 _ rfl (by kernel_rfl) (az_add ha hf h0 true) rfl _).mono ?_
      rintro e w1 ⟨rfl, b1⟩
      replace tabs := tabs.below b1
      replace b2 := b2.trans (b1.mono b2.size)
      clear b1
      go_wp2_with fail
      refine (e_add a (infW true) _ _ 18442240474082181120 18442240474082181120 rfl (by kernel_rfl) (ai_add ha hf true) (by kernel_rfl) _).mono ?_
      rintro e w1 ⟨rfl, b1⟩
      replace tabs := tabs.below b1
      replace b2 := b2.trans (b1.mono b2.size)
      clear b1
      go_wp2_with fail
      refine (e_mul a (zeroW true) _ _ 9223372036854775808 0 rfl (by kernel_rfl) (az_mul ha hf true) (by rw [hs'.out]; kernel_rfl) _).mono ?_
      rintro e w1 ⟨rfl, b1⟩
      replace tabs := tabs.below b1
      replace b2 := b2.trans (b1.mono b2.size)
      clear b1
      go_wp2_with fail
      refine (e_mul a (infW true) _ _ 18442240474082181120 9218868437227405312 rfl (by kernel_rfl) (ai_mul ha hf h0 true) (by rw [hs'.out]; kernel_rfl) _).mono ?_
      rintro e w1 ⟨rfl, b1⟩
      replace tabs := tabs.below b1
      replace b2 := b2.trans (b1.mono b2.size)
      clear b1
      go_wp2_with fail
      refine (e_div a (zeroW true) _ _ 9223372036854775808 9218868437227405312 rfl (by kernel_rfl) (az_div ha hf h0 true) (by rw [hs'.out]; kernel_rfl) _).mono ?_
      rintro e w1 ⟨rfl, b1⟩
      replace tabs := tabs.below b1
      replace b2 := b2.trans (b1.mono b2.size)
      clear b1
      go_wp2_with fail
      refine (e_div a (infW true) _ _ 18442240474082181120 0 rfl (by kernel_rfl) (ai_div ha hf true) (by rw [hs'.out]; kernel_rfl) _).mono ?_
      rintro e w1 ⟨rfl, b1⟩
      replace tabs := tabs.below b1
      replace b2 := b2.trans (b1.mono b2.size)
      clear b1
      go_wp2_with fail
      refine (e_sub a a 0 _ _ 0 rfl rfl (aa_sub ha hf) rfl _).mono ?_
      rintro e w1 ⟨rfl, b1⟩
      replace tabs := tabs.below b1
      replace b2 := b2.trans (b1.mono b2.size)
      clear b1
      go_wp2_with fail
      go_ret
      exact ⟨rfl, b2⟩
theorem edges_walk (a : Nat) (s t : Bool) (ha : a < 18446744073709551616) (w : World) (tabs : Tabs w) : Calls Tryd.prog 5 #[.int .u64 a, .bool s, .bool t] w fun e w' => e = .returned (.bool true) ∧ Below w.heap.size w w' := by
  rcases hs : sgn a with _ | _ <;> cases s <;> cases t
  · exact edges_000 a ha hs w tabs
  · exact edges_001 a ha hs w tabs
  · exact edges_010 a ha hs w tabs
  · exact edges_011 a ha hs w tabs
  · exact edges_100 a ha hs w tabs
  · exact edges_101 a ha hs w tabs
  · exact edges_110 a ha hs w tabs
  · exact edges_111 a ha hs w tabs
end Go.Proofs.YtmjheiedoihohaaDoor
