import Derived.Test.YtmjheiedoihohaaDoorF6
import Derived.Test.YtmjheiedoihohaaDoorM4
import Derived.Test.YtmjheiedoihohaaDoorWf
namespace Go.Proofs.YtmjheiedoihohaaDoor
open Go.RowKit
set_option linter.unusedVariables false

theorem abs_neg {a : Nat} (h : a < 18446744073709551616) : absN (negN a) = absN a := by unfold absN negN; split <;> omega
theorem neg_ne (a : Nat) (h : a < 18446744073709551616) : negN a ≠ a := by unfold negN; split <;> omega
theorem c_mul1 (a : Nat) (h : a < 18446744073709551616) (hn : isNan a = false) (w : World) : Calls Tryd.prog 17 #[.int .u64 a, .int .u64 4607182418800017408] w fun e w' => e = .returned (.int .u64 a) ∧ Below w.heap.size w w' :=
  (mul_any a 4607182418800017408 w).mono (by rintro e w' ⟨rfl, hb⟩; exact ⟨by rw [mul_one h hn], hb⟩)
theorem c_div1 (a : Nat) (h : a < 18446744073709551616) (hn : isNan a = false) (w : World) : Calls Tryd.prog 18 #[.int .u64 a, .int .u64 4607182418800017408] w fun e w' => e = .returned (.int .u64 a) ∧ Below w.heap.size w w' :=
  (div_any a 4607182418800017408 w).mono (by rintro e w' ⟨rfl, hb⟩; exact ⟨by rw [div_one h hn], hb⟩)
theorem c_sub0 (a : Nat) (h : a < 18446744073709551616) (hn : isNan a = false) (w : World) : Calls Tryd.prog 16 #[.int .u64 a, .int .u64 0] w fun e w' => e = .returned (.int .u64 a) ∧ Below w.heap.size w w' :=
  (sub_any a 0 w).mono (by rintro e w' ⟨rfl, hb⟩; exact ⟨by rw [sub_zero h hn 0 rfl], hb⟩)
theorem c_mul2 (a : Nat) (h : a < 18446744073709551616) (hn : isNan a = false) (w : World) : Calls Tryd.prog 17 #[.int .u64 a, .int .u64 4611686018427387904] w fun e w' => e = .returned (.int .u64 (fl .add a a)) ∧ Below w.heap.size w w' :=
  (mul_any a 4611686018427387904 w).mono (by rintro e w' ⟨rfl, hb⟩; exact ⟨by rw [twice h hn], hb⟩)
theorem c_absneg (a : Nat) (h : a < 18446744073709551616) (w : World) : Calls Tryd.prog 20 #[.int .u64 (negN a)] w fun e w' => e = .returned (.int .u64 (absN a)) ∧ w = w' :=
  (abs_any (negN a) (negN_lt h) w).mono (by rintro e w' ⟨rfl, rfl⟩; exact ⟨by rw [abs_neg h], rfl⟩)

set_option maxHeartbeats 1000000 in
theorem same_walk (a : Nat) (ha : a < 18446744073709551616) (w : World) (tabs : Tabs w) : Calls Tryd.prog 7 #[.int .u64 a] w fun e w' => e = .returned (.bool true) ∧ Below w.heap.size w w' := by
  have hk := kind4 a
  rcases hn : isNan a with _ | _
  · rw [hn] at hk
    have hne := neg_ne a ha
    have hne' : ((negN a : Int) == (a : Int)) = false := by rw [beq_eq_false_iff_ne]; omega
    go_enter Tryd.func7, Tryd.ntmps7
    go_wp2_with fail
    refine (known_any _ tabs).mono ?_
    rintro e w1 ⟨rfl, b2⟩
    replace tabs := tabs.below b2
    go_wp2_with fail
    refine (kind_any a ha _ tabs).mono ?_
    rintro e w1 ⟨rfl, b1⟩
    replace b2 := b2.trans (b1.mono b2.size)
    clear b1
    go_wp2_with fail
    refine (c_mul1 a ha hn _).mono ?_
    rintro e w1 ⟨rfl, b1⟩
    replace b2 := b2.trans (b1.mono b2.size)
    clear b1
    go_wp2_with fail
    refine (c_div1 a ha hn _).mono ?_
    rintro e w1 ⟨rfl, b1⟩
    replace b2 := b2.trans (b1.mono b2.size)
    clear b1
    go_wp2_with fail
    refine (c_sub0 a ha hn _).mono ?_
    rintro e w1 ⟨rfl, b1⟩
    replace b2 := b2.trans (b1.mono b2.size)
    clear b1
    go_wp2_with fail
    refine (c_mul2 a ha hn _).mono ?_
    rintro e w1 ⟨rfl, b1⟩
    replace b2 := b2.trans (b1.mono b2.size)
    clear b1
    go_wp2_with fail
    refine (add_any a a _).mono ?_
    rintro e w1 ⟨rfl, b1⟩
    replace b2 := b2.trans (b1.mono b2.size)
    clear b1
    go_wp2_with fail
    refine (neg_any a ha _).mono ?_
    rintro e w1 ⟨rfl, rfl⟩
    go_wp2_with fail
    refine (c_absneg a ha _).mono ?_
    rintro e w1 ⟨rfl, rfl⟩
    go_wp2_with fail
    refine (abs_any a ha _).mono ?_
    rintro e w1 ⟨rfl, rfl⟩
    go_wp2_with fail
    refine (neg_any a ha _).mono ?_
    rintro e w1 ⟨rfl, rfl⟩
    go_wp2_with fail
    go_ret
    exact ⟨ret_bool (by rw [bne, hne']; rfl), b2⟩
  · rw [hn] at hk
    go_enter Tryd.func7, Tryd.ntmps7
    go_wp2_with fail
    refine (known_any _ tabs).mono ?_
    rintro e w1 ⟨rfl, b2⟩
    replace tabs := tabs.below b2
    go_wp2_with fail
    refine (kind_any a ha _ tabs).mono ?_
    rintro e w1 ⟨rfl, b1⟩
    replace b2 := b2.trans (b1.mono b2.size)
    clear b1
    go_wp2_with fail
    go_ret
    exact ⟨rfl, b2⟩
end Go.Proofs.YtmjheiedoihohaaDoor
