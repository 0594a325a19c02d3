import Derived.Test.YtjnoapbamllnpaaBits
import Derived.Test.YtjnoapbamllnpaaPlain
namespace Go.Proofs.Ytjnoapbamllnpaa
open Go.RowKit
set_option linter.unusedVariables false

theorem carry_walk (a b : Int) (c : Bool) (ha : 0 ≤ a ∧ a ≤ 4294967295) (hb : 0 ≤ b ∧ b ≤ 4294967295) (w : World) :
    Calls Try.prog 4 #[.int .u32 a, .int .u32 b, .bool c] w fun e w' => e = .returned (.bool true) ∧ Below w.heap.size w w' := by
  go_enter Try.func4, Try.ntmps4
  go_wp2_with fail
  refine (known_any _).mono ?_
  rintro e w1 ⟨rfl, hb1⟩
  go_wp2_with (first | (go_at_call 22; refine (addC_any _ _ _ ha hb _).mono ?_; rintro e w' ⟨rfl, rfl⟩) | (go_at_call 23; refine (raddC_any _ _ _ ha hb _).mono ?_; rintro e w' ⟨rfl, rfl⟩) | (go_at_call 24; refine (subC_any _ _ _ ha hb _).mono ?_; rintro e w' ⟨rfl, rfl⟩) | (go_at_call 25; refine (rsubC_any _ _ _ ha hb _).mono ?_; rintro e w' ⟨rfl, rfl⟩) | (go_at_call 26; refine (mulU_any _ _ ha hb _).mono ?_; rintro e w' ⟨rfl, rfl⟩) | (go_at_call 27; refine (rmulU_any _ _ ha hb _).mono ?_; rintro e w' ⟨rfl, rfl⟩) | (go_at_call 28; refine (mulS_any _ _ _).mono ?_; rintro e w' ⟨rfl, rfl⟩) | (go_at_call 29; refine (rmulS_any _ _ _).mono ?_; rintro e w' ⟨rfl, rfl⟩))
  go_ret
  exact ⟨rfl, hb1⟩
theorem back_walk (a b : Int) (c : Bool) (ha : 0 ≤ a ∧ a ≤ 4294967295) (hb : 0 ≤ b ∧ b ≤ 4294967295) (w : World) :
    Calls Try.prog 5 #[.int .u32 a, .int .u32 b, .bool c] w fun e w' => e = .returned (.bool true) ∧ Below w.heap.size w w' := by
  have n1 := u32_not hb
  have n2 : IntKind.u32.max = 4294967295 := rfl
  have n3 : IntKind.u32.signed = false := rfl
  have f1 := Lib.hid (back_d (c := c) ha hb)
  have f2 := Lib.hid (back_below (c := c) ha hb)
  have f3 := Lib.hid (back_y (a := a) (b := b) (c := c))
  have f4 := Lib.hid (back_down (c := c) ha hb)
  have f5 := Lib.hid (back_og (a := a) (b := b) (c := c) hb)
  go_enter Try.func5, Try.ntmps5
  go_wp2_with fail
  refine (known_any _).mono ?_
  rintro e w1 ⟨rfl, hb1⟩
  go_wp2_with fail
  refine (addC_any _ _ _ ha hb _).mono ?_
  rintro e w' ⟨he, rfl⟩
  obtain ⟨s, hs⟩ : ∃ s, s = (a + b + c01 c) % 4294967296 := ⟨_, rfl⟩
  obtain ⟨o, ho⟩ : ∃ o, o = (a + b + c01 c != s) := ⟨_, rfl⟩
  have bs : 0 ≤ s ∧ s ≤ 4294967295 := by omega
  rw [← hs, ← ho] at he
  have Hs := Lib.hid hs
  have Ho := Lib.hid ho
  clear hs ho
  subst he
  go_wp2_with fail
  refine (subC_any _ _ _ bs hb _).mono ?_
  rintro e w' ⟨he, rfl⟩
  have g1 := f1.out
  have g2 := f2.out
  rw [← Hs.out] at g1 g2
  rw [← Ho.out] at g2
  rw [g1, g2] at he
  clear g1 g2
  subst he
  go_wp2_with fail
  refine (subC_any _ _ _ ha hb _).mono ?_
  rintro e w' ⟨he, rfl⟩
  obtain ⟨x, hx⟩ : ∃ s, s = (a - b - c01 c) % 4294967296 := ⟨_, rfl⟩
  obtain ⟨u, hu⟩ : ∃ o, o = (a - b - c01 c != x) := ⟨_, rfl⟩
  obtain ⟨v, hv⟩ : ∃ o, o = (wrap32 a - wrap32 b - c01 c != wrap32 (wrap32 a - wrap32 b - c01 c)) := ⟨_, rfl⟩
  rw [← hx, ← hu, ← hv] at he
  have Hx := Lib.hid hx
  have Hu := Lib.hid hu
  have Hv := Lib.hid hv
  clear hx hu hv
  subst he
  go_wp2_with fail
  refine (addC_any _ _ _ ha (by omega) _).mono ?_
  rintro e w' ⟨he, rfl⟩
  rw [f3.out, f4.out, f5.out, ← Hx.out, ← Hu.out, ← Hv.out] at he
  subst he
  go_wp2
  go_ret
  exact ⟨rfl, hb1⟩
theorem signed_k (x n : Int) (k : Nat) (hk : held n = k) (h : 0 ≤ x ∧ x ≤ 4294967295) (w : World) : Calls Try.prog 15 #[.int .u32 x, .int .i64 n] w fun e w' => e = .returned (.int .i32 (sgn k x)) ∧ w = w' := by
  rw [← hk]; exact signed_any x n h w
theorem field_v (x n k v : Int) (hv : fieldS x n k = v) (h : 0 ≤ x ∧ x ≤ 4294967295) (hn : -9223372036854775808 ≤ n ∧ n ≤ 9223372036854775807) (w : World) : Calls Try.prog 16 #[.int .u32 x, .int .i64 n, .int .i64 k] w fun e w' => e = .returned (.int .u32 v) ∧ w = w' := by
  rw [← hv]; exact field_any x n k h hn w
theorem parity_v (x : Int) (p : Bool) (hp : evenS x.toNat 8 = p) (h : 0 ≤ x ∧ x ≤ 4294967295) (w : World) : Calls Try.prog 18 #[.int .u32 x] w fun e w' => e = .returned (.bool p) ∧ w = w' := by
  rw [← hp]; exact parity_any x h w
theorem signs_walk (x n : Int) (hx : 0 ≤ x ∧ x ≤ 4294967295) (hn : 0 ≤ n ∧ n ≤ 255) (w : World) :
    Calls Try.prog 9 #[.int .u32 x, .int .u8 n] w fun e w' => e = .returned (.bool true) ∧ Below w.heap.size w w' := by
  obtain ⟨j, hj⟩ := Int.eq_ofNat_of_zero_le (show 0 ≤ n % 32 by omega)
  have hj2 : j ≤ 31 := by omega
  have hh : held ((j : Int) + 1) = j + 1 := held_mid (j + 1) (by omega) (by omega)
  obtain ⟨s, hs⟩ : ∃ s, s = sgn (j + 1) x := ⟨_, rfl⟩
  have bs := sgn_bd (j + 1) x (by omega) (by omega)
  have hs2 := sgn_again (j + 1) x (by omega) (by omega)
  rw [← hs] at bs hs2
  have Hs := Lib.hid hs
  have Hs2 := Lib.hid hs2
  have Hh := Lib.hid hh
  clear hs hs2 hh
  obtain ⟨b, hb⟩ : ∃ b, b = IntKind.i8.wrap x := ⟨_, rfl⟩
  have b8 := i8_bd x
  have a8 := i8_again x
  have a12 := sgn12_i8 x
  rw [← hb] at b8 a8 a12
  have A32 := Lib.hid (sgn_all hx)
  have b32 := bd32 x
  have Hb := Lib.hid hb
  have A12 := Lib.hid a12
  clear hb a12
  go_enter Try.func9, Try.ntmps9
  go_wp2_with fail
  refine (known_any _).mono ?_
  rintro e w1 ⟨rfl, hb1⟩
  go_wp2_with fail
  refine (signed_k _ _ _ Hh.out hx _).mono ?_
  rintro e w' ⟨he, rfl⟩
  rw [← Hs.out] at he
  subst he
  go_wp2_with fail
  refine (signed_k _ _ _ Hh.out (by omega) _).mono ?_
  rintro e w' ⟨he, rfl⟩
  rw [Hs2.out] at he
  subst he
  go_wp2_with fail
  refine (sign8_any _ _).mono ?_
  rintro e w' ⟨he, rfl⟩
  rw [← Hb.out] at he
  subst he
  go_wp2_with fail
  refine (sign8_any _ _).mono ?_
  rintro e w' ⟨he, rfl⟩
  rw [a8] at he
  subst he
  go_wp2_with fail
  refine (sign8_any _ _).mono ?_
  rintro e w' ⟨he, rfl⟩
  rw [← Hb.out] at he
  subst he
  go_wp2_with fail
  refine (sign8_any _ _).mono ?_
  rintro e w' ⟨he, rfl⟩
  rw [← Hb.out] at he
  subst he
  go_wp2_with fail
  refine (sign12_any _ (by omega) _).mono ?_
  rintro e w' ⟨he, rfl⟩
  rw [A12.out] at he
  subst he
  go_wp2_with fail
  refine (sign8_any _ _).mono ?_
  rintro e w' ⟨he, rfl⟩
  rw [← Hb.out] at he
  subst he
  go_wp2_with fail
  refine (signed_k _ _ 32 (by decide) hx _).mono ?_
  rintro e w' ⟨he, rfl⟩
  rw [A32.out] at he
  subst he
  go_wp2_with fail
  refine (signed_k _ _ 32 (by decide) hx _).mono ?_
  rintro e w' ⟨he, rfl⟩
  rw [A32.out] at he
  subst he
  go_wp2_with fail
  refine (signed_k _ _ 1 (by decide) hx _).mono ?_
  rintro e w' ⟨rfl, rfl⟩
  go_wp2_with fail
  refine (signed_k _ _ 1 (by decide) hx _).mono ?_
  rintro e w' ⟨rfl, rfl⟩
  go_wp2
  go_ret
  exact ⟨rfl, hb1⟩
set_option maxHeartbeats 1000000 in
set_option maxHeartbeats 600000 in
theorem parts_mid (x m : Int) (k : Nat) (hk : m % 33 = (k : Int)) (h1k : 1 ≤ k) (h2k : k < 32) (hx : 0 ≤ x ∧ x ≤ 4294967295) (hn : 0 ≤ m ∧ m ≤ 255) (w : World) :
    Calls Try.prog 6 #[.int .u32 x, .int .u8 m] w fun e w' => e = .returned (.bool true) ∧ Below w.heap.size w w' := by
  obtain ⟨q, hq⟩ : ∃ q, q = x / 2 ^ k := ⟨_, rfl⟩
  have fr := field_rest k (by omega) hx
  rw [show ((32 - k : Nat) : Int) = 32 - (k : Int) by omega, ← hq] at fr
  have tg := together k (by omega) hx
  have bq : 0 ≤ q ∧ q ≤ 4294967295 := by rw [hq]; exact div_pow_bd k hx
  have Hq := Lib.hid fr
  rw [← hq] at tg
  have c1 : ((k : Int) == 0) = false := by rw [beq_eq_false_iff_ne]; omega
  clear hq fr
  obtain ⟨s, hs⟩ : ∃ s, s = sgn k x := ⟨_, rfl⟩
  obtain ⟨t, ht⟩ : ∃ t, t = x / 2 ^ (k - 1) % 2 := ⟨_, rfl⟩
  obtain ⟨l, hl⟩ : ∃ l, l = x % 2 ^ k := ⟨_, rfl⟩
  obtain ⟨p, hp⟩ : ∃ p, evenS x.toNat 8 = p := ⟨_, rfl⟩
  obtain ⟨y3, h3, b3, p3⟩ := par_x3 hx
  obtain ⟨y1, h1, b1, p1⟩ := par_x1 hx
  rw [hp] at p3 p1
  have bs := sgn_bd k x (by omega) (by omega)
  have bt := bit_bd (x / 2 ^ (k - 1))
  have bl := mod_bd32 k hx
  have f1 := field_sgn x k (by omega) (by omega)
  have f2 := field_low x k (by omega)
  have f3 := field_one x (k - 1) (by omega)
  have hy : s < 0 → (t == 1) = true := fun h => top_yes (by omega) (by omega) ht (hs ▸ h)
  have hno : ¬ s < 0 → (t == 1) = false := fun h => top_no (by omega) (by omega) ht (hs ▸ h)
  rw [← hs] at bs f1
  rw [← ht] at bt f3
  rw [← hl] at bl f1 f2 tg
  have F1 := Lib.hid f1
  have F2 := Lib.hid f2
  have F3 := Lib.hid f3
  have Hs := Lib.hid hs
  have Hl := Lib.hid hl
  have Hp := Lib.hid hp
  have Hp3 := Lib.hid p3
  have Hp1 := Lib.hid p1
  clear f1 f2 f3 hs hl hp p3 p1 ht
  have htop : (t == 1) = decide (s < 0) := by
    by_cases h : s < 0
    · rw [hy h, decide_eq_true h]
    · rw [hno h, decide_eq_false h]
  clear hy hno
  by_cases hneg : s < 0
  all_goals simp only [hneg, decide_true, decide_false] at htop
  all_goals go_enter Try.func6, Try.ntmps6
  all_goals go_wp2_with fail
  all_goals refine (known_any _).mono ?_
  all_goals rintro e w1 ⟨rfl, hb1⟩
  all_goals go_wp2_with fail
  all_goals refine (field_v _ _ _ l F2.out hx (by omega) _).mono ?_
  all_goals rintro e w' ⟨rfl, rfl⟩
  all_goals go_wp2_with fail
  all_goals refine (field_v _ _ _ q Hq.out hx (by omega) _).mono ?_
  all_goals rintro e w' ⟨rfl, rfl⟩
  all_goals go_wp2_with fail
  all_goals refine (signed_k _ _ k (held_mid k (by omega) (by omega)) hx _).mono ?_
  all_goals rintro e w' ⟨he, rfl⟩
  all_goals rw [← Hs.out] at he
  all_goals subst he
  all_goals go_wp2_with fail
  all_goals refine (field_v _ _ _ t (by rw [show (k : Int) - 1 = ((k - 1 : Nat) : Int) by omega]; exact F3.out) hx (by omega) _).mono ?_
  all_goals rintro e w' ⟨rfl, rfl⟩
  all_goals go_wp2_with fail
  all_goals refine (field_v _ _ _ l (by first | exact F1.out | (have h := F1.out; rwa [show s % 4294967296 = s by omega] at h)) (by omega) (by omega) _).mono ?_
  all_goals rintro e w' ⟨rfl, rfl⟩
  all_goals go_wp2_with fail
  all_goals refine (field_v _ _ _ l F2.out hx (by omega) _).mono ?_
  all_goals rintro e w' ⟨rfl, rfl⟩
  all_goals go_wp2_with fail
  all_goals refine (parity_v _ p Hp.out hx _).mono ?_
  all_goals rintro e w' ⟨rfl, rfl⟩
  all_goals go_wp2_with fail
  all_goals refine (parity_v _ p Hp3.out b3 _).mono ?_
  all_goals rintro e w' ⟨rfl, rfl⟩
  all_goals go_wp2_with fail
  all_goals refine (parity_v _ p Hp.out hx _).mono ?_
  all_goals rintro e w' ⟨rfl, rfl⟩
  all_goals go_wp2_with fail
  all_goals refine (parity_v _ (!p) Hp1.out b1 _).mono ?_
  all_goals rintro e w' ⟨rfl, rfl⟩
  all_goals go_wp2_with fail
  all_goals refine (field_v _ _ _ 0 (field_far x hx) hx (by omega) _).mono ?_
  all_goals rintro e w' ⟨rfl, rfl⟩
  all_goals go_wp2_with fail
  all_goals refine (field_v _ _ _ 0 (field_far2 x hx) hx (by omega) _).mono ?_
  all_goals rintro e w' ⟨rfl, rfl⟩
  all_goals go_wp2
  all_goals go_ret
  all_goals exact ⟨ret_bool (by first | rfl | (simp; omega)), hb1⟩
set_option maxHeartbeats 600000 in
theorem parts_zero (x m : Int) (hk : m % 33 = 0) (hx : 0 ≤ x ∧ x ≤ 4294967295) (hn : 0 ≤ m ∧ m ≤ 255) (w : World) :
    Calls Try.prog 6 #[.int .u32 x, .int .u8 m] w fun e w' => e = .returned (.bool true) ∧ Below w.heap.size w w' := by
  have z1 := field_low x 0 (by omega)
  rw [Int.pow_zero, Int.emod_one] at z1
  have z2 := field_low x 32 (by omega)
  rw [show x % 2 ^ 32 = x from Int.emod_eq_of_lt hx.1 (by rw [show (2 : Int) ^ 32 = 4294967296 by decide]; omega)] at z2
  have z3 := together 0 (by omega) hx
  rw [Int.pow_zero, Int.emod_one, Int.ediv_one, Int.mul_one] at z3
  have z4 : x % 4294967296 = x := by omega
  rw [z4] at z3
  have Z1 := Lib.hid z1
  have Z2 := Lib.hid z2
  clear z1 z2 z4
  obtain ⟨s, hs⟩ : ∃ s, s = sgn 1 x := ⟨_, rfl⟩
  obtain ⟨t, ht⟩ : ∃ t, t = x / 2 ^ (1 - 1) % 2 := ⟨_, rfl⟩
  obtain ⟨l, hl⟩ : ∃ l, l = x % 2 ^ 1 := ⟨_, rfl⟩
  obtain ⟨p, hp⟩ : ∃ p, evenS x.toNat 8 = p := ⟨_, rfl⟩
  obtain ⟨y3, h3, b3, p3⟩ := par_x3 hx
  obtain ⟨y1, h1, b1, p1⟩ := par_x1 hx
  rw [hp] at p3 p1
  have bs := sgn_bd 1 x (by omega) (by omega)
  have bt := bit_bd (x / 2 ^ (1 - 1))
  have bl := mod_bd32 1 hx
  have f1 := field_sgn x 1 (by omega) (by omega)
  have f2 := field_low x 1 (by omega)
  have f3 := field_one x (1 - 1) (by omega)
  have hy : s < 0 → (t == 1) = true := fun h => top_yes (by omega) (by omega) ht (hs ▸ h)
  have hno : ¬ s < 0 → (t == 1) = false := fun h => top_no (by omega) (by omega) ht (hs ▸ h)
  rw [← hs] at bs f1
  rw [← ht] at bt f3
  rw [← hl] at bl f1 f2
  have F1 := Lib.hid f1
  have F2 := Lib.hid f2
  have F3 := Lib.hid f3
  have Hs := Lib.hid hs
  have Hl := Lib.hid hl
  have Hp := Lib.hid hp
  have Hp3 := Lib.hid p3
  have Hp1 := Lib.hid p1
  clear f1 f2 f3 hs hl hp p3 p1 ht
  have htop : (t == 1) = decide (s < 0) := by
    by_cases h : s < 0
    · rw [hy h, decide_eq_true h]
    · rw [hno h, decide_eq_false h]
  clear hy hno
  by_cases hneg : s < 0
  all_goals simp only [hneg, decide_true, decide_false] at htop
  all_goals go_enter Try.func6, Try.ntmps6
  all_goals go_wp2_with fail
  all_goals refine (known_any _).mono ?_
  all_goals rintro e w1 ⟨rfl, hb1⟩
  all_goals go_wp2_with fail
  all_goals refine (field_v _ _ _ 0 (by rw [show (0 : Int) = ((0 : Nat) : Int) from rfl]; exact Z1.out) hx (by omega) _).mono ?_
  all_goals rintro e w' ⟨rfl, rfl⟩
  all_goals go_wp2_with fail
  all_goals refine (field_v _ _ _ x Z2.out hx (by omega) _).mono ?_
  all_goals rintro e w' ⟨rfl, rfl⟩
  all_goals go_wp2_with fail
  all_goals refine (signed_k _ _ 1 (by decide) hx _).mono ?_
  all_goals rintro e w' ⟨he, rfl⟩
  all_goals rw [← Hs.out] at he
  all_goals subst he
  all_goals go_wp2_with fail
  all_goals refine (field_v _ _ _ t F3.out hx (by omega) _).mono ?_
  all_goals rintro e w' ⟨rfl, rfl⟩
  all_goals go_wp2_with fail
  all_goals refine (field_v _ _ _ l (by first | exact F1.out | (have h := F1.out; rwa [show s % 4294967296 = s by omega] at h)) (by omega) (by omega) _).mono ?_
  all_goals rintro e w' ⟨rfl, rfl⟩
  all_goals go_wp2_with fail
  all_goals refine (field_v _ _ _ l F2.out hx (by omega) _).mono ?_
  all_goals rintro e w' ⟨rfl, rfl⟩
  all_goals go_wp2_with fail
  all_goals refine (parity_v _ p Hp.out hx _).mono ?_
  all_goals rintro e w' ⟨rfl, rfl⟩
  all_goals go_wp2_with fail
  all_goals refine (parity_v _ p Hp3.out b3 _).mono ?_
  all_goals rintro e w' ⟨rfl, rfl⟩
  all_goals go_wp2_with fail
  all_goals refine (parity_v _ p Hp.out hx _).mono ?_
  all_goals rintro e w' ⟨rfl, rfl⟩
  all_goals go_wp2_with fail
  all_goals refine (parity_v _ (!p) Hp1.out b1 _).mono ?_
  all_goals rintro e w' ⟨rfl, rfl⟩
  all_goals go_wp2_with fail
  all_goals refine (field_v _ _ _ 0 (field_far x hx) hx (by omega) _).mono ?_
  all_goals rintro e w' ⟨rfl, rfl⟩
  all_goals go_wp2_with fail
  all_goals refine (field_v _ _ _ 0 (field_far2 x hx) hx (by omega) _).mono ?_
  all_goals rintro e w' ⟨rfl, rfl⟩
  all_goals go_wp2
  all_goals go_ret
  all_goals exact ⟨ret_bool (by first | rfl | (simp; omega)), hb1⟩
set_option maxHeartbeats 600000 in
theorem parts_all (x m : Int) (hk : m % 33 = 32) (hx : 0 ≤ x ∧ x ≤ 4294967295) (hn : 0 ≤ m ∧ m ≤ 255) (w : World) :
    Calls Try.prog 6 #[.int .u32 x, .int .u8 m] w fun e w' => e = .returned (.bool true) ∧ Below w.heap.size w w' := by
  have z1 := field_at x 32 0 (by omega) (by omega)
  rw [Int.pow_zero, Int.emod_one] at z1
  have z2 := field_low x 32 (by omega)
  rw [show x % 2 ^ 32 = x from Int.emod_eq_of_lt hx.1 (by rw [show (2 : Int) ^ 32 = 4294967296 by decide]; omega)] at z2
  have Z1 := Lib.hid z1
  have Z2 := Lib.hid z2
  clear z1 z2
  obtain ⟨s, hs⟩ : ∃ s, s = sgn 32 x := ⟨_, rfl⟩
  obtain ⟨t, ht⟩ : ∃ t, t = x / 2 ^ (32 - 1) % 2 := ⟨_, rfl⟩
  obtain ⟨l, hl⟩ : ∃ l, l = x % 2 ^ 32 := ⟨_, rfl⟩
  obtain ⟨p, hp⟩ : ∃ p, evenS x.toNat 8 = p := ⟨_, rfl⟩
  obtain ⟨y3, h3, b3, p3⟩ := par_x3 hx
  obtain ⟨y1, h1, b1, p1⟩ := par_x1 hx
  rw [hp] at p3 p1
  have bs := sgn_bd 32 x (by omega) (by omega)
  have bt := bit_bd (x / 2 ^ (32 - 1))
  have bl := mod_bd32 32 hx
  have f1 := field_sgn x 32 (by omega) (by omega)
  have f2 := field_low x 32 (by omega)
  have f3 := field_one x (32 - 1) (by omega)
  have hy : s < 0 → (t == 1) = true := fun h => top_yes (by omega) (by omega) ht (hs ▸ h)
  have hno : ¬ s < 0 → (t == 1) = false := fun h => top_no (by omega) (by omega) ht (hs ▸ h)
  rw [← hs] at bs f1
  rw [← ht] at bt f3
  rw [← hl] at bl f1 f2
  have F1 := Lib.hid f1
  have F2 := Lib.hid f2
  have F3 := Lib.hid f3
  have Hs := Lib.hid hs
  have Hl := Lib.hid hl
  have Hp := Lib.hid hp
  have Hp3 := Lib.hid p3
  have Hp1 := Lib.hid p1
  clear f1 f2 f3 hs hl hp p3 p1 ht
  have htop : (t == 1) = decide (s < 0) := by
    by_cases h : s < 0
    · rw [hy h, decide_eq_true h]
    · rw [hno h, decide_eq_false h]
  clear hy hno
  by_cases hneg : s < 0
  all_goals simp only [hneg, decide_true, decide_false] at htop
  all_goals go_enter Try.func6, Try.ntmps6
  all_goals go_wp2_with fail
  all_goals refine (known_any _).mono ?_
  all_goals rintro e w1 ⟨rfl, hb1⟩
  all_goals go_wp2_with fail
  all_goals refine (field_v _ _ _ x Z2.out hx (by omega) _).mono ?_
  all_goals rintro e w' ⟨rfl, rfl⟩
  all_goals go_wp2_with fail
  all_goals refine (field_v _ _ _ 0 Z1.out hx (by omega) _).mono ?_
  all_goals rintro e w' ⟨rfl, rfl⟩
  all_goals go_wp2_with fail
  all_goals refine (signed_k _ _ 32 (by decide) hx _).mono ?_
  all_goals rintro e w' ⟨he, rfl⟩
  all_goals rw [← Hs.out] at he
  all_goals subst he
  all_goals go_wp2_with fail
  all_goals refine (field_v _ _ _ t F3.out hx (by omega) _).mono ?_
  all_goals rintro e w' ⟨rfl, rfl⟩
  all_goals go_wp2_with fail
  all_goals refine (field_v _ _ _ l (by first | exact F1.out | (have h := F1.out; rwa [show s % 4294967296 = s by omega] at h)) (by omega) (by omega) _).mono ?_
  all_goals rintro e w' ⟨rfl, rfl⟩
  all_goals go_wp2_with fail
  all_goals refine (field_v _ _ _ l F2.out hx (by omega) _).mono ?_
  all_goals rintro e w' ⟨rfl, rfl⟩
  all_goals go_wp2_with fail
  all_goals refine (parity_v _ p Hp.out hx _).mono ?_
  all_goals rintro e w' ⟨rfl, rfl⟩
  all_goals go_wp2_with fail
  all_goals refine (parity_v _ p Hp3.out b3 _).mono ?_
  all_goals rintro e w' ⟨rfl, rfl⟩
  all_goals go_wp2_with fail
  all_goals refine (parity_v _ p Hp.out hx _).mono ?_
  all_goals rintro e w' ⟨rfl, rfl⟩
  all_goals go_wp2_with fail
  all_goals refine (parity_v _ (!p) Hp1.out b1 _).mono ?_
  all_goals rintro e w' ⟨rfl, rfl⟩
  all_goals go_wp2_with fail
  all_goals refine (field_v _ _ _ 0 (field_far x hx) hx (by omega) _).mono ?_
  all_goals rintro e w' ⟨rfl, rfl⟩
  all_goals go_wp2_with fail
  all_goals refine (field_v _ _ _ 0 (field_far2 x hx) hx (by omega) _).mono ?_
  all_goals rintro e w' ⟨rfl, rfl⟩
  all_goals go_wp2
  all_goals go_ret
  all_goals exact ⟨ret_bool (by first | rfl | (simp; omega)), hb1⟩
theorem parts_walk (x n : Int) (hx : 0 ≤ x ∧ x ≤ 4294967295) (hn : 0 ≤ n ∧ n ≤ 255) (w : World) :
    Calls Try.prog 6 #[.int .u32 x, .int .u8 n] w fun e w' => e = .returned (.bool true) ∧ Below w.heap.size w w' := by
  by_cases c0 : n % 33 = 0
  · exact parts_zero x n c0 hx hn w
  by_cases c32 : n % 33 = 32
  · exact parts_all x n c32 hx hn w
  obtain ⟨k, hk⟩ := Int.eq_ofNat_of_zero_le (show 0 ≤ n % 33 by omega)
  exact parts_mid x n k hk (by omega) (by omega) hx hn w
set_option maxHeartbeats 400000 in
theorem long_wpp (a b n : Int) (ha : 0 ≤ a ∧ a ≤ 4294967295) (hb : 0 ≤ b ∧ b ≤ 4294967295) (hn : 0 ≤ n ∧ n ≤ 255) (hsa : 0 ≤ a ∧ a < 2147483648) (hsb : 0 ≤ b ∧ b < 2147483648) (w : World) :
    Calls Try.prog 7 #[.int .u32 a, .int .u32 b, .int .u8 n] w fun e w' => e = .returned (.bool true) ∧ Below w.heap.size w w' := by
  obtain ⟨k, hk⟩ := Int.eq_ofNat_of_zero_le (show 0 ≤ n % 20 by omega)
  have hk2 : k ≤ 19 := by omega
  have bk := long_bd ha hk2
  have qa := div31_no hsa
  have qb := div31_no hsb
  have F1 := Lib.hid (prod_low a b)
  have F2 := Lib.hid (long_pp hsa hsb)
  have bab := mul_bd ha hb
  go_enter Try.func7, Try.ntmps7
  go_wp2_with fail
  refine (known_any _).mono ?_
  rintro e w1 ⟨rfl, hb1⟩
  go_wp2_with fail
  refine (mulU_any _ _ ha (by omega) _).mono ?_
  rintro e w' ⟨rfl, rfl⟩
  go_wp2_with fail
  go_loop [10, 11, 12, 13, 14] (fun s h i t c => ∃ j : Nat, j ≤ k ∧ i = .int .u32 j ∧ s = .int .u32 (a * j % 4294967296) ∧ h = .int .u32 (a * j / 4294967296)) (fun _ _ i _ _ => k - (intOf i).toNat)
  case atStart => exact ⟨0, by omega, rfl, by simp, by simp⟩
  case round =>
    obtain ⟨j, hj, rfl, rfl, rfl⟩ := hrel
    have bj := long_bd (i := j) ha (by omega)
    by_cases hlt : j < k
    · have hs := long_step a j
      have bQ := long_bd (i := j + 1) ha (by omega)
      obtain ⟨Q, hQ⟩ : ∃ Q, Q = a * ((j + 1 : Nat) : Int) := ⟨_, rfl⟩
      rw [← hQ] at hs bQ
      obtain ⟨P, hP⟩ : ∃ P, P = a * (j : Int) := ⟨_, rfl⟩
      rw [← hP] at hs bj
      have hm := long_g1 hs
      by_cases hc : 4294967296 ≤ P % 4294967296 + a
      · obtain ⟨c1, c2⟩ := long_c hs ha hc
        have HQ := Lib.hid hQ
        have C1 := Lib.hid c1
        have C2 := Lib.hid c2
        have HM := Lib.hid hm
        have HP := Lib.hid hP
        clear hQ c1 c2 hm hs hc hP
        rw [← HP.out]
        go_wp2_with fail
        refine (addC_any _ _ _ (by omega) ha _).mono ?_
        rintro e w' ⟨he, rfl⟩
        rw [HM.out, C1.out] at he
        subst he
        go_wp2_with fail
        go_round
        case rel => exact ⟨j + 1, by omega, by go_num, by rw [HQ.out], by rw [← HQ.out, ← C2.out]⟩
        case measure => simp [intOf]; omega
      · obtain ⟨c1, c2⟩ := long_n hs ha hc
        have HQ := Lib.hid hQ
        have C1 := Lib.hid c1
        have C2 := Lib.hid c2
        have HM := Lib.hid hm
        have HP := Lib.hid hP
        clear hQ c1 c2 hm hs hc hP
        rw [← HP.out]
        go_wp2_with fail
        refine (addC_any _ _ _ (by omega) ha _).mono ?_
        rintro e w' ⟨he, rfl⟩
        rw [HM.out, C1.out] at he
        subst he
        go_wp2_with fail
        go_round
        case rel => exact ⟨j + 1, by omega, by go_num, by rw [HQ.out], by rw [← HQ.out, ← C2.out]⟩
        case measure => simp [intOf]; omega
    · obtain rfl : j = k := by omega
      go_wp2_with fail
      refine (mulU_any _ _ ha hb _).mono ?_
      rintro e w' ⟨rfl, rfl⟩
      go_wp2_with fail
      refine (mulS_any _ _ _).mono ?_
      rintro e w' ⟨he, rfl⟩
      rw [F1.out, F2.out] at he
      subst he
      go_wp2
      go_ret
      exact ⟨rfl, hb1⟩
set_option maxHeartbeats 400000 in
theorem long_wnp (a b n : Int) (ha : 0 ≤ a ∧ a ≤ 4294967295) (hb : 0 ≤ b ∧ b ≤ 4294967295) (hn : 0 ≤ n ∧ n ≤ 255) (hsa : 2147483648 ≤ a ∧ a ≤ 4294967295) (hsb : 0 ≤ b ∧ b < 2147483648) (w : World) :
    Calls Try.prog 7 #[.int .u32 a, .int .u32 b, .int .u8 n] w fun e w' => e = .returned (.bool true) ∧ Below w.heap.size w w' := by
  obtain ⟨k, hk⟩ := Int.eq_ofNat_of_zero_le (show 0 ≤ n % 20 by omega)
  have hk2 : k ≤ 19 := by omega
  have bk := long_bd ha hk2
  have qa := div31_yes hsa
  have qb := div31_no hsb
  have F1 := Lib.hid (prod_low a b)
  have F2 := Lib.hid (long_np hsa hsb)
  have bab := mul_bd ha hb
  go_enter Try.func7, Try.ntmps7
  go_wp2_with fail
  refine (known_any _).mono ?_
  rintro e w1 ⟨rfl, hb1⟩
  go_wp2_with fail
  refine (mulU_any _ _ ha (by omega) _).mono ?_
  rintro e w' ⟨rfl, rfl⟩
  go_wp2_with fail
  go_loop [10, 11, 12, 13, 14] (fun s h i t c => ∃ j : Nat, j ≤ k ∧ i = .int .u32 j ∧ s = .int .u32 (a * j % 4294967296) ∧ h = .int .u32 (a * j / 4294967296)) (fun _ _ i _ _ => k - (intOf i).toNat)
  case atStart => exact ⟨0, by omega, rfl, by simp, by simp⟩
  case round =>
    obtain ⟨j, hj, rfl, rfl, rfl⟩ := hrel
    have bj := long_bd (i := j) ha (by omega)
    by_cases hlt : j < k
    · have hs := long_step a j
      have bQ := long_bd (i := j + 1) ha (by omega)
      obtain ⟨Q, hQ⟩ : ∃ Q, Q = a * ((j + 1 : Nat) : Int) := ⟨_, rfl⟩
      rw [← hQ] at hs bQ
      obtain ⟨P, hP⟩ : ∃ P, P = a * (j : Int) := ⟨_, rfl⟩
      rw [← hP] at hs bj
      have hm := long_g1 hs
      by_cases hc : 4294967296 ≤ P % 4294967296 + a
      · obtain ⟨c1, c2⟩ := long_c hs ha hc
        have HQ := Lib.hid hQ
        have C1 := Lib.hid c1
        have C2 := Lib.hid c2
        have HM := Lib.hid hm
        have HP := Lib.hid hP
        clear hQ c1 c2 hm hs hc hP
        rw [← HP.out]
        go_wp2_with fail
        refine (addC_any _ _ _ (by omega) ha _).mono ?_
        rintro e w' ⟨he, rfl⟩
        rw [HM.out, C1.out] at he
        subst he
        go_wp2_with fail
        go_round
        case rel => exact ⟨j + 1, by omega, by go_num, by rw [HQ.out], by rw [← HQ.out, ← C2.out]⟩
        case measure => simp [intOf]; omega
      · obtain ⟨c1, c2⟩ := long_n hs ha hc
        have HQ := Lib.hid hQ
        have C1 := Lib.hid c1
        have C2 := Lib.hid c2
        have HM := Lib.hid hm
        have HP := Lib.hid hP
        clear hQ c1 c2 hm hs hc hP
        rw [← HP.out]
        go_wp2_with fail
        refine (addC_any _ _ _ (by omega) ha _).mono ?_
        rintro e w' ⟨he, rfl⟩
        rw [HM.out, C1.out] at he
        subst he
        go_wp2_with fail
        go_round
        case rel => exact ⟨j + 1, by omega, by go_num, by rw [HQ.out], by rw [← HQ.out, ← C2.out]⟩
        case measure => simp [intOf]; omega
    · obtain rfl : j = k := by omega
      go_wp2_with fail
      refine (mulU_any _ _ ha hb _).mono ?_
      rintro e w' ⟨rfl, rfl⟩
      go_wp2_with fail
      refine (mulS_any _ _ _).mono ?_
      rintro e w' ⟨he, rfl⟩
      rw [F1.out, F2.out] at he
      subst he
      go_wp2
      go_ret
      exact ⟨rfl, hb1⟩
set_option maxHeartbeats 400000 in
theorem long_wpn (a b n : Int) (ha : 0 ≤ a ∧ a ≤ 4294967295) (hb : 0 ≤ b ∧ b ≤ 4294967295) (hn : 0 ≤ n ∧ n ≤ 255) (hsa : 0 ≤ a ∧ a < 2147483648) (hsb : 2147483648 ≤ b ∧ b ≤ 4294967295) (w : World) :
    Calls Try.prog 7 #[.int .u32 a, .int .u32 b, .int .u8 n] w fun e w' => e = .returned (.bool true) ∧ Below w.heap.size w w' := by
  obtain ⟨k, hk⟩ := Int.eq_ofNat_of_zero_le (show 0 ≤ n % 20 by omega)
  have hk2 : k ≤ 19 := by omega
  have bk := long_bd ha hk2
  have qa := div31_no hsa
  have qb := div31_yes hsb
  have F1 := Lib.hid (prod_low a b)
  have F2 := Lib.hid (long_pn hsa hsb)
  have bab := mul_bd ha hb
  go_enter Try.func7, Try.ntmps7
  go_wp2_with fail
  refine (known_any _).mono ?_
  rintro e w1 ⟨rfl, hb1⟩
  go_wp2_with fail
  refine (mulU_any _ _ ha (by omega) _).mono ?_
  rintro e w' ⟨rfl, rfl⟩
  go_wp2_with fail
  go_loop [10, 11, 12, 13, 14] (fun s h i t c => ∃ j : Nat, j ≤ k ∧ i = .int .u32 j ∧ s = .int .u32 (a * j % 4294967296) ∧ h = .int .u32 (a * j / 4294967296)) (fun _ _ i _ _ => k - (intOf i).toNat)
  case atStart => exact ⟨0, by omega, rfl, by simp, by simp⟩
  case round =>
    obtain ⟨j, hj, rfl, rfl, rfl⟩ := hrel
    have bj := long_bd (i := j) ha (by omega)
    by_cases hlt : j < k
    · have hs := long_step a j
      have bQ := long_bd (i := j + 1) ha (by omega)
      obtain ⟨Q, hQ⟩ : ∃ Q, Q = a * ((j + 1 : Nat) : Int) := ⟨_, rfl⟩
      rw [← hQ] at hs bQ
      obtain ⟨P, hP⟩ : ∃ P, P = a * (j : Int) := ⟨_, rfl⟩
      rw [← hP] at hs bj
      have hm := long_g1 hs
      by_cases hc : 4294967296 ≤ P % 4294967296 + a
      · obtain ⟨c1, c2⟩ := long_c hs ha hc
        have HQ := Lib.hid hQ
        have C1 := Lib.hid c1
        have C2 := Lib.hid c2
        have HM := Lib.hid hm
        have HP := Lib.hid hP
        clear hQ c1 c2 hm hs hc hP
        rw [← HP.out]
        go_wp2_with fail
        refine (addC_any _ _ _ (by omega) ha _).mono ?_
        rintro e w' ⟨he, rfl⟩
        rw [HM.out, C1.out] at he
        subst he
        go_wp2_with fail
        go_round
        case rel => exact ⟨j + 1, by omega, by go_num, by rw [HQ.out], by rw [← HQ.out, ← C2.out]⟩
        case measure => simp [intOf]; omega
      · obtain ⟨c1, c2⟩ := long_n hs ha hc
        have HQ := Lib.hid hQ
        have C1 := Lib.hid c1
        have C2 := Lib.hid c2
        have HM := Lib.hid hm
        have HP := Lib.hid hP
        clear hQ c1 c2 hm hs hc hP
        rw [← HP.out]
        go_wp2_with fail
        refine (addC_any _ _ _ (by omega) ha _).mono ?_
        rintro e w' ⟨he, rfl⟩
        rw [HM.out, C1.out] at he
        subst he
        go_wp2_with fail
        go_round
        case rel => exact ⟨j + 1, by omega, by go_num, by rw [HQ.out], by rw [← HQ.out, ← C2.out]⟩
        case measure => simp [intOf]; omega
    · obtain rfl : j = k := by omega
      go_wp2_with fail
      refine (mulU_any _ _ ha hb _).mono ?_
      rintro e w' ⟨rfl, rfl⟩
      go_wp2_with fail
      refine (mulS_any _ _ _).mono ?_
      rintro e w' ⟨he, rfl⟩
      rw [F1.out, F2.out] at he
      subst he
      go_wp2
      go_ret
      exact ⟨rfl, hb1⟩
set_option maxHeartbeats 400000 in
theorem long_wnn (a b n : Int) (ha : 0 ≤ a ∧ a ≤ 4294967295) (hb : 0 ≤ b ∧ b ≤ 4294967295) (hn : 0 ≤ n ∧ n ≤ 255) (hsa : 2147483648 ≤ a ∧ a ≤ 4294967295) (hsb : 2147483648 ≤ b ∧ b ≤ 4294967295) (w : World) :
    Calls Try.prog 7 #[.int .u32 a, .int .u32 b, .int .u8 n] w fun e w' => e = .returned (.bool true) ∧ Below w.heap.size w w' := by
  obtain ⟨k, hk⟩ := Int.eq_ofNat_of_zero_le (show 0 ≤ n % 20 by omega)
  have hk2 : k ≤ 19 := by omega
  have bk := long_bd ha hk2
  have qa := div31_yes hsa
  have qb := div31_yes hsb
  have F1 := Lib.hid (prod_low a b)
  have F2 := Lib.hid (long_nn hsa hsb)
  have bab := mul_bd ha hb
  go_enter Try.func7, Try.ntmps7
  go_wp2_with fail
  refine (known_any _).mono ?_
  rintro e w1 ⟨rfl, hb1⟩
  go_wp2_with fail
  refine (mulU_any _ _ ha (by omega) _).mono ?_
  rintro e w' ⟨rfl, rfl⟩
  go_wp2_with fail
  go_loop [10, 11, 12, 13, 14] (fun s h i t c => ∃ j : Nat, j ≤ k ∧ i = .int .u32 j ∧ s = .int .u32 (a * j % 4294967296) ∧ h = .int .u32 (a * j / 4294967296)) (fun _ _ i _ _ => k - (intOf i).toNat)
  case atStart => exact ⟨0, by omega, rfl, by simp, by simp⟩
  case round =>
    obtain ⟨j, hj, rfl, rfl, rfl⟩ := hrel
    have bj := long_bd (i := j) ha (by omega)
    by_cases hlt : j < k
    · have hs := long_step a j
      have bQ := long_bd (i := j + 1) ha (by omega)
      obtain ⟨Q, hQ⟩ : ∃ Q, Q = a * ((j + 1 : Nat) : Int) := ⟨_, rfl⟩
      rw [← hQ] at hs bQ
      obtain ⟨P, hP⟩ : ∃ P, P = a * (j : Int) := ⟨_, rfl⟩
      rw [← hP] at hs bj
      have hm := long_g1 hs
      by_cases hc : 4294967296 ≤ P % 4294967296 + a
      · obtain ⟨c1, c2⟩ := long_c hs ha hc
        have HQ := Lib.hid hQ
        have C1 := Lib.hid c1
        have C2 := Lib.hid c2
        have HM := Lib.hid hm
        have HP := Lib.hid hP
        clear hQ c1 c2 hm hs hc hP
        rw [← HP.out]
        go_wp2_with fail
        refine (addC_any _ _ _ (by omega) ha _).mono ?_
        rintro e w' ⟨he, rfl⟩
        rw [HM.out, C1.out] at he
        subst he
        go_wp2_with fail
        go_round
        case rel => exact ⟨j + 1, by omega, by go_num, by rw [HQ.out], by rw [← HQ.out, ← C2.out]⟩
        case measure => simp [intOf]; omega
      · obtain ⟨c1, c2⟩ := long_n hs ha hc
        have HQ := Lib.hid hQ
        have C1 := Lib.hid c1
        have C2 := Lib.hid c2
        have HM := Lib.hid hm
        have HP := Lib.hid hP
        clear hQ c1 c2 hm hs hc hP
        rw [← HP.out]
        go_wp2_with fail
        refine (addC_any _ _ _ (by omega) ha _).mono ?_
        rintro e w' ⟨he, rfl⟩
        rw [HM.out, C1.out] at he
        subst he
        go_wp2_with fail
        go_round
        case rel => exact ⟨j + 1, by omega, by go_num, by rw [HQ.out], by rw [← HQ.out, ← C2.out]⟩
        case measure => simp [intOf]; omega
    · obtain rfl : j = k := by omega
      go_wp2_with fail
      refine (mulU_any _ _ ha hb _).mono ?_
      rintro e w' ⟨rfl, rfl⟩
      go_wp2_with fail
      refine (mulS_any _ _ _).mono ?_
      rintro e w' ⟨he, rfl⟩
      rw [F1.out, F2.out] at he
      subst he
      go_wp2
      go_ret
      exact ⟨rfl, hb1⟩
theorem long_walk (a b n : Int) (ha : 0 ≤ a ∧ a ≤ 4294967295) (hb : 0 ≤ b ∧ b ≤ 4294967295) (hn : 0 ≤ n ∧ n ≤ 255) (w : World) :
    Calls Try.prog 7 #[.int .u32 a, .int .u32 b, .int .u8 n] w fun e w' => e = .returned (.bool true) ∧ Below w.heap.size w w' := by
  by_cases c1 : a < 2147483648
  · by_cases c2 : b < 2147483648
    · exact long_wpp a b n ha hb hn ⟨ha.1, c1⟩ ⟨hb.1, c2⟩ w
    · exact long_wpn a b n ha hb hn ⟨ha.1, c1⟩ (by omega) w
  · by_cases c2 : b < 2147483648
    · exact long_wnp a b n ha hb hn (by omega) ⟨hb.1, c2⟩ w
    · exact long_wnn a b n ha hb hn (by omega) (by omega) w
theorem heap_new2 (w : World) (o p : Obj) : ((w.alloc o).alloc p).drew.heap[w.heap.size + 1]? = some p := by
  show ((w.heap.push o).push p)[w.heap.size + 1]? = some p
  have h := alloc_new (w.alloc o) p
  rwa [World.size_alloc] at h
theorem word_v (a : Option Addr) (len cap : Nat) (zs : List Int) (v : Int) (hv : wordS zs = v) (w : World) (h : Row8 w a len zs) : Calls Try.prog 20 #[.slice a len cap] w fun e w' => e = .returned (.int .u32 v) ∧ Below w.heap.size w w' := by
  rw [← hv]; exact word_any a len cap zs w h
set_option maxHeartbeats 400000 in
theorem bytes_0 (x n : Int) (hk : n % 5 = 0) (hx : 0 ≤ x ∧ x ≤ 4294967295) (hn : 0 ≤ n ∧ n ≤ 255) (w : World) :
    Calls Try.prog 8 #[.int .u32 x, .int .u8 n] w fun e w' => e = .returned (.bool true) ∧ Below w.heap.size w w' := by
  have hz : ∀ z ∈ [x % 256, x / 256 % 256, x / 65536 % 256, x / 16777216], 0 ≤ z ∧ z ≤ 255 := by
    intro z h; simp at h; omega
  obtain ⟨htog1, htog2⟩ := bytes_tog0 hx
  have hcap : ¬ 281474976710656 < Builtin.nextslicecap 7 4 * Try.t5.bytes := by decide +kernel
  go_enter Try.func8, Try.ntmps8
  go_wp2_with fail
  refine (known_any _).mono ?_
  rintro e w1 ⟨rfl, hb1⟩
  have hs1 := hb1.size
  go_wp2_with (first | (go_at_call 11; refine (bytes_any _ (by omega) _).mono ?_; rintro e w' ⟨rfl, rfl⟩))
  have hrow : ∀ o n, o + n ≤ 4 → Row8 ((w1.alloc (.cells #[.int .u8 (x % 256), .int .u8 (x / 256 % 256), .int .u8 (x / 65536 % 256), .int .u8 (x / 16777216)] 25)).alloc (.cells #[.int .u8 (x % 256), .int .u8 (x / 256 % 256), .int .u8 (x / 65536 % 256), .int .u8 (x / 16777216)] 25)) (some ⟨w1.heap.size + 1, o, none⟩) n (([x % 256, x / 256 % 256, x / 65536 % 256, x / 16777216].drop o).take n) :=
    fun o n h => row_cut (by rw [show w1.heap.size + 1 = (w1.alloc (.cells #[.int .u8 (x % 256), .int .u8 (x / 256 % 256), .int .u8 (x / 65536 % 256), .int .u8 (x / 16777216)] 25)).heap.size by simp]; exact alloc_new _ _) (by simp) hz o n h
  have Hrow := Lib.hid hrow
  clear hrow
  refine (word_v _ _ _ _ (0) (wordS_cuts x hx).2.2.2.2.2.1 _ (Hrow.out 0 0 (by omega))).mono ?_
  rintro e w2 ⟨rfl, hb2⟩
  go_wp2_with fail
  refine (word_v _ _ _ _ (x) (wordS_cuts x hx).1 _ ((Hrow.out 0 4 (by omega)).below hb2)).mono ?_
  rintro e w3 ⟨rfl, hb3⟩
  have hr4 := ((Hrow.out 0 4 (by omega)).below hb2).below hb3
  have hs2 : w1.heap.size + 2 ≤ w2.heap.size := by have h2 := hb2.size; simp at h2; omega
  have hs3 : w1.heap.size + 1 < w3.heap.size := by have h2 := hb2.size; have h3 := hb3.size; simp at h2; omega
  obtain ⟨_, _, hr⟩ := hr4
  rcases hr with hr | ⟨b, off, he, _, hcell⟩
  · simp at hr
  simp only [Option.some.injEq, Addr.mk.injEq] at he
  obtain ⟨rfl, rfl, _⟩ := he
  have k0 := hcell 0 (by omega)
  have k1 := hcell 1 (by omega)
  have k2 := hcell 2 (by omega)
  have k3 := hcell 3 (by omega)
  clear hcell
  simp only [List.drop_zero, List.take, List.getD_cons_zero, List.getD_cons_succ, Nat.zero_add] at k0 k1 k2 k3
  have hbf : Below w.heap.size w w3 := (((hb1.alloc hs1 _).alloc (by simp; omega) _).trans (hb2.mono (by simp; omega))).trans (hb3.mono (by omega))
  go_wp2_with fail
  refine (word_v _ _ _ _ x (wordS_cuts x hx).2.1 _ (row_seven (heap_new2 _ _ _) (by simp) (by intro z h; simp at h; omega))).mono ?_
  rintro e w4 ⟨rfl, hb4⟩
  have hb4' : Below w.heap.size w3 w4 := ((((Below.refl _ _).alloc (by omega) _).alloc (by simp; omega) _).drew).trans (hb4.mono (by simp; omega))
  go_wp2_with fail
  refine (word_v none 0 0 [] 0 (wordS_cuts x hx).2.2.2.2.2.1 _ ⟨rfl, by simp, .inl rfl⟩).mono ?_
  rintro e w5 ⟨rfl, hb5⟩
  go_wp2
  go_ret
  exact ⟨rfl, (hbf.trans hb4').trans (hb5.mono (by have h1 := (hbf.trans hb4').size; omega))⟩
set_option maxHeartbeats 400000 in
theorem bytes_1 (x n : Int) (hk : n % 5 = 1) (hx : 0 ≤ x ∧ x ≤ 4294967295) (hn : 0 ≤ n ∧ n ≤ 255) (w : World) :
    Calls Try.prog 8 #[.int .u32 x, .int .u8 n] w fun e w' => e = .returned (.bool true) ∧ Below w.heap.size w w' := by
  have hz : ∀ z ∈ [x % 256, x / 256 % 256, x / 65536 % 256, x / 16777216], 0 ≤ z ∧ z ≤ 255 := by
    intro z h; simp at h; omega
  obtain ⟨htog1, htog2⟩ := bytes_tog (x := x) 8 256 (by decide) (by decide) hx
  have hcap : ¬ 281474976710656 < Builtin.nextslicecap 7 4 * Try.t5.bytes := by decide +kernel
  go_enter Try.func8, Try.ntmps8
  go_wp2_with fail
  refine (known_any _).mono ?_
  rintro e w1 ⟨rfl, hb1⟩
  have hs1 := hb1.size
  go_wp2_with (first | (go_at_call 11; refine (bytes_any _ (by omega) _).mono ?_; rintro e w' ⟨rfl, rfl⟩))
  have hrow : ∀ o n, o + n ≤ 4 → Row8 ((w1.alloc (.cells #[.int .u8 (x % 256), .int .u8 (x / 256 % 256), .int .u8 (x / 65536 % 256), .int .u8 (x / 16777216)] 25)).alloc (.cells #[.int .u8 (x % 256), .int .u8 (x / 256 % 256), .int .u8 (x / 65536 % 256), .int .u8 (x / 16777216)] 25)) (some ⟨w1.heap.size + 1, o, none⟩) n (([x % 256, x / 256 % 256, x / 65536 % 256, x / 16777216].drop o).take n) :=
    fun o n h => row_cut (by rw [show w1.heap.size + 1 = (w1.alloc (.cells #[.int .u8 (x % 256), .int .u8 (x / 256 % 256), .int .u8 (x / 65536 % 256), .int .u8 (x / 16777216)] 25)).heap.size by simp]; exact alloc_new _ _) (by simp) hz o n h
  have Hrow := Lib.hid hrow
  clear hrow
  refine (word_v _ _ _ _ (x % 256) (wordS_cuts x hx).2.2.2.2.1 _ (Hrow.out 0 1 (by omega))).mono ?_
  rintro e w2 ⟨rfl, hb2⟩
  go_wp2_with fail
  refine (word_v _ _ _ _ (x / 256) (wordS_cuts x hx).2.2.2.2.2.2.1 _ ((Hrow.out 1 3 (by omega)).below hb2)).mono ?_
  rintro e w3 ⟨rfl, hb3⟩
  have hr4 := ((Hrow.out 0 4 (by omega)).below hb2).below hb3
  have hs2 : w1.heap.size + 2 ≤ w2.heap.size := by have h2 := hb2.size; simp at h2; omega
  have hs3 : w1.heap.size + 1 < w3.heap.size := by have h2 := hb2.size; have h3 := hb3.size; simp at h2; omega
  obtain ⟨_, _, hr⟩ := hr4
  rcases hr with hr | ⟨b, off, he, _, hcell⟩
  · simp at hr
  simp only [Option.some.injEq, Addr.mk.injEq] at he
  obtain ⟨rfl, rfl, _⟩ := he
  have k0 := hcell 0 (by omega)
  have k1 := hcell 1 (by omega)
  have k2 := hcell 2 (by omega)
  have k3 := hcell 3 (by omega)
  clear hcell
  simp only [List.drop_zero, List.take, List.getD_cons_zero, List.getD_cons_succ, Nat.zero_add] at k0 k1 k2 k3
  have hbf : Below w.heap.size w w3 := (((hb1.alloc hs1 _).alloc (by simp; omega) _).trans (hb2.mono (by simp; omega))).trans (hb3.mono (by omega))
  go_wp2_with fail
  refine (word_v _ _ _ _ x (wordS_cuts x hx).2.1 _ (row_seven (heap_new2 _ _ _) (by simp) (by intro z h; simp at h; omega))).mono ?_
  rintro e w4 ⟨rfl, hb4⟩
  have hb4' : Below w.heap.size w3 w4 := ((((Below.refl _ _).alloc (by omega) _).alloc (by simp; omega) _).drew).trans (hb4.mono (by simp; omega))
  go_wp2_with fail
  refine (word_v none 0 0 [] 0 (wordS_cuts x hx).2.2.2.2.2.1 _ ⟨rfl, by simp, .inl rfl⟩).mono ?_
  rintro e w5 ⟨rfl, hb5⟩
  go_wp2
  go_ret
  exact ⟨rfl, (hbf.trans hb4').trans (hb5.mono (by have h1 := (hbf.trans hb4').size; omega))⟩
set_option maxHeartbeats 400000 in
theorem bytes_2 (x n : Int) (hk : n % 5 = 2) (hx : 0 ≤ x ∧ x ≤ 4294967295) (hn : 0 ≤ n ∧ n ≤ 255) (w : World) :
    Calls Try.prog 8 #[.int .u32 x, .int .u8 n] w fun e w' => e = .returned (.bool true) ∧ Below w.heap.size w w' := by
  have hz : ∀ z ∈ [x % 256, x / 256 % 256, x / 65536 % 256, x / 16777216], 0 ≤ z ∧ z ≤ 255 := by
    intro z h; simp at h; omega
  obtain ⟨htog1, htog2⟩ := bytes_tog (x := x) 16 65536 (by decide) (by decide) hx
  have hcap : ¬ 281474976710656 < Builtin.nextslicecap 7 4 * Try.t5.bytes := by decide +kernel
  go_enter Try.func8, Try.ntmps8
  go_wp2_with fail
  refine (known_any _).mono ?_
  rintro e w1 ⟨rfl, hb1⟩
  have hs1 := hb1.size
  go_wp2_with (first | (go_at_call 11; refine (bytes_any _ (by omega) _).mono ?_; rintro e w' ⟨rfl, rfl⟩))
  have hrow : ∀ o n, o + n ≤ 4 → Row8 ((w1.alloc (.cells #[.int .u8 (x % 256), .int .u8 (x / 256 % 256), .int .u8 (x / 65536 % 256), .int .u8 (x / 16777216)] 25)).alloc (.cells #[.int .u8 (x % 256), .int .u8 (x / 256 % 256), .int .u8 (x / 65536 % 256), .int .u8 (x / 16777216)] 25)) (some ⟨w1.heap.size + 1, o, none⟩) n (([x % 256, x / 256 % 256, x / 65536 % 256, x / 16777216].drop o).take n) :=
    fun o n h => row_cut (by rw [show w1.heap.size + 1 = (w1.alloc (.cells #[.int .u8 (x % 256), .int .u8 (x / 256 % 256), .int .u8 (x / 65536 % 256), .int .u8 (x / 16777216)] 25)).heap.size by simp]; exact alloc_new _ _) (by simp) hz o n h
  have Hrow := Lib.hid hrow
  clear hrow
  refine (word_v _ _ _ _ (x % 65536) (wordS_cuts x hx).2.2.2.1 _ (Hrow.out 0 2 (by omega))).mono ?_
  rintro e w2 ⟨rfl, hb2⟩
  go_wp2_with fail
  refine (word_v _ _ _ _ (x / 65536) (wordS_cuts x hx).2.2.2.2.2.2.2.1 _ ((Hrow.out 2 2 (by omega)).below hb2)).mono ?_
  rintro e w3 ⟨rfl, hb3⟩
  have hr4 := ((Hrow.out 0 4 (by omega)).below hb2).below hb3
  have hs2 : w1.heap.size + 2 ≤ w2.heap.size := by have h2 := hb2.size; simp at h2; omega
  have hs3 : w1.heap.size + 1 < w3.heap.size := by have h2 := hb2.size; have h3 := hb3.size; simp at h2; omega
  obtain ⟨_, _, hr⟩ := hr4
  rcases hr with hr | ⟨b, off, he, _, hcell⟩
  · simp at hr
  simp only [Option.some.injEq, Addr.mk.injEq] at he
  obtain ⟨rfl, rfl, _⟩ := he
  have k0 := hcell 0 (by omega)
  have k1 := hcell 1 (by omega)
  have k2 := hcell 2 (by omega)
  have k3 := hcell 3 (by omega)
  clear hcell
  simp only [List.drop_zero, List.take, List.getD_cons_zero, List.getD_cons_succ, Nat.zero_add] at k0 k1 k2 k3
  have hbf : Below w.heap.size w w3 := (((hb1.alloc hs1 _).alloc (by simp; omega) _).trans (hb2.mono (by simp; omega))).trans (hb3.mono (by omega))
  go_wp2_with fail
  refine (word_v _ _ _ _ x (wordS_cuts x hx).2.1 _ (row_seven (heap_new2 _ _ _) (by simp) (by intro z h; simp at h; omega))).mono ?_
  rintro e w4 ⟨rfl, hb4⟩
  have hb4' : Below w.heap.size w3 w4 := ((((Below.refl _ _).alloc (by omega) _).alloc (by simp; omega) _).drew).trans (hb4.mono (by simp; omega))
  go_wp2_with fail
  refine (word_v none 0 0 [] 0 (wordS_cuts x hx).2.2.2.2.2.1 _ ⟨rfl, by simp, .inl rfl⟩).mono ?_
  rintro e w5 ⟨rfl, hb5⟩
  go_wp2
  go_ret
  exact ⟨rfl, (hbf.trans hb4').trans (hb5.mono (by have h1 := (hbf.trans hb4').size; omega))⟩
set_option maxHeartbeats 400000 in
theorem bytes_3 (x n : Int) (hk : n % 5 = 3) (hx : 0 ≤ x ∧ x ≤ 4294967295) (hn : 0 ≤ n ∧ n ≤ 255) (w : World) :
    Calls Try.prog 8 #[.int .u32 x, .int .u8 n] w fun e w' => e = .returned (.bool true) ∧ Below w.heap.size w w' := by
  have hz : ∀ z ∈ [x % 256, x / 256 % 256, x / 65536 % 256, x / 16777216], 0 ≤ z ∧ z ≤ 255 := by
    intro z h; simp at h; omega
  obtain ⟨htog1, htog2⟩ := bytes_tog (x := x) 24 16777216 (by decide) (by decide) hx
  have hcap : ¬ 281474976710656 < Builtin.nextslicecap 7 4 * Try.t5.bytes := by decide +kernel
  go_enter Try.func8, Try.ntmps8
  go_wp2_with fail
  refine (known_any _).mono ?_
  rintro e w1 ⟨rfl, hb1⟩
  have hs1 := hb1.size
  go_wp2_with (first | (go_at_call 11; refine (bytes_any _ (by omega) _).mono ?_; rintro e w' ⟨rfl, rfl⟩))
  have hrow : ∀ o n, o + n ≤ 4 → Row8 ((w1.alloc (.cells #[.int .u8 (x % 256), .int .u8 (x / 256 % 256), .int .u8 (x / 65536 % 256), .int .u8 (x / 16777216)] 25)).alloc (.cells #[.int .u8 (x % 256), .int .u8 (x / 256 % 256), .int .u8 (x / 65536 % 256), .int .u8 (x / 16777216)] 25)) (some ⟨w1.heap.size + 1, o, none⟩) n (([x % 256, x / 256 % 256, x / 65536 % 256, x / 16777216].drop o).take n) :=
    fun o n h => row_cut (by rw [show w1.heap.size + 1 = (w1.alloc (.cells #[.int .u8 (x % 256), .int .u8 (x / 256 % 256), .int .u8 (x / 65536 % 256), .int .u8 (x / 16777216)] 25)).heap.size by simp]; exact alloc_new _ _) (by simp) hz o n h
  have Hrow := Lib.hid hrow
  clear hrow
  refine (word_v _ _ _ _ (x % 16777216) (wordS_cuts x hx).2.2.1 _ (Hrow.out 0 3 (by omega))).mono ?_
  rintro e w2 ⟨rfl, hb2⟩
  go_wp2_with fail
  refine (word_v _ _ _ _ (x / 16777216) (wordS_cuts x hx).2.2.2.2.2.2.2.2 _ ((Hrow.out 3 1 (by omega)).below hb2)).mono ?_
  rintro e w3 ⟨rfl, hb3⟩
  have hr4 := ((Hrow.out 0 4 (by omega)).below hb2).below hb3
  have hs2 : w1.heap.size + 2 ≤ w2.heap.size := by have h2 := hb2.size; simp at h2; omega
  have hs3 : w1.heap.size + 1 < w3.heap.size := by have h2 := hb2.size; have h3 := hb3.size; simp at h2; omega
  obtain ⟨_, _, hr⟩ := hr4
  rcases hr with hr | ⟨b, off, he, _, hcell⟩
  · simp at hr
  simp only [Option.some.injEq, Addr.mk.injEq] at he
  obtain ⟨rfl, rfl, _⟩ := he
  have k0 := hcell 0 (by omega)
  have k1 := hcell 1 (by omega)
  have k2 := hcell 2 (by omega)
  have k3 := hcell 3 (by omega)
  clear hcell
  simp only [List.drop_zero, List.take, List.getD_cons_zero, List.getD_cons_succ, Nat.zero_add] at k0 k1 k2 k3
  have hbf : Below w.heap.size w w3 := (((hb1.alloc hs1 _).alloc (by simp; omega) _).trans (hb2.mono (by simp; omega))).trans (hb3.mono (by omega))
  go_wp2_with fail
  refine (word_v _ _ _ _ x (wordS_cuts x hx).2.1 _ (row_seven (heap_new2 _ _ _) (by simp) (by intro z h; simp at h; omega))).mono ?_
  rintro e w4 ⟨rfl, hb4⟩
  have hb4' : Below w.heap.size w3 w4 := ((((Below.refl _ _).alloc (by omega) _).alloc (by simp; omega) _).drew).trans (hb4.mono (by simp; omega))
  go_wp2_with fail
  refine (word_v none 0 0 [] 0 (wordS_cuts x hx).2.2.2.2.2.1 _ ⟨rfl, by simp, .inl rfl⟩).mono ?_
  rintro e w5 ⟨rfl, hb5⟩
  go_wp2
  go_ret
  exact ⟨rfl, (hbf.trans hb4').trans (hb5.mono (by have h1 := (hbf.trans hb4').size; omega))⟩
set_option maxHeartbeats 400000 in
theorem bytes_4 (x n : Int) (hk : n % 5 = 4) (hx : 0 ≤ x ∧ x ≤ 4294967295) (hn : 0 ≤ n ∧ n ≤ 255) (w : World) :
    Calls Try.prog 8 #[.int .u32 x, .int .u8 n] w fun e w' => e = .returned (.bool true) ∧ Below w.heap.size w w' := by
  have hz : ∀ z ∈ [x % 256, x / 256 % 256, x / 65536 % 256, x / 16777216], 0 ≤ z ∧ z ≤ 255 := by
    intro z h; simp at h; omega
  obtain ⟨htog1, htog2⟩ := bytes_tog0 hx
  have hcap : ¬ 281474976710656 < Builtin.nextslicecap 7 4 * Try.t5.bytes := by decide +kernel
  go_enter Try.func8, Try.ntmps8
  go_wp2_with fail
  refine (known_any _).mono ?_
  rintro e w1 ⟨rfl, hb1⟩
  have hs1 := hb1.size
  go_wp2_with (first | (go_at_call 11; refine (bytes_any _ (by omega) _).mono ?_; rintro e w' ⟨rfl, rfl⟩))
  have hrow : ∀ o n, o + n ≤ 4 → Row8 ((w1.alloc (.cells #[.int .u8 (x % 256), .int .u8 (x / 256 % 256), .int .u8 (x / 65536 % 256), .int .u8 (x / 16777216)] 25)).alloc (.cells #[.int .u8 (x % 256), .int .u8 (x / 256 % 256), .int .u8 (x / 65536 % 256), .int .u8 (x / 16777216)] 25)) (some ⟨w1.heap.size + 1, o, none⟩) n (([x % 256, x / 256 % 256, x / 65536 % 256, x / 16777216].drop o).take n) :=
    fun o n h => row_cut (by rw [show w1.heap.size + 1 = (w1.alloc (.cells #[.int .u8 (x % 256), .int .u8 (x / 256 % 256), .int .u8 (x / 65536 % 256), .int .u8 (x / 16777216)] 25)).heap.size by simp]; exact alloc_new _ _) (by simp) hz o n h
  have Hrow := Lib.hid hrow
  clear hrow
  refine (word_v _ _ _ _ (x) (wordS_cuts x hx).1 _ (Hrow.out 0 4 (by omega))).mono ?_
  rintro e w2 ⟨rfl, hb2⟩
  have hr4 := ((Hrow.out 0 4 (by omega)).below hb2)
  have hs2 : w1.heap.size + 2 ≤ w2.heap.size := by have h2 := hb2.size; simp at h2; omega
  have hs3 : w1.heap.size + 1 < w2.heap.size := by have h2 := hb2.size; simp at h2; omega
  obtain ⟨_, _, hr⟩ := hr4
  rcases hr with hr | ⟨b, off, he, _, hcell⟩
  · simp at hr
  simp only [Option.some.injEq, Addr.mk.injEq] at he
  obtain ⟨rfl, rfl, _⟩ := he
  have k0 := hcell 0 (by omega)
  have k1 := hcell 1 (by omega)
  have k2 := hcell 2 (by omega)
  have k3 := hcell 3 (by omega)
  clear hcell
  simp only [List.drop_zero, List.take, List.getD_cons_zero, List.getD_cons_succ, Nat.zero_add] at k0 k1 k2 k3
  have hbf : Below w.heap.size w w2 := (((hb1.alloc hs1 _).alloc (by simp; omega) _).trans (hb2.mono (by simp; omega)))
  go_wp2_with fail
  refine (word_v _ _ _ _ x (wordS_cuts x hx).2.1 _ (row_seven (heap_new2 _ _ _) (by simp) (by intro z h; simp at h; omega))).mono ?_
  rintro e w4 ⟨rfl, hb4⟩
  have hb4' : Below w.heap.size w2 w4 := ((((Below.refl _ _).alloc (by omega) _).alloc (by simp; omega) _).drew).trans (hb4.mono (by simp; omega))
  go_wp2_with fail
  refine (word_v none 0 0 [] 0 (wordS_cuts x hx).2.2.2.2.2.1 _ ⟨rfl, by simp, .inl rfl⟩).mono ?_
  rintro e w5 ⟨rfl, hb5⟩
  go_wp2
  go_ret
  exact ⟨rfl, (hbf.trans hb4').trans (hb5.mono (by have h1 := (hbf.trans hb4').size; omega))⟩
theorem bytes_walk (x n : Int) (hx : 0 ≤ x ∧ x ≤ 4294967295) (hn : 0 ≤ n ∧ n ≤ 255) (w : World) :
    Calls Try.prog 8 #[.int .u32 x, .int .u8 n] w fun e w' => e = .returned (.bool true) ∧ Below w.heap.size w w' := by
  have h : n % 5 = 0 ∨ n % 5 = 1 ∨ n % 5 = 2 ∨ n % 5 = 3 ∨ n % 5 = 4 := by omega
  rcases h with h | h | h | h | h
  · exact bytes_0 x n h hx hn w
  · exact bytes_1 x n h hx hn w
  · exact bytes_2 x n h hx hn w
  · exact bytes_3 x n h hx hn w
  · exact bytes_4 x n h hx hn w
theorem tell_walk (x n k : Int) (a : Option Addr) (len cap : Nat) (zs : List Int) (hx : 0 ≤ x ∧ x ≤ 4294967295) (hn : -9223372036854775808 ≤ n ∧ n ≤ 9223372036854775807) (hlen : len ≤ 9223372036854775807) (w : World) (hr : Row8 w a len zs) :
    Calls Try.prog 3 #[.int .u32 x, .int .i64 n, .int .i64 k, .slice a len cap] w fun e w' => e = .returned (.bool true) ∧ Below w.heap.size w w' := by
  by_cases hbig : 100 < (len : Int)
  · go_enter Try.func3, Try.ntmps3
    go_wp2_with fail
    refine (known_any _).mono ?_
    rintro e w1 ⟨rfl, hb1⟩
    go_wp2
    go_ret
    exact ⟨rfl, hb1⟩
  obtain ⟨s8, h8⟩ : ∃ s, s = sgn 8 x := ⟨_, rfl⟩
  obtain ⟨s12, h12⟩ : ∃ s, s = sgn 12 x := ⟨_, rfl⟩
  obtain ⟨sk, hk⟩ : ∃ s, s = sgn (held k) x := ⟨_, rfl⟩
  have e8 := sign8_s x
  rw [← h8] at e8
  have E8 := Lib.hid e8
  have H8 := Lib.hid h8
  have H12 := Lib.hid h12
  have Hk := Lib.hid hk
  clear e8 h8 h12 hk
  have hz : ∀ z ∈ [x % 256, x / 256 % 256, x / 65536 % 256, x / 16777216], 0 ≤ z ∧ z ≤ 255 := by
    intro z h; simp at h; omega
  go_enter Try.func3, Try.ntmps3
  go_wp2_with fail
  refine (known_any _).mono ?_
  rintro e w1 ⟨rfl, hb1⟩
  have hs1 := hb1.size
  have hr1 := hr.below hb1
  go_wp2_with (first | (go_at_call 11; refine (bytes_any _ (by omega) _).mono ?_; rintro e w' ⟨rfl, rfl⟩))
  refine (sign8_any _ _).mono ?_
  rintro e w' ⟨he, rfl⟩
  rw [E8.out] at he
  subst he
  go_wp2_with fail
  refine (rsigned_any _ _ hx _).mono ?_
  rintro e w' ⟨he, rfl⟩
  rw [show held 8 = 8 by decide, ← H8.out] at he
  subst he
  go_wp2_with fail
  refine (sign12_any _ hx _).mono ?_
  rintro e w' ⟨he, rfl⟩
  rw [← H12.out] at he
  subst he
  go_wp2_with fail
  refine (rsigned_any _ _ hx _).mono ?_
  rintro e w' ⟨he, rfl⟩
  rw [show held 12 = 12 by decide, ← H12.out] at he
  subst he
  go_wp2_with fail
  refine (signed_any _ _ hx _).mono ?_
  rintro e w' ⟨he, rfl⟩
  rw [← Hk.out] at he
  subst he
  go_wp2_with fail
  refine (rsigned_any _ _ hx _).mono ?_
  rintro e w' ⟨he, rfl⟩
  rw [← Hk.out] at he
  subst he
  go_wp2_with fail
  refine (field_any _ _ _ hx hn _).mono ?_
  rintro e w' ⟨rfl, rfl⟩
  go_wp2_with fail
  refine (rfield_any _ _ _ hx _).mono ?_
  rintro e w' ⟨rfl, rfl⟩
  go_wp2_with fail
  refine (parity_any _ hx _).mono ?_
  rintro e w' ⟨rfl, rfl⟩
  go_wp2_with fail
  refine (rparity_any _ hx _).mono ?_
  rintro e w' ⟨rfl, rfl⟩
  go_wp2_with fail
  have hB : Below w1.heap.size w1 ((w1.alloc (.cells #[.int .u8 (x % 256), .int .u8 (x / 256 % 256), .int .u8 (x / 65536 % 256), .int .u8 (x / 16777216)] 25)).alloc (.cells #[.int .u8 (x % 256), .int .u8 (x / 256 % 256), .int .u8 (x / 65536 % 256), .int .u8 (x / 16777216)] 25)) := ((Below.refl _ _).alloc (Nat.le_refl _) _).alloc (by simp) _
  refine (word_any _ _ _ zs _ (hr1.below hB)).mono ?_
  rintro e w2 ⟨rfl, hb2⟩
  go_wp2_with fail
  refine (rword_any _ _ _ zs _ ((hr1.below hB).below hb2)).mono ?_
  rintro e w3 ⟨rfl, hb3⟩
  go_wp2_with fail
  have hb23 := hb2.trans (hb3.mono hb2.size)
  have hs3 := hb23.size
  refine (word_v _ _ _ _ x (wordS_cuts x hx).1 _ (row_four (t := 25) (by rw [hb23.block _ (by simp), show w1.heap.size + 1 = (w1.alloc (.cells #[.int .u8 (x % 256), .int .u8 (x / 256 % 256), .int .u8 (x / 65536 % 256), .int .u8 (x / 16777216)] 25)).heap.size by simp]; exact alloc_new _ _) (by simp at hs3; omega) hz)).mono ?_
  rintro e w4 ⟨rfl, hb4⟩
  go_wp2
  go_ret
  have hb5 := (hb1.trans (hB.mono hs1)).trans (hb23.mono (by simp; omega))
  exact ⟨rfl, hb5.trans (hb4.mono hb5.size)⟩
end Go.Proofs.Ytjnoapbamllnpaa
