import Derived.Test.YtmjheiedoihohaaDoorF6
import Derived.Test.YtmjheiedoihohaaDoorM7
import Derived.Test.YtmjheiedoihohaaDoorWf
namespace Go.Proofs.YtmjheiedoihohaaDoor
open Go.RowKit
set_option linter.unusedVariables false
set_option linter.unusedSectionVars false

theorem or_disj (s : Bool) (E f : Nat) (hE : E ≤ 1075) (hf : f < 4503599627370496) (S : Int) (hS : S = if s then 9223372036854775808 else 0) :
    bits .or .u64 (bits .or .u64 S ((E : Int) * 4503599627370496)) (f : Int) = ((Ieee.Format.word D s (E * 4503599627370496 + f) : Nat) : Int) := by
  have e1 : bits .or .u64 S ((E : Int) * 4503599627370496) = (((if s then 2048 + E else E) * 4503599627370496 : Nat) : Int) := by
    rw [show (E : Int) * 4503599627370496 = ((E * 4503599627370496 : Nat) : Int) by omega]
    cases s
    · simp only [Bool.false_eq_true, if_false] at *
      subst hS
      rw [show (0 : Int) = ((0 : Nat) : Int) from rfl, u64_or_nat _ _ (by decide) (by omega), Nat.zero_or]
    · simp only [if_true] at *
      subst hS
      rw [show (9223372036854775808 : Int) = ((9223372036854775808 : Nat) : Int) from rfl, u64_or_nat _ _ (by decide) (by omega)]
      have e3 := Nat.two_pow_add_eq_or_of_lt (i := 63) (show E * 4503599627370496 < 2 ^ 63 by omega) 1
      rw [Nat.mul_one] at e3
      have e4 : 9223372036854775808 ||| E * 4503599627370496 = 9223372036854775808 + E * 4503599627370496 := e3.symm
      have e5 : 9223372036854775808 + E * 4503599627370496 = (2048 + E) * 4503599627370496 := by omega
      exact congrArg (fun x : Nat => (x : Int)) (e4.trans e5)
  rw [e1, u64_or_nat _ _ (by split <;> omega) (by omega)]
  congr 1
  rw [show (if s then 2048 + E else E) * 4503599627370496 = 2 ^ 52 * (if s then 2048 + E else E) from Nat.mul_comm _ _, ← Nat.two_pow_add_eq_or_of_lt (i := 52) hf]
  unfold Ieee.Format.word
  rw [sw]
  cases s <;> simp <;> omega
theorem whole_val (n M E k : Nat) (s : Bool) (hn : 0 < n) (hk : k ≤ 52) (hM : M = n * 2 ^ k) (h1 : 4503599627370496 ≤ M) (h2 : M < 9007199254740992) (hE : E + k = 1075) (S : Int) (hS : S = if s then 9223372036854775808 else 0) (v : Int) (hv : v = if s then -(n : Int) else n) :
    bits .or .u64 (bits .or .u64 S ((E : Int) * 4503599627370496)) (bits .and .u64 (M : Int) 4503599627370495) = ((whN v : Nat) : Int) := by
  have ea : bits .and .u64 (M : Int) 4503599627370495 = ((M - 4503599627370496 : Nat) : Int) := by
    rw [show (4503599627370495 : Int) = ((4503599627370495 : Nat) : Int) from rfl, u64_and_nat _ _ (by omega) (by decide), show 4503599627370495 = 2 ^ 52 - 1 from rfl, Nat.and_two_pow_sub_one_eq_mod]
    have e9 : M % 2 ^ 52 = M - 4503599627370496 := by omega
    rw [e9]
  rw [ea, or_disj s E _ (by omega) (by omega) S hS]
  congr 1
  have := near_pow s n k (M - 4503599627370496) hk (by omega) (by omega)
  rw [show 1075 - k = E by omega] at this
  rw [← this]
  unfold whN
  cases s
  · simp only [Bool.false_eq_true, if_false] at hv
    subst hv
    rw [decide_eq_false (by omega)]; rfl
  · simp only [if_true] at hv
    subst hv
    rw [decide_eq_true (by omega), Int.natAbs_neg]; rfl
theorem whole_pos (n : Nat) (s : Bool) (hn : 0 < n) (h : n < 4294967296) (v : Int) (hv : v = if s then -(n : Int) else n) (w : World) : Calls Tryd.prog 25 #[.int .i64 v] w fun e w' => e = .returned (.int .u64 (whN v)) ∧ w = w' := by
  cases s
  · simp only [Bool.false_eq_true, if_false] at hv
    subst hv
    go_enter Tryd.func25, Tryd.ntmps25
    go_wp2_with fail
    go_loop [4, 5] (fun mm ee => ∃ (M E k : Nat), k ≤ 52 ∧ M = n * 2 ^ k ∧ M < 9007199254740992 ∧ E + k = 1075 ∧ mm = .int .u64 M ∧ ee = .int .u64 E) (fun _ ee => (intOf ee).toNat)
    case atStart => exact ⟨n, 1075, 0, by omega, by simp, by omega, by omega, rfl, rfl⟩
    case round =>
      obtain ⟨M, E, k, hk, hM, hM2, hE, rfl, rfl⟩ := hrel
      have hM' := hid hM
      clear hM
      go_wp2
      · rename_i hlt
        have hM3 : M < 4503599627370496 := by simp at hlt; omega
        have hk2 : k < 52 := by
          rcases Nat.lt_or_ge k 52 with h9 | h9
          · exact h9
          · exfalso
            have h8 : k = 52 := by omega
            have h7 := hM'.out
            rw [h8] at h7
            omega
        go_round
        case rel => exact ⟨M * 2, E - 1, k + 1, by omega, by rw [hM'.out, Nat.pow_succ, Nat.mul_assoc], by omega, by omega, by simp; try omega, by simp; try omega⟩
        case measure => simp [intOf]; omega
      · rename_i hge
        have hM3 : 4503599627370496 ≤ M := by
          have h9 : ((M : Int) / 4503599627370496 == 0) = false := by assumption
          rw [beq_eq_false_iff_ne] at h9
          omega
        go_ret
        refine ⟨ret_int ?_, rfl⟩
        exact whole_val n M E k false hn hk hM'.out hM3 hM2 hE _ rfl _ rfl
  · simp only [if_true] at hv
    subst hv
    go_enter Tryd.func25, Tryd.ntmps25
    go_wp2_with fail
    go_loop [4, 5] (fun mm ee => ∃ (M E k : Nat), k ≤ 52 ∧ M = n * 2 ^ k ∧ M < 9007199254740992 ∧ E + k = 1075 ∧ mm = .int .u64 M ∧ ee = .int .u64 E) (fun _ ee => (intOf ee).toNat)
    case atStart => exact ⟨n, 1075, 0, by omega, by simp, by omega, by omega, rfl, rfl⟩
    case round =>
      obtain ⟨M, E, k, hk, hM, hM2, hE, rfl, rfl⟩ := hrel
      have hM' := hid hM
      clear hM
      go_wp2
      · rename_i hlt
        have hM3 : M < 4503599627370496 := by simp at hlt; omega
        have hk2 : k < 52 := by
          rcases Nat.lt_or_ge k 52 with h9 | h9
          · exact h9
          · exfalso
            have h8 : k = 52 := by omega
            have h7 := hM'.out
            rw [h8] at h7
            omega
        go_round
        case rel => exact ⟨M * 2, E - 1, k + 1, by omega, by rw [hM'.out, Nat.pow_succ, Nat.mul_assoc], by omega, by omega, by simp; try omega, by simp; try omega⟩
        case measure => simp [intOf]; omega
      · rename_i hge
        have hM3 : 4503599627370496 ≤ M := by
          have h9 : ((M : Int) / 4503599627370496 == 0) = false := by assumption
          rw [beq_eq_false_iff_ne] at h9
          omega
        go_ret
        refine ⟨ret_int ?_, rfl⟩
        exact whole_val n M E k true hn hk hM'.out hM3 hM2 hE _ rfl _ rfl
theorem whole_any (v : Int) (h1 : -4294967296 < v) (h2 : v < 4294967296) (w : World) : Calls Tryd.prog 25 #[.int .i64 v] w fun e w' => e = .returned (.int .u64 (whN v)) ∧ w = w' := by
  rcases Int.lt_trichotomy v 0 with h | h | h
  · exact whole_pos v.natAbs true (by omega) (by omega) v (by simp; omega) w
  · subst h
    have e : whN 0 = 0 := by decide
    rw [e]
    go_enter Tryd.func25, Tryd.ntmps25
    go_wp2_with fail
    go_ret
    exact ⟨rfl, rfl⟩
  · exact whole_pos v.natAbs false (by omega) (by omega) v (by simp; omega) w
theorem whN_lt (v : Int) (h1 : -4294967296 < v) (h2 : v < 4294967296) : Reads (whN v) v := whN_reads v (by omega)
section
variable {a b : Int} (ha : -32768 ≤ a ∧ a ≤ 32767) (hb : -32768 ≤ b ∧ b ≤ 32767)
include ha hb
theorem w_mulbd : -4294967296 < a * b ∧ a * b < 4294967296 := by
  have h1 : (a * b).natAbs = a.natAbs * b.natAbs := Int.natAbs_mul a b
  have h2 : a.natAbs * b.natAbs ≤ 32768 * 32768 := Nat.mul_le_mul (by omega) (by omega)
  omega
theorem w_cmp (w : World) (tabs : Tabs w) : Calls Tryd.prog 12 #[.int .u64 (whN a), .int .u64 (whN b)] w fun e w' => e = .returned (.tuple #[.bool (a == b), .bool false, .bool (decide (a < b))]) ∧ Below w.heap.size w w' := by
  have ra := whN_lt a (by omega) (by omega)
  have rb := whN_lt b (by omega) (by omega)
  refine (compare_any _ _ ra.lt rb.lt w tabs).mono ?_
  rintro e w' ⟨rfl, hb⟩
  refine ⟨?_, hb⟩
  rw [(wh_zf ra rb).1, (wh_zf ra rb).2]
  have hp : pf (whN a) (whN b) = false := by unfold pf; rw [ra.nn, rb.nn]; rfl
  rw [hp]
  by_cases h : a = b
  · subst h; simp
  · rw [decide_eq_false h, show (a == b) = false from beq_eq_false_iff_ne.2 h]
theorem w_add (w : World) : Calls Tryd.prog 14 #[.int .u64 (whN a), .int .u64 (whN b)] w fun e w' => e = .returned (.int .u64 (whN (a + b))) ∧ Below w.heap.size w w' := by
  rw [← wh_add (whN_lt a (by omega) (by omega)) (whN_lt b (by omega) (by omega))]
  exact add_any _ _ w
theorem w_sub (w : World) : Calls Tryd.prog 16 #[.int .u64 (whN a), .int .u64 (whN b)] w fun e w' => e = .returned (.int .u64 (whN (a - b))) ∧ Below w.heap.size w w' := by
  rw [← wh_sub (whN_lt a (by omega) (by omega)) (whN_lt b (by omega) (by omega))]
  exact sub_any _ _ w
theorem w_abs (w : World) : Calls Tryd.prog 20 #[.int .u64 (fl .mul (whN a) (whN b))] w fun e w' => e = .returned (.int .u64 (absN (whN (a * b)))) ∧ w = w' := by
  have ra := whN_lt a (by omega) (by omega)
  have rb := whN_lt b (by omega) (by omega)
  rw [← wh_mul_abs ra rb]
  have hlt : fl .mul (whN a) (whN b) < 18446744073709551616 := by
    rw [wh_mul ra rb]
    obtain ⟨r, hr, e, _⟩ := nearest_word (decide (a < 0) ^^ decide (b < 0)) (a * b).natAbs 0
    rw [e]; exact (word_lt' _ (by omega)).1
  exact abs_any _ hlt w
theorem w_abs2 (w : World) : Calls Tryd.prog 20 #[.int .u64 (whN (a * b))] w fun e w' => e = .returned (.int .u64 (absN (whN (a * b)))) ∧ w = w' :=
  abs_any _ (whN_lt (a * b) (w_mulbd ha hb).1 (w_mulbd ha hb).2).lt w
theorem w_div (h0 : a ≠ 0) (h1 : b ≠ 0) (w : World) : Calls Tryd.prog 18 #[.int .u64 (fl .mul (whN a) (whN b)), .int .u64 (whN b)] w fun e w' => e = .returned (.int .u64 (whN a)) ∧ Below w.heap.size w w' := by
  have ra := whN_lt a (by omega) (by omega)
  have rb := whN_lt b (by omega) (by omega)
  have e : fl .quo (fl .mul (whN a) (whN b)) (whN b) = whN a := by
    rw [wh_mul_ne ra rb h0 h1]
    exact wh_div (whN_lt (a * b) (w_mulbd ha hb).1 (w_mulbd ha hb).2) rb h0 h1
  have := div_any (fl .mul (whN a) (whN b)) (whN b) w
  rw [e] at this
  exact this
end
set_option maxHeartbeats 2000000 in
theorem wholes_ne (a b : Int) (ha : -32768 ≤ a ∧ a ≤ 32767) (hb : -32768 ≤ b ∧ b ≤ 32767) (h0 : a ≠ 0) (h1 : b ≠ 0) (w : World) (tabs : Tabs w) : Calls Tryd.prog 8 #[.int .i16 a, .int .i16 b] w fun e w' => e = .returned (.bool true) ∧ Below w.heap.size w w' := by
  have q : (b == 0) = false := beq_eq_false_iff_ne.2 h1
  have hm := w_mulbd ha hb
  obtain ⟨m1, m2⟩ := hm
  obtain ⟨a1, a2⟩ := ha
  obtain ⟨b1', b2'⟩ := hb
  go_enter Tryd.func8, Tryd.ntmps8
  go_wp2_with fail
  refine (known_any _ tabs).mono ?_
  rintro e w1 ⟨rfl, b2⟩
  replace tabs := tabs.below b2
  go_wp2_with fail
  refine (whole_any a (by omega) (by omega) _).mono ?_
  rintro e w1 ⟨rfl, rfl⟩
  go_wp2_with fail
  refine (whole_any b (by omega) (by omega) _).mono ?_
  rintro e w1 ⟨rfl, rfl⟩
  go_wp2_with fail
  refine (w_cmp ⟨a1, a2⟩ ⟨b1', b2'⟩ _ tabs).mono ?_
  rintro e w1 ⟨rfl, b1⟩
  replace tabs := tabs.below b1
  replace b2 := b2.trans (b1.mono b2.size)
  clear b1
  go_wp2_with fail
  refine (w_add ⟨a1, a2⟩ ⟨b1', b2'⟩ _).mono ?_
  rintro e w1 ⟨rfl, b1⟩
  replace tabs := tabs.below b1
  replace b2 := b2.trans (b1.mono b2.size)
  clear b1
  go_wp2_with fail
  refine (whole_any (a + b) (by omega) (by omega) _).mono ?_
  rintro e w1 ⟨rfl, rfl⟩
  go_wp2_with fail
  refine (w_sub ⟨a1, a2⟩ ⟨b1', b2'⟩ _).mono ?_
  rintro e w1 ⟨rfl, b1⟩
  replace tabs := tabs.below b1
  replace b2 := b2.trans (b1.mono b2.size)
  clear b1
  go_wp2_with fail
  refine (whole_any (a - b) (by omega) (by omega) _).mono ?_
  rintro e w1 ⟨rfl, rfl⟩
  go_wp2_with fail
  refine (mul_any (whN a) (whN b) _).mono ?_
  rintro e w1 ⟨rfl, b1⟩
  replace tabs := tabs.below b1
  replace b2 := b2.trans (b1.mono b2.size)
  clear b1
  go_wp2_with fail
  refine (w_abs ⟨a1, a2⟩ ⟨b1', b2'⟩ _).mono ?_
  rintro e w1 ⟨rfl, rfl⟩
  go_wp2_with fail
  refine (whole_any (a * b) m1 m2 _).mono ?_
  rintro e w1 ⟨rfl, rfl⟩
  go_wp2_with fail
  refine (w_abs2 ⟨a1, a2⟩ ⟨b1', b2'⟩ _).mono ?_
  rintro e w1 ⟨rfl, rfl⟩
  go_wp2_with fail
  refine (mul_any (whN a) (whN b) _).mono ?_
  rintro e w1 ⟨rfl, b1⟩
  replace tabs := tabs.below b1
  replace b2 := b2.trans (b1.mono b2.size)
  clear b1
  go_wp2_with fail
  refine (w_div ⟨a1, a2⟩ ⟨b1', b2'⟩ h0 h1 _).mono ?_
  rintro e w1 ⟨rfl, b1⟩
  replace tabs := tabs.below b1
  replace b2 := b2.trans (b1.mono b2.size)
  clear b1
  go_wp2_with fail
  go_ret
  exact ⟨rfl, b2⟩
theorem whN_zero : whN 0 = 0 := by decide
theorem z_whole (w : World) : Calls Tryd.prog 25 #[.int .i64 0] w fun e w' => e = .returned (.int .u64 0) ∧ w = w' := by
  have := whole_any 0 (by omega) (by omega) w
  rw [whN_zero] at this
  exact this
section
variable {a : Int} (ha : -32768 ≤ a ∧ a ≤ 32767)
include ha
theorem z_cmp (w : World) (tabs : Tabs w) : Calls Tryd.prog 12 #[.int .u64 (whN a), .int .u64 0] w fun e w' => e = .returned (.tuple #[.bool (a == 0), .bool false, .bool (decide (a < 0))]) ∧ Below w.heap.size w w' := by
  have := w_cmp ha (b := 0) (by omega) w tabs
  rw [whN_zero] at this
  exact this
theorem z_cmp' (w : World) (tabs : Tabs w) : Calls Tryd.prog 12 #[.int .u64 0, .int .u64 (whN a)] w fun e w' => e = .returned (.tuple #[.bool (0 == a), .bool false, .bool (decide (0 < a))]) ∧ Below w.heap.size w w' := by
  have := w_cmp (a := 0) (by omega) ha w tabs
  rw [whN_zero] at this
  exact this
theorem z_add (w : World) : Calls Tryd.prog 14 #[.int .u64 (whN a), .int .u64 0] w fun e w' => e = .returned (.int .u64 (whN a)) ∧ Below w.heap.size w w' := by
  have := w_add ha (b := 0) (by omega) w
  rw [whN_zero, Int.add_zero] at this
  exact this
theorem z_add' (w : World) : Calls Tryd.prog 14 #[.int .u64 0, .int .u64 (whN a)] w fun e w' => e = .returned (.int .u64 (whN a)) ∧ Below w.heap.size w w' := by
  have := w_add (a := 0) (by omega) ha w
  rw [whN_zero, Int.zero_add] at this
  exact this
theorem z_sub (w : World) : Calls Tryd.prog 16 #[.int .u64 (whN a), .int .u64 0] w fun e w' => e = .returned (.int .u64 (whN a)) ∧ Below w.heap.size w w' := by
  have := w_sub ha (b := 0) (by omega) w
  rw [whN_zero, Int.sub_zero] at this
  exact this
theorem z_sub' (w : World) : Calls Tryd.prog 16 #[.int .u64 0, .int .u64 (whN a)] w fun e w' => e = .returned (.int .u64 (whN (-a))) ∧ Below w.heap.size w w' := by
  have := w_sub (a := 0) (by omega) ha w
  rw [whN_zero, Int.zero_sub] at this
  exact this
theorem z_mul (w : World) : Calls Tryd.prog 17 #[.int .u64 (whN a), .int .u64 0] w fun e w' => e = .returned (.int .u64 (fl .mul (whN a) 0)) ∧ Below w.heap.size w w' := mul_any (whN a) 0 w
theorem z_mul' (w : World) : Calls Tryd.prog 17 #[.int .u64 0, .int .u64 (whN a)] w fun e w' => e = .returned (.int .u64 (fl .mul 0 (whN a))) ∧ Below w.heap.size w w' := mul_any 0 (whN a) w
theorem z_abs (w : World) : Calls Tryd.prog 20 #[.int .u64 (fl .mul (whN a) 0)] w fun e w' => e = .returned (.int .u64 0) ∧ w = w' := by
  have := w_abs ha (b := 0) (by omega) w
  rw [whN_zero, Int.mul_zero, whN_zero] at this
  exact this
theorem z_abs' (w : World) : Calls Tryd.prog 20 #[.int .u64 (fl .mul 0 (whN a))] w fun e w' => e = .returned (.int .u64 0) ∧ w = w' := by
  have := w_abs (a := 0) (by omega) ha w
  rw [whN_zero, Int.zero_mul, whN_zero] at this
  exact this
end
theorem z_abs0 (w : World) : Calls Tryd.prog 20 #[.int .u64 0] w fun e w' => e = .returned (.int .u64 0) ∧ w = w' := abs_any 0 (by decide) w
set_option maxHeartbeats 1000000 in
theorem wholes_b0 (a : Int) (ha : -32768 ≤ a ∧ a ≤ 32767)  (w : World) (tabs : Tabs w) : Calls Tryd.prog 8 #[.int .i16 a, .int .i16 0] w fun e w' => e = .returned (.bool true) ∧ Below w.heap.size w w' := by
  obtain ⟨a1, a2⟩ := ha
  go_enter Tryd.func8, Tryd.ntmps8
  go_wp2_with fail
  refine (known_any _ tabs).mono ?_
  rintro e w1 ⟨rfl, b2⟩
  replace tabs := tabs.below b2
  go_wp2_with fail
  refine (whole_any a (by omega) (by omega) _).mono ?_
  rintro e w1 ⟨rfl, rfl⟩
  go_wp2_with fail
  refine (z_whole _).mono ?_
  rintro e w1 ⟨rfl, rfl⟩
  go_wp2_with fail
  refine (z_cmp ⟨a1, a2⟩ _ tabs).mono ?_
  rintro e w1 ⟨rfl, b1⟩
  replace tabs := tabs.below b1
  replace b2 := b2.trans (b1.mono b2.size)
  clear b1
  go_wp2_with fail
  refine (z_add ⟨a1, a2⟩ _).mono ?_
  rintro e w1 ⟨rfl, b1⟩
  replace tabs := tabs.below b1
  replace b2 := b2.trans (b1.mono b2.size)
  clear b1
  go_wp2_with fail
  refine (whole_any a (by omega) (by omega) _).mono ?_
  rintro e w1 ⟨rfl, rfl⟩
  go_wp2_with fail
  refine (z_sub ⟨a1, a2⟩ _).mono ?_
  rintro e w1 ⟨rfl, b1⟩
  replace tabs := tabs.below b1
  replace b2 := b2.trans (b1.mono b2.size)
  clear b1
  go_wp2_with fail
  refine (whole_any a (by omega) (by omega) _).mono ?_
  rintro e w1 ⟨rfl, rfl⟩
  go_wp2_with fail
  refine (z_mul ⟨a1, a2⟩ _).mono ?_
  rintro e w1 ⟨rfl, b1⟩
  replace tabs := tabs.below b1
  replace b2 := b2.trans (b1.mono b2.size)
  clear b1
  go_wp2_with fail
  refine (z_abs ⟨a1, a2⟩ _).mono ?_
  rintro e w1 ⟨rfl, rfl⟩
  go_wp2_with fail
  refine (z_whole _).mono ?_
  rintro e w1 ⟨rfl, rfl⟩
  go_wp2_with fail
  refine (z_abs0 _).mono ?_
  rintro e w1 ⟨rfl, rfl⟩
  go_wp2_with fail
  go_ret
  exact ⟨rfl, b2⟩
set_option maxHeartbeats 1000000 in
theorem wholes_a0 (a : Int) (ha : -32768 ≤ a ∧ a ≤ 32767) (h1 : a ≠ 0) (w : World) (tabs : Tabs w) : Calls Tryd.prog 8 #[.int .i16 0, .int .i16 a] w fun e w' => e = .returned (.bool true) ∧ Below w.heap.size w w' := by
  have q : (a == 0) = false := beq_eq_false_iff_ne.2 h1
  obtain ⟨a1, a2⟩ := ha
  go_enter Tryd.func8, Tryd.ntmps8
  go_wp2_with fail
  refine (known_any _ tabs).mono ?_
  rintro e w1 ⟨rfl, b2⟩
  replace tabs := tabs.below b2
  go_wp2_with fail
  refine (z_whole _).mono ?_
  rintro e w1 ⟨rfl, rfl⟩
  go_wp2_with fail
  refine (whole_any a (by omega) (by omega) _).mono ?_
  rintro e w1 ⟨rfl, rfl⟩
  go_wp2_with fail
  refine (z_cmp' ⟨a1, a2⟩ _ tabs).mono ?_
  rintro e w1 ⟨rfl, b1⟩
  replace tabs := tabs.below b1
  replace b2 := b2.trans (b1.mono b2.size)
  clear b1
  go_wp2_with fail
  refine (z_add' ⟨a1, a2⟩ _).mono ?_
  rintro e w1 ⟨rfl, b1⟩
  replace tabs := tabs.below b1
  replace b2 := b2.trans (b1.mono b2.size)
  clear b1
  go_wp2_with fail
  refine (whole_any a (by omega) (by omega) _).mono ?_
  rintro e w1 ⟨rfl, rfl⟩
  go_wp2_with fail
  refine (z_sub' ⟨a1, a2⟩ _).mono ?_
  rintro e w1 ⟨rfl, b1⟩
  replace tabs := tabs.below b1
  replace b2 := b2.trans (b1.mono b2.size)
  clear b1
  go_wp2_with fail
  refine (whole_any (-a) (by omega) (by omega) _).mono ?_
  rintro e w1 ⟨rfl, rfl⟩
  go_wp2_with fail
  refine (z_mul' ⟨a1, a2⟩ _).mono ?_
  rintro e w1 ⟨rfl, b1⟩
  replace tabs := tabs.below b1
  replace b2 := b2.trans (b1.mono b2.size)
  clear b1
  go_wp2_with fail
  refine (z_abs' ⟨a1, a2⟩ _).mono ?_
  rintro e w1 ⟨rfl, rfl⟩
  go_wp2_with fail
  refine (z_whole _).mono ?_
  rintro e w1 ⟨rfl, rfl⟩
  go_wp2_with fail
  refine (z_abs0 _).mono ?_
  rintro e w1 ⟨rfl, rfl⟩
  go_wp2_with fail
  refine (z_mul' ⟨a1, a2⟩ _).mono ?_
  rintro e w1 ⟨rfl, b1⟩
  replace tabs := tabs.below b1
  replace b2 := b2.trans (b1.mono b2.size)
  clear b1
  go_wp2_with fail
  refine (div_any (fl .mul 0 (whN a)) (whN a) _).mono ?_
  rintro e w1 ⟨rfl, b1⟩
  replace tabs := tabs.below b1
  replace b2 := b2.trans (b1.mono b2.size)
  clear b1
  go_wp2_with fail
  all_goals go_ret
  all_goals exact ⟨rfl, b2⟩
theorem wholes_walk (a b : Int) (ha : -32768 ≤ a ∧ a ≤ 32767) (hb : -32768 ≤ b ∧ b ≤ 32767) (w : World) (tabs : Tabs w) : Calls Tryd.prog 8 #[.int .i16 a, .int .i16 b] w fun e w' => e = .returned (.bool true) ∧ Below w.heap.size w w' := by
  by_cases h1 : b = 0
  · subst h1; exact wholes_b0 a ha w tabs
  · by_cases h0 : a = 0
    · subst h0; exact wholes_a0 b hb h1 w tabs
    · exact wholes_ne a b ha hb h0 h1 w tabs
end Go.Proofs.YtmjheiedoihohaaDoor
