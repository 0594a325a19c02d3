/- Quotients. -/
import Derived.Test.YtgeeecoclhomiaaDoorA6
namespace Go.Proofs.YtgeeecoclhomiaaDoor
open Go.RowKit
set_option linter.unusedVariables false
set_option linter.unusedSimpArgs false
set_option linter.unusedSectionVars false

theorem divided_yes (n d : Int) (hn : 0 ≤ n ∧ n ≤ 18446744073709551615) (hd : 0 < d ∧ d ≤ 4294967295) (hq : (n / d != n / d % 4294967296) = false) (w : World) :
    Calls Tryd.prog 28 #[.int .u64 n, .int .u32 d] w fun e w' => e = .returned (.tuple #[.int .u32 (n / d % 4294967296), .int .u32 (n % d % 4294967296), .bool true]) ∧ Below w.heap.size w w' := by
  have h0 : (d == 0) = false := by simp; omega
  have h1 : d ≠ 0 := by omega
  go_enter Tryd.func28, Tryd.ntmps28
  go_wp2
  go_region
  go_wp2
  all_goals go_ret3
  all_goals exact ⟨rfl, (Below.refl _ _).drew⟩
theorem divided_no (n d : Int) (hn : 0 ≤ n ∧ n ≤ 18446744073709551615) (hd : 0 < d ∧ d ≤ 4294967295) (hq : (n / d != n / d % 4294967296) = true) (w : World) :
    Calls Tryd.prog 28 #[.int .u64 n, .int .u32 d] w fun e w' => e = .returned (.tuple #[.int .u32 0, .int .u32 0, .bool false]) ∧ Below w.heap.size w w' := by
  have h0 : (d == 0) = false := by simp; omega
  have h1 : d ≠ 0 := by omega
  go_enter Tryd.func28, Tryd.ntmps28
  go_wp2
  go_region
  go_wp2
  all_goals go_ret3
  all_goals exact ⟨rfl, (Below.refl _ _).drew⟩
theorem dividedSigned_yes (n d : Int) (hn : -9223372036854775808 ≤ n ∧ n ≤ 9223372036854775807) (hd : -2147483648 ≤ d ∧ d ≤ 2147483647) (h1 : d ≠ 0) (hq : (wrap64 (n.tdiv d) != wrap64 (wrap32 (wrap64 (n.tdiv d)))) = false) (w : World) :
    Calls Tryd.prog 29 #[.int .i64 n, .int .i32 d] w fun e w' => e = .returned (.tuple #[.int .u32 (wrap64 (n.tdiv d) % 4294967296), .int .u32 (n.tmod d % 4294967296), .bool true]) ∧ Below w.heap.size w w' := by
  have h0 : (d == 0) = false := by simp; omega
  go_enter Tryd.func29, Tryd.ntmps29
  go_wp2
  go_region
  go_wp2
  all_goals go_ret3
  all_goals exact ⟨rfl, (Below.refl _ _).drew⟩
theorem dividedSigned_no (n d : Int) (hn : -9223372036854775808 ≤ n ∧ n ≤ 9223372036854775807) (hd : -2147483648 ≤ d ∧ d ≤ 2147483647) (h1 : d ≠ 0) (hq : (wrap64 (n.tdiv d) != wrap64 (wrap32 (wrap64 (n.tdiv d)))) = true) (w : World) :
    Calls Tryd.prog 29 #[.int .i64 n, .int .i32 d] w fun e w' => e = .returned (.tuple #[.int .u32 0, .int .u32 0, .bool false]) ∧ Below w.heap.size w w' := by
  have h0 : (d == 0) = false := by simp; omega
  go_enter Tryd.func29, Tryd.ntmps29
  go_wp2
  go_region
  go_wp2
  all_goals go_ret3
  all_goals exact ⟨rfl, (Below.refl _ _).drew⟩
/-- hi and lo as one number. -/
theorem or_high {lo hi : Int} (h : 0 ≤ lo ∧ lo ≤ 4294967295) (hb : 0 ≤ hi ∧ hi ≤ 4294967295) : bits .or .u64 (hi * 4294967296) lo = hi * 4294967296 + lo := by
  obtain ⟨L, rfl⟩ := Int.eq_ofNat_of_zero_le h.1
  obtain ⟨H, rfl⟩ := Int.eq_ofNat_of_zero_le hb.1
  have e : ((H : Int) * 4294967296) = ((H * 4294967296 : Nat) : Int) := by omega
  rw [e, u64_or_nat _ _ (by omega) (by omega)]
  have := Nat.two_pow_add_eq_or_of_lt (i := 32) (b := L) (by omega) H
  rw [Nat.mul_comm] at this
  have h2 : H * 4294967296 ||| L = H * 4294967296 + L := by rw [Nat.mul_comm H 4294967296]; exact (Nat.two_pow_add_eq_or_of_lt (i := 32) (b := L) (by omega) H).symm
  rw [h2]
  omega
abbrev Divs (op lo hi d q r : Int) (ok : Bool) : Prop := ∀ w, Calls Tryd.prog 16 #[.int .i64 op, .int .u32 lo, .int .u32 hi, .int .u32 d] w fun e w' => e = .returned (.tuple #[.int .u32 q, .int .u32 r, .bool ok]) ∧ Below w.heap.size w w'
theorem div_zero (op lo hi : Int) (h : 0 ≤ lo ∧ lo ≤ 4294967295) (hb : 0 ≤ hi ∧ hi ≤ 4294967295) : Divs op lo hi 0 0 0 false := by
  intro w
  go_enter Tryd.func16, Tryd.ntmps16
  go_wp2
  go_ret3
  exact ⟨rfl, Below.refl _ _⟩
theorem div_other (op lo hi d : Int) (h : 0 ≤ lo ∧ lo ≤ 4294967295) (hb : 0 ≤ hi ∧ hi ≤ 4294967295) (h1 : (op == 19) = false) (h2 : (op == 20) = false) : Divs op lo hi d 0 0 false := by
  intro w
  by_cases h0 : d = 0
  · subst h0
    exact div_zero op lo hi h hb w
  · have h3 : (d == 0) = false := by simpa using h0
    go_enter Tryd.func16, Tryd.ntmps16
    go_wp2
    go_ret3
    exact ⟨rfl, Below.refl _ _⟩
theorem div_u (lo hi d q r : Int) (ok : Bool) (h : 0 ≤ lo ∧ lo ≤ 4294967295) (hb : 0 ≤ hi ∧ hi ≤ 4294967295) (hd : 0 < d ∧ d ≤ 4294967295)
    (qD : ∀ w, Calls Tryd.prog 28 #[.int .u64 (hi * 4294967296 + lo), .int .u32 d] w fun e w' => e = .returned (.tuple #[.int .u32 q, .int .u32 r, .bool ok]) ∧ Below w.heap.size w w') : Divs 19 lo hi d q r ok := by
  intro w
  have ho := or_high h hb
  have h3 : (d == 0) = false := by simp; omega
  replace qD := Lib.hid qD
  go_enter Tryd.func16, Tryd.ntmps16
  go_wp2_with (first | (with_reducible refine (qD.out _).mono ?_; rintro e w9 ⟨rfl, bb⟩))
  go_ret3
  exact ⟨rfl, bb⟩
theorem div_s (lo hi d q r : Int) (ok : Bool) (h : 0 ≤ lo ∧ lo ≤ 4294967295) (hb : 0 ≤ hi ∧ hi ≤ 4294967295) (hd : 0 < d ∧ d ≤ 4294967295)
    (qD : ∀ w, Calls Tryd.prog 29 #[.int .i64 (wrap64 (hi * 4294967296 + lo)), .int .i32 (wrap32 d)] w fun e w' => e = .returned (.tuple #[.int .u32 q, .int .u32 r, .bool ok]) ∧ Below w.heap.size w w') : Divs 20 lo hi d q r ok := by
  intro w
  have ho := or_high h hb
  have h3 : (d == 0) = false := by simp; omega
  replace qD := Lib.hid qD
  go_enter Tryd.func16, Tryd.ntmps16
  go_wp2_with (first | (with_reducible refine (qD.out _).mono ?_; rintro e w9 ⟨rfl, bb⟩))
  go_ret3
  exact ⟨rfl, bb⟩
end Go.Proofs.YtgeeecoclhomiaaDoor
