import Derived.Test.YtmjheiedoihohaaDoorLaid
import Derived.Laws.FloatArith
import Derived.WalkLawsBesides
namespace Go.Proofs.YtmjheiedoihohaaDoor
open Go.RowKit
set_option linter.unusedVariables false

theorem ret_int {k : IntKind} {a b : Int} (h : a = b) : Ending.returned (.int k a) = .returned (.int k b) := by rw [h]
theorem ret_bool {a b : Bool} (h : a = b) : Ending.returned (.bool a) = .returned (.bool b) := by rw [h]

theorem run_from (n : Nat) (w : World) : (callFunc 26 #[.int .u64 n]).run Tryd.prog w = .ok (.value (.float .f64 n)) w := by kernel_rfl
theorem run_bits (n : Nat) (w : World) : (callFunc 34 #[.float .f64 n]).run Tryd.prog w = .ok (.value (.int .u64 n)) w := by kernel_rfl
theorem run_op (op : BinOp) (h : op = .add ∨ op = .sub ∨ op = .mul ∨ op = .quo) (t : TypeId) (x y : Nat) (w : World) : ∃ r W', (binOp op t (.float .f64 x) (.float .f64 y)).run Tryd.prog w = .ok (.float .f64 r) W' ∧
    Below w.heap.size w W' ∧ (floatBits op .f64 x y = some r ∨ (floatBits op .f64 x y = none ∧ 0x7ff0000000000000 < r % 2 ^ 63)) := by
  rcases hf : floatBits op .f64 x y with _ | r
  · refine ⟨(Question.nanBits .f64 x y).cut (w.tape w.drawn (Question.nanBits .f64 x y)), w.drew, ?_, (Below.refl _ _).drew, Or.inr ⟨rfl, ?_⟩⟩
    · unfold floatBits at hf
      rcases h with rfl | rfl | rfl | rfl <;> simp only at hf <;> simp [binOp, Op.floatArith, hf, Question.forced]
    · simp only [Question.cut]
      generalize w.tape w.drawn (Question.nanBits .f64 x y) = t
      have h1 : t / 2 % (2 ^ 52 - 1) < 4503599627370495 := Nat.mod_lt _ (by decide)
      generalize t / 2 % (2 ^ 52 - 1) = u at *
      rcases Nat.mod_two_eq_zero_or_one t with h2 | h2 <;> rw [h2] <;> omega
  · exact ⟨r, w, run_float_arith w op t .f64 x y r hf, Below.refl _ _, Or.inl rfl⟩

/-- The bits of a result as the code tells them. -/
def toldN (x : Nat) : Nat := if FloatKind.f64.format.order x x == some .eq then x else 9221120237041090560
def fl (op : BinOp) (a b : Nat) : Nat := match floatBits op .f64 a b with
  | some r => toldN r
  | none => 9221120237041090560

theorem order_nan {r s : Nat} (h : 9218868437227405312 < r % 2 ^ 63) : Ieee.double.order r s = none := by
  have h2 : Ieee.double.signWeight = 2 ^ 63 := by decide
  have h3 : Ieee.double.infRung = 9218868437227405312 := by decide
  have h4 : Ieee.double.binade = 4503599627370496 := by decide
  unfold Ieee.Format.order Ieee.Format.read
  rw [h2, h3, h4]
  simp only []
  rw [if_neg (by omega), if_neg (by omega), if_neg (by omega)]
  rfl
theorem toldN_nan {r : Nat} (h : 9218868437227405312 < r % 2 ^ 63) : toldN r = 9221120237041090560 := by
  unfold toldN
  rw [show FloatKind.f64.format.order r r = none from order_nan h]
  rfl

theorem isNaN_any (x : Nat) (w : World) : Calls Tryd.prog 33 #[.float .f64 x] w fun e w' => e = .returned (.bool (FloatKind.f64.format.order x x != some .eq)) ∧ w = w' := by
  go_enter Tryd.func33, Tryd.ntmps33
  go_wp2
  go_ret
  exact ⟨rfl, rfl⟩
theorem told_any (x : Nat) (w : World) : Calls Tryd.prog 29 #[.float .f64 x] w fun e w' => e = .returned (.int .u64 (toldN x)) ∧ w = w' := by
  have hb := run_bits x w
  unfold toldN
  rcases h : (FloatKind.f64.format.order x x == some .eq) with _ | _ <;>
  · go_enter Tryd.func29, Tryd.ntmps29
    go_wp2_with (first | (go_at_call 33; refine (isNaN_any _ _).mono ?_; rintro e w' ⟨rfl, rfl⟩))
    all_goals first | (go_ret; exact ⟨rfl, rfl⟩) | simp_all
theorem rbits_any (x : Nat) (w : World) : Calls Tryd.prog 30 #[.float .f64 x] w fun e w' => e = .returned (.int .u64 (toldN x)) ∧ w = w' := by
  have hb := run_bits x w
  unfold toldN
  rcases h : (FloatKind.f64.format.order x x == some .eq) with _ | _ <;>
  · go_enter Tryd.func30, Tryd.ntmps30
    go_wp2
    all_goals first | (go_ret; exact ⟨rfl, rfl⟩) | simp_all
theorem num_any (n : Nat) (w : World) : Calls Tryd.prog 28 #[.int .u64 n] w fun e w' => e = .returned (.float .f64 n) ∧ w = w' := by
  have hb := run_from n w
  go_enter Tryd.func28, Tryd.ntmps28
  go_wp2
  go_ret
  exact ⟨rfl, rfl⟩
theorem run_op' (op : BinOp) (h : op = .add ∨ op = .sub ∨ op = .mul ∨ op = .quo) (t : TypeId) (a b : Nat) (w : World) : ∃ r W', (binOp op t (.float .f64 a) (.float .f64 b)).run Tryd.prog w = .ok (.float .f64 r) W' ∧
    Below w.heap.size w W' ∧ fl op a b = toldN r := by
  obtain ⟨r, W', hr, hb, hv⟩ := run_op op h t a b w
  refine ⟨r, W', hr, hb, ?_⟩
  unfold fl
  rcases hv with hv | ⟨hv, hn⟩
  · rw [hv]
  · rw [hv, toldN_nan hn]
theorem add_any (a b : Nat) (w : World) : Calls Tryd.prog 14 #[.int .u64 a, .int .u64 b] w fun e w' => e = .returned (.int .u64 (fl .add a b)) ∧ Below w.heap.size w w' := by
  obtain ⟨r, W', hr, hb, e⟩ := run_op' .add (by simp) 42 a b w
  have h1 := run_from a w
  have h2 := run_from b w
  rw [e]
  go_enter Tryd.func14, Tryd.ntmps14
  go_wp2_with (first | (go_at_call 29; refine (told_any _ _).mono ?_; rintro e w' ⟨rfl, rfl⟩))
  go_ret
  exact ⟨rfl, hb⟩
theorem sub_any (a b : Nat) (w : World) : Calls Tryd.prog 16 #[.int .u64 a, .int .u64 b] w fun e w' => e = .returned (.int .u64 (fl .sub a b)) ∧ Below w.heap.size w w' := by
  obtain ⟨r, W', hr, hb, e⟩ := run_op' .sub (by simp) 42 a b w
  have h1 := run_from a w
  have h2 := run_from b w
  rw [e]
  go_enter Tryd.func16, Tryd.ntmps16
  go_wp2_with (first | (go_at_call 29; refine (told_any _ _).mono ?_; rintro e w' ⟨rfl, rfl⟩))
  go_ret
  exact ⟨rfl, hb⟩
theorem mul_any (a b : Nat) (w : World) : Calls Tryd.prog 17 #[.int .u64 a, .int .u64 b] w fun e w' => e = .returned (.int .u64 (fl .mul a b)) ∧ Below w.heap.size w w' := by
  obtain ⟨r, W', hr, hb, e⟩ := run_op' .mul (by simp) 42 a b w
  have h1 := run_from a w
  have h2 := run_from b w
  rw [e]
  go_enter Tryd.func17, Tryd.ntmps17
  go_wp2_with (first | (go_at_call 29; refine (told_any _ _).mono ?_; rintro e w' ⟨rfl, rfl⟩))
  go_ret
  exact ⟨rfl, hb⟩
theorem div_any (a b : Nat) (w : World) : Calls Tryd.prog 18 #[.int .u64 a, .int .u64 b] w fun e w' => e = .returned (.int .u64 (fl .quo a b)) ∧ Below w.heap.size w w' := by
  obtain ⟨r, W', hr, hb, e⟩ := run_op' .quo (by simp) 42 a b w
  have h1 := run_from a w
  have h2 := run_from b w
  rw [e]
  go_enter Tryd.func18, Tryd.ntmps18
  go_wp2_with (first | (go_at_call 29; refine (told_any _ _).mono ?_; rintro e w' ⟨rfl, rfl⟩))
  go_ret
  exact ⟨rfl, hb⟩
theorem do0_any (a b : Nat) (w : World) : Calls Tryd.prog 15 #[.int .i64 0, .int .u64 a, .int .u64 b] w fun e w' => e = .returned (.int .u64 (fl .add a b)) ∧ Below w.heap.size w w' := by
  obtain ⟨r, W', hr, hb, e⟩ := run_op' .add (by simp) 42 a b w
  rw [e]
  go_enter Tryd.func15, Tryd.ntmps15
  go_wp2_with (first | (go_at_call 28; refine (num_any _ _).mono ?_; rintro e w' ⟨rfl, rfl⟩) | (go_at_call 30; refine (rbits_any _ _).mono ?_; rintro e w' ⟨rfl, rfl⟩))
  go_ret
  exact ⟨rfl, hb⟩
theorem do1_any (a b : Nat) (w : World) : Calls Tryd.prog 15 #[.int .i64 1, .int .u64 a, .int .u64 b] w fun e w' => e = .returned (.int .u64 (fl .sub a b)) ∧ Below w.heap.size w w' := by
  obtain ⟨r, W', hr, hb, e⟩ := run_op' .sub (by simp) 42 a b w
  rw [e]
  go_enter Tryd.func15, Tryd.ntmps15
  go_wp2_with (first | (go_at_call 28; refine (num_any _ _).mono ?_; rintro e w' ⟨rfl, rfl⟩) | (go_at_call 30; refine (rbits_any _ _).mono ?_; rintro e w' ⟨rfl, rfl⟩))
  go_ret
  exact ⟨rfl, hb⟩
theorem do2_any (a b : Nat) (w : World) : Calls Tryd.prog 15 #[.int .i64 2, .int .u64 a, .int .u64 b] w fun e w' => e = .returned (.int .u64 (fl .mul a b)) ∧ Below w.heap.size w w' := by
  obtain ⟨r, W', hr, hb, e⟩ := run_op' .mul (by simp) 42 a b w
  rw [e]
  go_enter Tryd.func15, Tryd.ntmps15
  go_wp2_with (first | (go_at_call 28; refine (num_any _ _).mono ?_; rintro e w' ⟨rfl, rfl⟩) | (go_at_call 30; refine (rbits_any _ _).mono ?_; rintro e w' ⟨rfl, rfl⟩))
  go_ret
  exact ⟨rfl, hb⟩
theorem do3_any (a b : Nat) (w : World) : Calls Tryd.prog 15 #[.int .i64 3, .int .u64 a, .int .u64 b] w fun e w' => e = .returned (.int .u64 (fl .quo a b)) ∧ Below w.heap.size w w' := by
  obtain ⟨r, W', hr, hb, e⟩ := run_op' .quo (by simp) 42 a b w
  rw [e]
  go_enter Tryd.func15, Tryd.ntmps15
  go_wp2_with (first | (go_at_call 28; refine (num_any _ _).mono ?_; rintro e w' ⟨rfl, rfl⟩) | (go_at_call 30; refine (rbits_any _ _).mono ?_; rintro e w' ⟨rfl, rfl⟩))
  go_ret
  exact ⟨rfl, hb⟩

def absN (n : Nat) : Nat := n % 9223372036854775808
def negN (n : Nat) : Nat := if n < 9223372036854775808 then n + 9223372036854775808 else n - 9223372036854775808
def kindN (n : Nat) : Nat := if absN n < 1 then 0 else if absN n < 4503599627370496 then 1 else if absN n < 9218868437227405312 then 2 else if absN n < 9218868437227405313 then 3 else 4

end Go.Proofs.YtmjheiedoihohaaDoor
