/-
  What a finite word is worth, and what the operations make of it.
-/
import Derived.Test.YtmjheiedoihohaaDoorM2
namespace Go.Proofs.YtmjheiedoihohaaDoor
open Ieee
set_option linter.unusedVariables false

theorem nearest_sub (s : Bool) (m : Nat) (h : m < 4503599627370496) : D.nearest s m (-1074) = D.word s m := by
  rcases Nat.eq_zero_or_pos m with rfl | hm
  · rfl
  have hm0 : m ≠ 0 := by omega
  have hl : m.log2 < 52 := (Nat.log2_lt hm0).2 (by simpa using h)
  unfold Format.nearest
  rw [if_neg hm0]
  simp only [cut_E, Nat.shiftLeft_eq, fb, lp, bn, ir]
  rw [show max (-1074 + (m.log2 : Int) - (52 : Nat)) (-1074) = -1074 by omega]
  simp only [Int.sub_self, Int.toNat_zero, Nat.pow_zero, Nat.mul_one, cutE_zero, Nat.zero_mul, Nat.zero_add]
  rw [Nat.min_eq_left (by omega)]
theorem log2_norm {f : Nat} (h : f < 4503599627370496) : (4503599627370496 + f).log2 = 52 := by
  have h0 : 4503599627370496 + f ≠ 0 := by omega
  have a : (4503599627370496 + f).log2 < 53 := (Nat.log2_lt h0).2 (by
    have : (2 : Nat) ^ 53 = 9007199254740992 := by decide
    omega)
  have b : 52 ≤ (4503599627370496 + f).log2 := (Nat.le_log2 h0).2 (by
    have : (2 : Nat) ^ 52 = 4503599627370496 := by decide
    omega)
  omega
theorem nearest_norm (s : Bool) (f e : Nat) (h : f < 4503599627370496) (he : e ≤ 2045) : D.nearest s (4503599627370496 + f) (-1074 + e) = D.word s ((e + 1) * 4503599627370496 + f) := by
  have h0 : 4503599627370496 + f ≠ 0 := by omega
  unfold Format.nearest
  rw [if_neg h0, log2_norm h]
  simp only [cut_E, Nat.shiftLeft_eq, fb, lp, bn, ir]
  rw [show max (-1074 + (e : Int) + (52 : Nat) - (52 : Nat)) (-1074) = -1074 + e by omega, show (-1074 + (e : Int) - -1074).toNat = e by omega]
  simp only [Int.sub_self, Int.toNat_zero, Nat.pow_zero, Nat.mul_one, cutE_zero]
  rw [Nat.min_eq_left (by omega), show e * 4503599627370496 + (4503599627370496 + f) = (e + 1) * 4503599627370496 + f by omega]

def mg (a : Nat) : Nat := if absN a < 4503599627370496 then absN a else 4503599627370496 + absN a % 4503599627370496
def ex (a : Nat) : Nat := if absN a < 4503599627370496 then 0 else absN a / 4503599627370496 - 1
def finN (a : Nat) : Prop := absN a < 9218868437227405312
theorem read_fin {a : Nat} (h : a < 18446744073709551616) (hf : finN a) : D.read a = .number (sgn a) (mg a) (-1074 + (ex a : Int)) := by
  unfold finN at hf
  rw [read_eq a h, if_pos hf]
  unfold mg ex
  split
  · rfl
  · rfl
theorem read_inf {a : Nat} (h : a < 18446744073709551616) (hf : absN a = 9218868437227405312) : D.read a = .infinity (sgn a) := by
  rw [read_eq a h, if_neg (by omega), if_neg (by omega), if_pos hf]
theorem word_sgn {a : Nat} (h : a < 18446744073709551616) : D.word (sgn a) (absN a) = a := by
  unfold Format.word sgn absN
  rw [sw]
  split
  · rename_i h1; rw [decide_eq_true_iff] at h1; omega
  · rename_i h1; rw [decide_eq_true_iff] at h1; omega
theorem word_lt' (s : Bool) {r : Nat} (h : r < 9223372036854775808) : D.word s r < 18446744073709551616 ∧ absN (D.word s r) = r ∧ sgn (D.word s r) = s := by
  unfold Format.word sgn absN
  rw [sw]
  cases s
  · refine ⟨?_, ?_, decide_eq_false ?_⟩ <;> simp <;> omega
  · refine ⟨?_, ?_, decide_eq_true ?_⟩ <;> simp <;> omega
theorem nearest_fin {a : Nat} (h : a < 18446744073709551616) (hf : finN a) (s : Bool) : D.nearest s (mg a) (-1074 + (ex a : Int)) = D.word s (absN a) := by
  unfold finN at hf
  unfold mg ex
  split
  · rename_i h1; exact nearest_sub s _ h1
  · rename_i h1
    rw [nearest_norm s _ _ (Nat.mod_lt _ (by decide)) (by omega)]
    congr 1
    omega
/-- The nearest word is a word with that sign, at most an infinity. -/
theorem nearest_word (s : Bool) (m : Nat) (p : Int) : ∃ r, r ≤ 9218868437227405312 ∧ D.nearest s m p = D.word s r ∧ ∀ t, D.nearest t m p = D.word t r := by
  by_cases h : m = 0
  · refine ⟨0, by omega, ?_, ?_⟩
    · unfold Format.nearest; rw [if_pos h]
    · intro t; unfold Format.nearest; rw [if_pos h]
  · refine ⟨min ((max (p + m.log2 - D.fractionBits) D.leastPlace - D.leastPlace).toNat * D.binade + cutE (m <<< (p - max (p + m.log2 - D.fractionBits) D.leastPlace).toNat) (max (p + m.log2 - D.fractionBits) D.leastPlace - p).toNat) D.infRung, ?_, ?_, ?_⟩
    · rw [ir]; exact Nat.min_le_right _ _
    · unfold Format.nearest; rw [if_neg h]; simp only [cut_E]
    · intro t; unfold Format.nearest; rw [if_neg h]; simp only [cut_E]
theorem compare_self_int (a : Int) : compare a a = .eq := by simp [compare, compareOfLessAndEq]
theorem compare_self_nat (a : Nat) : compare a a = .eq := by simp [compare, compareOfLessAndEq]
theorem order_self {r : Nat} (h : r < 18446744073709551616) (hn : absN r ≤ 9218868437227405312) : FloatKind.f64.format.order r r = some .eq := by
  show (D.read r).order (D.read r) = some .eq
  rcases Nat.lt_or_ge (absN r) 9218868437227405312 with h1 | h1
  · rw [read_fin h h1]
    simp only [Datum.order]
    rw [Int.min_self]
    congr 1
    exact compare_self_int _
  · rw [read_inf h (by omega)]
    simp only [Datum.order]
    congr 1
    exact compare_self_nat _
theorem toldN_ok {r : Nat} (h : r < 18446744073709551616) (hn : absN r ≤ 9218868437227405312) : toldN r = r := by
  unfold toldN
  rw [order_self h hn]
  rfl
theorem toldN_word (s : Bool) {r : Nat} (h : r ≤ 9218868437227405312) : toldN (D.word s r) = D.word s r := by
  have hw := word_lt' s (r := r) (by omega)
  exact toldN_ok hw.1 (by omega)
theorem toldN_nearest (s : Bool) (m : Nat) (p : Int) : toldN (D.nearest s m p) = D.nearest s m p := by
  obtain ⟨r, h, e, _⟩ := nearest_word s m p
  rw [e, toldN_word s h]
theorem fl_num {op : BinOp} {a b m : Nat} {s : Bool} {p : Int} (h : floatBits op .f64 a b = some (D.write (.number s m p))) : fl op a b = D.nearest s m p := by
  rw [fl_some h]; exact toldN_nearest s m p
theorem fl_inf {op : BinOp} {a b : Nat} {s : Bool} (h : floatBits op .f64 a b = some (D.write (.infinity s))) : fl op a b = D.word s 9218868437227405312 := by
  rw [fl_some h]
  show toldN (D.word s D.infRung) = _
  rw [ir, toldN_word s (Nat.le_refl _)]
end Go.Proofs.YtmjheiedoihohaaDoor
