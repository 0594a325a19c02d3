/-
  Edges: noughts and infinities; how words stand to each other.
-/
import Derived.Test.YtmjheiedoihohaaDoorM4
namespace Go.Proofs.YtmjheiedoihohaaDoor
open Ieee
set_option linter.unusedVariables false

def zeroW (s : Bool) : Nat := if s then 9223372036854775808 else 0
def infW (s : Bool) : Nat := if s then 18442240474082181120 else 9218868437227405312
theorem word_zero (s : Bool) : D.word s 0 = zeroW s := by cases s <;> decide
theorem word_infW (s : Bool) : D.word s 9218868437227405312 = infW s := by cases s <;> decide
theorem read_zeroW (s : Bool) : D.read (zeroW s) = .number s 0 (-1074) := by cases s <;> decide
theorem read_infW (s : Bool) : D.read (infW s) = .infinity s := by cases s <;> decide
theorem nearest_zero (s : Bool) (p : Int) : D.nearest s 0 p = zeroW s := by rw [← word_zero]; rfl

theorem zi_mul (s t : Bool) : fl .mul (zeroW s) (infW t) = 9221120237041090560 := by
  apply fl_none; rw [mul_def, read_zeroW, read_infW]; rfl
theorem ii_div (t : Bool) : fl .quo (infW t) (infW t) = 9221120237041090560 := by
  apply fl_none; rw [div_def, read_infW]; rfl
theorem zz_div (s : Bool) : fl .quo (zeroW s) (zeroW s) = 9221120237041090560 := by
  apply fl_none; rw [div_def, read_zeroW]; rfl

section
variable {a : Nat} (h : a < 18446744073709551616) (hf : finN a) (h0 : absN a ≠ 0)
include h hf
theorem az_add (h0 : absN a ≠ 0) (s : Bool) : fl .add a (zeroW s) = a := by rw [← word_zero]; exact add_nought h hf h0 s
theorem ai_add (t : Bool) : fl .add a (infW t) = infW t := by
  rw [fl_inf (s := t), word_infW]
  rw [add_def, read_fin h hf, read_infW]; rfl
theorem az_mul (s : Bool) : fl .mul a (zeroW s) = zeroW (sgn a ^^ s) := by
  rw [fl_num (s := sgn a ^^ s) (m := 0) (p := -1074 + (ex a : Int) + -1074), nearest_zero]
  rw [mul_def, read_fin h hf, read_zeroW]
  simp only [Datum.product, Nat.mul_zero, Option.map_some]
theorem ai_mul (h0 : absN a ≠ 0) (t : Bool) : fl .mul a (infW t) = infW (sgn a ^^ t) := by
  rw [fl_inf (s := sgn a ^^ t), word_infW]
  rw [mul_def, read_fin h hf, read_infW]
  simp only [Datum.product]
  rw [if_neg (fun h1 => h0 (mg_zero.1 h1)), Option.map_some, Bool.xor_comm]
theorem az_div (h0 : absN a ≠ 0) (s : Bool) : fl .quo a (zeroW s) = infW (sgn a ^^ s) := by
  rw [fl_inf (s := sgn a ^^ s), word_infW]
  rw [div_def, read_fin h hf, read_zeroW]
  simp only [Datum.quotient]
  rw [if_pos trivial, if_neg (fun h1 => h0 (mg_zero.1 h1)), Option.map_some]
theorem ai_div (t : Bool) : fl .quo a (infW t) = zeroW (sgn a ^^ t) := by
  rw [fl_num (s := sgn a ^^ t) (m := 0) (p := 0), nearest_zero]
  rw [div_def, read_fin h hf, read_infW]; rfl
theorem aa_sub : fl .sub a a = 0 := by
  rw [fl_num (s := false) (m := 0) (p := -1074 + (ex a : Int)), nearest_zero]
  · rfl
  rw [sub_def, read_fin h hf]
  simp only [Datum.opposite, Datum.sum, Option.map_some]
  rw [Int.min_self, Int.sub_self]
  have e : signed (sgn a) (mg a) (Int.toNat 0) + signed (!sgn a) (mg a) (Int.toNat 0) = 0 := by
    rw [signed_eq, signed_eq]; cases sgn a <;> simp <;> omega
  rw [e]
  simp
end

/-- The nearest word to a sum, of two finite words. -/
theorem sum_comm (x y : Datum) : x.sum y = y.sum x := by
  cases x <;> cases y <;> simp only [Datum.sum]
  · rename_i s m i t n j
    rw [Int.min_comm, Int.add_comm, Bool.and_comm]
  · rename_i s t
    by_cases h : s = t
    · subst h; rfl
    · rw [if_neg h, if_neg (fun e => h e.symm)]
theorem product_comm (x y : Datum) : x.product y = y.product x := by
  cases x <;> cases y <;> simp only [Datum.product]
  · rename_i s m i t n j
    rw [Nat.mul_comm, Int.add_comm, Bool.xor_comm]
  · rename_i s t
    rw [Bool.xor_comm]
theorem fl_add_comm (a b : Nat) : fl .add a b = fl .add b a := by unfold fl; rw [add_def, add_def, sum_comm]
theorem fl_mul_comm (a b : Nat) : fl .mul a b = fl .mul b a := by unfold fl; rw [mul_def, mul_def, product_comm]

theorem cmp3 (a b : Int) : (a < b ∧ compare a b = .lt ∧ compare b a = .gt) ∨ (a = b ∧ compare a b = .eq ∧ compare b a = .eq) ∨ (b < a ∧ compare a b = .gt ∧ compare b a = .lt) := by
  simp only [compare, compareOfLessAndEq]
  rcases Int.lt_trichotomy a b with h | h | h
  · exact Or.inl ⟨h, if_pos h, by rw [if_neg (by omega), if_neg (by omega)]⟩
  · subst h; exact Or.inr (Or.inl ⟨rfl, by rw [if_neg (by omega), if_pos rfl], by rw [if_neg (by omega), if_pos rfl]⟩)
  · exact Or.inr (Or.inr ⟨h, by rw [if_neg (by omega), if_neg (by omega)], if_pos h⟩)
end Go.Proofs.YtmjheiedoihohaaDoor
