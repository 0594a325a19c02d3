/-
  Numbers at their edges, without a program: what a word reads as; the nearest word depends on the value alone; a word's own number is nearest to it.
-/
import Derived.Test.YtmjheiedoihohaaDoorF3
namespace Go.Proofs.YtmjheiedoihohaaDoor
open Ieee
set_option linter.unusedVariables false

abbrev D : Format := Ieee.double
theorem sw : D.signWeight = 9223372036854775808 := by decide
theorem ir : D.infRung = 9218868437227405312 := by decide
theorem bn : D.binade = 4503599627370496 := by decide
theorem lp : D.leastPlace = -1074 := by decide
theorem fb : D.fractionBits = 52 := rfl

def sgn (n : Nat) : Bool := decide (9223372036854775808 ≤ n)
theorem read_eq (n : Nat) (h : n < 18446744073709551616) : D.read n = if absN n < 4503599627370496 then .number (sgn n) (absN n) (-1074)
    else if absN n < 9218868437227405312 then .number (sgn n) (4503599627370496 + absN n % 4503599627370496) (-1074 + (absN n / 4503599627370496 - 1 : Nat))
    else if absN n = 9218868437227405312 then .infinity (sgn n) else .nan (sgn n) (absN n - 9218868437227405312) := by
  have hs : (n / 9223372036854775808 % 2 == 1) = sgn n := by
    unfold sgn
    rw [Bool.eq_iff_iff, beq_iff_eq, decide_eq_true_iff]
    omega
  unfold Format.read
  simp only [sw, ir, bn, lp, hs]
  rfl
theorem read_nan {n : Nat} (h : n < 18446744073709551616) (hn : isNan n = true) : ∃ s f, D.read n = .nan s f := by
  unfold isNan at hn
  rw [decide_eq_true_iff] at hn
  refine ⟨sgn n, absN n - 9218868437227405312, ?_⟩
  rw [read_eq n h, if_neg (by omega), if_neg (by omega), if_neg (by omega)]
theorem sum_nan_r (x : Datum) (s : Bool) (f : Nat) : x.sum (.nan s f) = none := by cases x <;> rfl
theorem product_nan_r (x : Datum) (s : Bool) (f : Nat) : x.product (.nan s f) = none := by cases x <;> rfl
theorem quotient_nan_r (d : Nat) (x : Datum) (s : Bool) (f : Nat) : x.quotient d (.nan s f) = none := by cases x <;> rfl
theorem order_nan_r (x : Datum) (s : Bool) (f : Nat) : x.order (.nan s f) = none := by cases x <;> rfl
theorem fl_none {op : BinOp} {a b : Nat} (h : floatBits op .f64 a b = none) : fl op a b = 9221120237041090560 := by unfold fl; rw [h]
theorem fl_some {op : BinOp} {a b r : Nat} (h : floatBits op .f64 a b = some r) : fl op a b = toldN r := by unfold fl; rw [h]
theorem add_def (a b : Nat) : floatBits .add .f64 a b = ((D.read a).sum (D.read b)).map D.write := rfl
theorem sub_def (a b : Nat) : floatBits .sub .f64 a b = ((D.read a).sum (D.read b).opposite).map D.write := rfl
theorem mul_def (a b : Nat) : floatBits .mul .f64 a b = ((D.read a).product (D.read b)).map D.write := rfl
theorem div_def (a b : Nat) : floatBits .quo .f64 a b = ((D.read a).quotient 54 (D.read b)).map D.write := rfl
theorem fl_nan_add {n : Nat} (a : Nat) (h : n < 18446744073709551616) (hn : isNan n = true) : fl .add n a = 9221120237041090560 := by
  obtain ⟨s, f, hr⟩ := read_nan h hn
  apply fl_none; rw [add_def, hr]; rfl
theorem fl_nan_mul {n : Nat} (a : Nat) (h : n < 18446744073709551616) (hn : isNan n = true) : fl .mul n a = 9221120237041090560 := by
  obtain ⟨s, f, hr⟩ := read_nan h hn
  apply fl_none; rw [mul_def, hr]; rfl
theorem fl_nan_sub {n : Nat} (a : Nat) (h : n < 18446744073709551616) (hn : isNan n = true) : fl .sub a n = 9221120237041090560 := by
  obtain ⟨s, f, hr⟩ := read_nan h hn
  apply fl_none; rw [sub_def, hr, Datum.opposite, sum_nan_r]; rfl
theorem fl_nan_div {n : Nat} (a : Nat) (h : n < 18446744073709551616) (hn : isNan n = true) : fl .quo a n = 9221120237041090560 := by
  obtain ⟨s, f, hr⟩ := read_nan h hn
  apply fl_none; rw [div_def, hr, quotient_nan_r]; rfl
theorem kind_nan {n : Nat} (hn : isNan n = true) : kindN n = 4 := by
  have := kind4 n
  rw [hn] at this
  simp at this
  omega
theorem neg_neg {n : Nat} (h : n < 18446744073709551616) : negN (negN n) = n := by unfold negN; split <;> split <;> omega

end Go.Proofs.YtmjheiedoihohaaDoor
