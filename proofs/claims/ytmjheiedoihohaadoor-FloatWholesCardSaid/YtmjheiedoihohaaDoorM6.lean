/-
  How words stand to each other: one less, more, or the same; turned, the other way.
-/
import Derived.Test.YtmjheiedoihohaaDoorM5
namespace Go.Proofs.YtmjheiedoihohaaDoor
open Ieee
set_option linter.unusedVariables false

theorem cmp3n (a b : Nat) : (a < b ∧ compare a b = .lt ∧ compare b a = .gt) ∨ (a = b ∧ compare a b = .eq ∧ compare b a = .eq) ∨ (b < a ∧ compare a b = .gt ∧ compare b a = .lt) := by
  simp only [compare, compareOfLessAndEq]
  rcases Nat.lt_trichotomy a b with h | h | h
  · exact Or.inl ⟨h, if_pos h, by rw [if_neg (by omega), if_neg (by omega)]⟩
  · subst h; exact Or.inr (Or.inl ⟨rfl, by rw [if_neg (by omega), if_pos rfl], by rw [if_neg (by omega), if_pos rfl]⟩)
  · exact Or.inr (Or.inr ⟨h, by rw [if_neg (by omega), if_neg (by omega)], if_pos h⟩)
def Datum.num : Datum → Bool
  | .nan .. => false
  | _ => true
theorem num_read {a : Nat} (h : a < 18446744073709551616) (hn : isNan a = false) : Datum.num (D.read a) = true := by
  rcases fin_or hn with hf | hi
  · rw [read_fin h hf]; rfl
  · rw [read_inf h hi]; rfl
/-- Each way of standing, and how it is from the other side. -/
theorem order3 {x y : Datum} (hx : Datum.num x = true) (hy : Datum.num y = true) :
    (x.order y = some .lt ∧ y.order x = some .gt) ∨ (x.order y = some .eq ∧ y.order x = some .eq) ∨ (x.order y = some .gt ∧ y.order x = some .lt) := by
  cases x with
  | nan => cases hx
  | infinity s =>
    cases y with
    | nan => cases hy
    | infinity t => simp only [Datum.order]; cases s <;> cases t <;> decide
    | number t n j => simp only [Datum.order]; cases s <;> simp
  | number s m i =>
    cases y with
    | nan => cases hy
    | infinity t => simp only [Datum.order]; cases t <;> simp
    | number t n j =>
      simp only [Datum.order]
      rw [Int.min_comm j i]
      rcases cmp3 (signed s m (i - min i j).toNat) (signed t n (j - min i j).toNat) with ⟨_, h1, h2⟩ | ⟨_, h1, h2⟩ | ⟨_, h1, h2⟩ <;> rw [h1, h2] <;> simp
theorem signed_opp (s : Bool) (m k : Nat) : signed (!s) m k = -signed s m k := by
  rw [signed_eq, signed_eq]; cases s <;> simp
theorem cmp_neg (a b : Int) : compare (-b) (-a) = compare a b := by
  rcases cmp3 a b with ⟨h, h1, h2⟩ | ⟨h, h1, h2⟩ | ⟨h, h1, h2⟩ <;> rcases cmp3 (-b) (-a) with ⟨g, g1, g2⟩ | ⟨g, g1, g2⟩ | ⟨g, g1, g2⟩ <;> first | exact g1.trans h1.symm | (exfalso; omega)
theorem order_opp (x y : Datum) : y.opposite.order x.opposite = x.order y := by
  cases x with
  | nan => cases y <;> rfl
  | infinity s =>
    cases y with
    | nan => rfl
    | infinity t => simp only [Datum.opposite, Datum.order]; cases s <;> cases t <;> decide
    | number t n j => simp only [Datum.opposite, Datum.order]; cases s <;> rfl
  | number s m i =>
    cases y with
    | nan => rfl
    | infinity t => simp only [Datum.opposite, Datum.order]; cases t <;> rfl
    | number t n j =>
      simp only [Datum.opposite, Datum.order]
      rw [Int.min_comm j i, signed_opp, signed_opp, cmp_neg]
theorem sgn_neg {a : Nat} (h : a < 18446744073709551616) : sgn (negN a) = !sgn a := by
  unfold sgn negN
  rw [Bool.eq_iff_iff, Bool.not_eq_true', decide_eq_true_iff, decide_eq_false_iff_not]
  split <;> omega
theorem absN_neg {a : Nat} (h : a < 18446744073709551616) : absN (negN a) = absN a := by unfold absN negN; split <;> omega
theorem negN_lt64 {n : Nat} (h : n < 18446744073709551616) : negN n < 18446744073709551616 := by unfold negN; split <;> omega
theorem isNan_neg {a : Nat} (h : a < 18446744073709551616) : isNan (negN a) = isNan a := by unfold isNan; rw [absN_neg h]
theorem read_neg {a : Nat} (h : a < 18446744073709551616) (hn : isNan a = false) : D.read (negN a) = (D.read a).opposite := by
  rcases fin_or hn with hf | hi
  · rw [read_fin h hf, read_fin (negN_lt64 h) (by unfold finN; rw [absN_neg h]; exact hf)]
    unfold mg ex
    rw [absN_neg h, sgn_neg h]
    rfl
  · rw [read_inf h hi, read_inf (negN_lt64 h) (by rw [absN_neg h]; exact hi), sgn_neg h]
    rfl
theorem ord3 {a b : Nat} (ha : a < 18446744073709551616) (hb : b < 18446744073709551616) (na : isNan a = false) (nb : isNan b = false) :
    (ordN a b = some .lt ∧ ordN b a = some .gt) ∨ (ordN a b = some .eq ∧ ordN b a = some .eq) ∨ (ordN a b = some .gt ∧ ordN b a = some .lt) := order3 (num_read ha na) (num_read hb nb)
theorem ord_neg {a b : Nat} (ha : a < 18446744073709551616) (hb : b < 18446744073709551616) (na : isNan a = false) (nb : isNan b = false) : ordN (negN b) (negN a) = ordN a b := by
  show (D.read (negN b)).order (D.read (negN a)) = _
  rw [read_neg ha na, read_neg hb nb, order_opp]
  rfl
end Go.Proofs.YtmjheiedoihohaaDoor
