/- Shifts and turns: what single steps make. -/
import Derived.Test.YtgeeecoclhomiaaDoorRa
namespace Go.Proofs.YtgeeecoclhomiaaDoor
open Go.RowKit
set_option linter.unusedVariables false
set_option linter.unusedSimpArgs false
set_option linter.unusedSectionVars false

abbrev IsShift (op : Int) : Prop := op = 21 ∨ op = 22 ∨ op = 23 ∨ op = 24 ∨ op = 25
theorem res0 (op a : Int) : resS op a 0 = a := by unfold resS; rw [if_pos rfl]
theorem fl0 (op a : Int) (f : Nat → Bool) : flS op a 0 f = f := by unfold flS; rw [if_pos rfl]
theorem res21 (a : Int) (h : 0 ≤ a ∧ a ≤ 4294967295) {k : Nat} (hk : 1 ≤ k ∧ k ≤ 31) : resS 21 a k = a * 2 ^ k % 4294967296 + a / 2 ^ (32 - k) := by
  unfold resS; rw [if_neg (by omega), if_pos rfl]; exact rol_sum a h k hk
theorem res22 (a : Int) (h : 0 ≤ a ∧ a ≤ 4294967295) {k : Nat} (hk : 1 ≤ k ∧ k ≤ 31) : resS 22 a k = a * 2 ^ (32 - k) % 4294967296 + a / 2 ^ k := by
  unfold resS; rw [if_neg (by omega), if_neg (by decide), if_pos rfl]; exact ror_rol a h k hk
theorem res23 (a : Int) {k : Nat} (hk : k ≠ 0) : resS 23 a k = a * 2 ^ k % 4294967296 := by
  unfold resS; rw [if_neg hk, if_neg (by decide), if_neg (by decide), if_pos rfl]
theorem res24 (a : Int) {k : Nat} (hk : k ≠ 0) : resS 24 a k = a / 2 ^ k := by
  unfold resS; rw [if_neg hk, if_neg (by decide), if_neg (by decide), if_neg (by decide), if_pos rfl]
theorem res25 (a : Int) {k : Nat} (hk : k ≠ 0) : resS 25 a k = wrap32 a / 2 ^ k % 4294967296 := by
  unfold resS; rw [if_neg hk, if_neg (by decide), if_neg (by decide), if_neg (by decide), if_neg (by decide)]
theorem res_bd (op a : Int) (hop : IsShift op) (h : 0 ≤ a ∧ a ≤ 4294967295) (k : Nat) (hk : k ≤ 31) : 0 ≤ resS op a k ∧ resS op a k ≤ 4294967295 := by
  by_cases h0 : k = 0
  · subst h0; rw [res0]; exact h
  · have hd := div_pow_bd k h
    have hd2 := div_pow_bd (32 - k) h
    rcases hop with rfl | rfl | rfl | rfl | rfl
    · unfold resS; rw [if_neg h0, if_pos rfl]; exact or_bd (by omega) hd2
    · unfold resS; rw [if_neg h0, if_neg (by decide), if_pos rfl]; exact or_bd hd (by omega)
    · rw [res23 a h0]; omega
    · rw [res24 a h0]; exact hd
    · rw [res25 a h0]; omega
theorem fl_pos (op a : Int) {k : Nat} (hk : k ≠ 0) (f : Nat → Bool) : flS op a k f = shG (clsS op) k a (resS op a k) (lastS op k) f := by unfold flS; rw [if_neg hk]
theorem shift_gen (op a n : Int) (hop : IsShift op) (f : Nat → Bool) (k : Nat) (hk : k ≤ 31) (h : 0 ≤ a ∧ a ≤ 4294967295) (hn : 0 ≤ n ∧ n ≤ 4294967295) (hm : n % 32 = (k : Int)) :
    ShiftsTo op a n f (resS op a k) (flS op a k f) := by
  by_cases h0 : k = 0
  · subst h0
    rw [res0, fl0]
    exact shift_zero op a n f hn hm
  · have hb := res_bd op a hop h k hk
    rw [fl_pos op a h0 f]
    rcases hop with rfl | rfl | rfl | rfl | rfl
    · rw [show resS 21 a k = bits .or .u32 (a * 2 ^ k % 4294967296) (a / 2 ^ (32 - k)) by unfold resS; rw [if_neg h0, if_pos rfl]] at hb ⊢
      exact shift_rol a n f k (by omega) h hn hm hb
    · rw [show resS 22 a k = bits .or .u32 (a / 2 ^ k) (a * 2 ^ (32 - k) % 4294967296) by unfold resS; rw [if_neg h0, if_neg (by decide), if_pos rfl]] at hb ⊢
      exact shift_ror a n f k (by omega) h hn hm hb
    · rw [res23 a h0] at hb ⊢
      exact shift_shl a n f k (by omega) h hn hm hb
    · rw [res24 a h0] at hb ⊢
      exact shift_shr a n f k (by omega) h hn hm hb
    · rw [res25 a h0] at hb ⊢
      exact shift_sar a n f k (by omega) h hn hm hb
theorem p1 : ((2 : Int) ^ 1) = 2 := rfl
theorem p31 : ((2 : Int) ^ (32 - 1)) = 2147483648 := rfl
theorem res_step (op a : Int) (hop : IsShift op) (h : 0 ≤ a ∧ a ≤ 4294967295) (j : Nat) (hj : j ≤ 30) : resS op (resS op a j) 1 = resS op a (j + 1) := by
  by_cases h0 : j = 0
  · subst h0; rw [res0]
  · have hb := res_bd op a hop h j (by omega)
    rcases hop with rfl | rfl | rfl | rfl | rfl
    · rw [res21 _ hb (by decide), res21 a h (by omega), res21 a h (by omega), p1, p31]; exact rol_step a h j (by omega)
    · rw [res22 _ hb (by decide), res22 a h (by omega), res22 a h (by omega), p1, p31]; exact ror_step a h j (by omega)
    · rw [res23 _ (by decide), res23 a h0, res23 a (by omega), p1]; exact (shl_step a h j (by omega)).1
    · rw [res24 _ (by decide), res24 a h0, res24 a (by omega), p1]; exact shr_step a h j (by omega)
    · rw [res25 _ (by decide), res25 a h0, res25 a (by omega), p1]; exact (sar_step a h j (by omega)).1
theorem bit_eq {x y : Int} {k m : Nat} (h : x / 2 ^ k % 2 = y / 2 ^ m % 2) : bitB x k = bitB y m := by unfold bitB; rw [h]
theorem bit_step (op a : Int) (hop : IsShift op) (h : 0 ≤ a ∧ a ≤ 4294967295) (j : Nat) (hj : j ≤ 30) : bitB (resS op a j) (lastS op 1) = bitB a (lastS op (j + 1)) := by
  by_cases h0 : j = 0
  · subst h0; rw [res0]
  · have p0 : ((2 : Int) ^ 0) = 1 := rfl
    have q31 : ((2 : Int) ^ 31) = 2147483648 := rfl
    rcases hop with rfl | rfl | rfl | rfl | rfl
    · rw [res21 a h (by omega)]
      refine bit_eq ?_
      rw [show lastS 21 1 = 31 from rfl, show lastS 21 (j + 1) = 32 - (j + 1) from rfl, q31]
      exact rol_bit a h j (by omega)
    · rw [res22 a h (by omega)]
      refine bit_eq ?_
      rw [show lastS 22 1 = 0 from rfl, show lastS 22 (j + 1) = j from rfl, p0, Int.ediv_one]
      exact ror_bit a h j (by omega)
    · rw [res23 a h0]
      refine bit_eq ?_
      rw [show lastS 23 1 = 31 from rfl, show lastS 23 (j + 1) = 32 - (j + 1) from rfl, q31]
      exact (shl_step a h j (by omega)).2
    · rw [res24 a h0]
      refine bit_eq ?_
      rw [show lastS 24 1 = 0 from rfl, show lastS 24 (j + 1) = j from rfl, p0, Int.ediv_one]
    · rw [res25 a h0]
      refine bit_eq ?_
      rw [show lastS 25 1 = 0 from rfl, show lastS 25 (j + 1) = j from rfl, p0, Int.ediv_one]
      exact (sar_step a h j (by omega)).2
theorem cf_at (op a : Int) (hop : IsShift op) {k : Nat} (hk : k ≠ 0) (f : Nat → Bool) : flS op a k f 0 = bitB a (lastS op k) := by
  rw [fl_pos op a hk f]
  rcases hop with rfl | rfl | rfl | rfl | rfl <;> rfl
theorem fl_at (op a : Int) (hop : IsShift op) (h22 : 22 < op) {k : Nat} (hk : k ≠ 0) (f : Nat → Bool) :
    flS op a k f 1 = evenS (resS op a k).toNat 8 ∧ flS op a k f 3 = (resS op a k == 0) ∧ flS op a k f 4 = bitB (resS op a k) 31 := by
  rw [fl_pos op a hk f]
  rcases hop with rfl | rfl | rfl | rfl | rfl
  · omega
  · omega
  · exact ⟨rfl, rfl, rfl⟩
  · exact ⟨rfl, rfl, rfl⟩
  · exact ⟨rfl, rfl, rfl⟩
theorem fl_step (op a : Int) (hop : IsShift op) (h : 0 ≤ a ∧ a ≤ 4294967295) (j : Nat) (hj : j ≤ 30) (H f : Nat → Bool) :
    flS op (resS op a j) 1 H 0 = flS op a (j + 1) f 0 ∧
    (22 < op → flS op (resS op a j) 1 H 1 = flS op a (j + 1) f 1 ∧ flS op (resS op a j) 1 H 3 = flS op a (j + 1) f 3 ∧ flS op (resS op a j) 1 H 4 = flS op a (j + 1) f 4) := by
  refine ⟨?_, fun h22 => ?_⟩
  · rw [cf_at op _ hop (by decide), cf_at op a hop (by omega)]
    exact bit_step op a hop h j hj
  · obtain ⟨x1, x2, x3⟩ := fl_at op (resS op a j) hop h22 (k := 1) (by decide) H
    obtain ⟨y1, y2, y3⟩ := fl_at op a hop h22 (k := j + 1) (by omega) f
    rw [x1, x2, x3, y1, y2, y3, res_step op a hop h j hj]
    exact ⟨rfl, rfl, rfl⟩
theorem turned_back (a : Int) (h : 0 ≤ a ∧ a ≤ 4294967295) (k : Nat) (hk : k ≤ 31) : resS 22 (resS 21 a k) k = a := by
  by_cases h0 : k = 0
  · subst h0; rw [res0, res0]
  · have hb := res_bd 21 a (.inl rfl) h k hk
    rw [res22 _ hb (by omega), res21 a h (by omega)]
    exact turn_back a h k (by omega)
end Go.Proofs.YtgeeecoclhomiaaDoor
