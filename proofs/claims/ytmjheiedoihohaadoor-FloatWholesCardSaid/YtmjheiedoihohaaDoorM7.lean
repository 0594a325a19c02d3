/-
  Whole numbers: their words, and what is made of them.
-/
import Derived.Test.YtmjheiedoihohaaDoorM6
namespace Go.Proofs.YtmjheiedoihohaaDoor
open Ieee
set_option linter.unusedVariables false

def whN (v : Int) : Nat := D.nearest (decide (v < 0)) v.natAbs 0
theorem near_pow (s : Bool) (n k f : Nat) (hk : k ≤ 52) (hf : n * 2 ^ k = 4503599627370496 + f) (h : f < 4503599627370496) : D.nearest s n 0 = D.word s ((1075 - k) * 4503599627370496 + f) := by
  have h1 := nearest_mul s n k (-(k : Int))
  rw [show -(k : Int) + k = 0 by omega, hf, show -(k : Int) = -1074 + ((1074 - k : Nat) : Int) by omega, nearest_norm s f (1074 - k) h (by omega), show 1074 - k + 1 = 1075 - k by omega] at h1
  exact h1.symm
/-- What a word of a whole number reads as. -/
structure Reads (x : Nat) (v : Int) : Prop where
  lt : x < 18446744073709551616
  nn : isNan x = false
  rd : ∃ k : Nat, D.read x = .number (decide (v < 0)) (v.natAbs * 2 ^ k) (-(k : Int)) ∧ (v ≠ 0 → k ≤ 52 ∧ (v.natAbs * 2 ^ k).log2 = 52)
theorem whN_reads (v : Int) (h : v.natAbs < 9007199254740992) : Reads (whN v) v := by
  by_cases h0 : v = 0
  · subst h0
    have e : whN 0 = 0 := by decide
    rw [e]
    obtain ⟨K, hK⟩ : ∃ K : Nat, K = 1074 := ⟨_, rfl⟩
    refine ⟨by decide, by decide, K, ?_, fun h => absurd rfl h⟩
    rw [Int.natAbs_zero, Nat.zero_mul, hK]
    decide
  have hn : v.natAbs ≠ 0 := by omega
  have hl : v.natAbs.log2 < 53 := (Nat.log2_lt hn).2 (by simpa using h)
  have h1 := Nat.log2_self_le hn
  have h2 : v.natAbs < 2 ^ (v.natAbs.log2 + 1) := Nat.lt_log2_self
  have hk : ∃ k, k ≤ 52 ∧ v.natAbs.log2 + k = 52 := ⟨52 - v.natAbs.log2, by omega, by omega⟩
  obtain ⟨k, hk, hs⟩ := hk
  have a1 : 4503599627370496 ≤ v.natAbs * 2 ^ k := by
    have := Nat.mul_le_mul_right (2 ^ k) h1
    rw [← Nat.pow_add, hs] at this
    exact this
  have a2 : v.natAbs * 2 ^ k < 9007199254740992 := by
    have := Nat.mul_lt_mul_of_pos_right h2 (Nat.two_pow_pos k)
    rw [← Nat.pow_add, show v.natAbs.log2 + 1 + k = 53 by omega] at this
    exact this
  obtain ⟨f, hf⟩ : ∃ f, v.natAbs * 2 ^ k = 4503599627370496 + f := ⟨v.natAbs * 2 ^ k - 4503599627370496, by omega⟩
  have hf2 : f < 4503599627370496 := by omega
  have e : whN v = D.word (decide (v < 0)) ((1075 - k) * 4503599627370496 + f) := near_pow _ _ k f hk hf hf2
  have hw := word_lt' (decide (v < 0)) (r := (1075 - k) * 4503599627370496 + f) (by omega)
  rw [← e] at hw
  have hfin : finN (whN v) := by unfold finN; omega
  refine ⟨hw.1, ?_, k, ?_, fun _ => ⟨hk, ?_⟩⟩
  · unfold isNan; rw [decide_eq_false_iff_not]; omega
  · rw [read_fin hw.1 hfin, hw.2.2]
    unfold mg ex
    rw [hw.2.1, if_neg (by omega), if_neg (by omega), hf, show ((1075 - k) * 4503599627370496 + f) % 4503599627370496 = f by omega, show ((1075 - k) * 4503599627370496 + f) / 4503599627370496 = 1075 - k by omega]
    congr 1
    omega
  · rw [hf]; exact log2_norm hf2
theorem signed_val (v : Int) (k j : Nat) : signed (decide (v < 0)) (v.natAbs * 2 ^ k) j = v * ((2 ^ (k + j) : Nat) : Int) := by
  rw [signed_eq, Nat.mul_assoc, ← Nat.pow_add]
  generalize 2 ^ (k + j) = q
  by_cases h : v < 0
  · rw [decide_eq_true h, if_pos rfl, Int.natCast_mul, ← Int.neg_mul]
    congr 1; omega
  · rw [decide_eq_false h, if_neg (by decide), Int.natCast_mul]
    congr 1; omega
theorem signed_val' (v : Int) (k j : Nat) : signed (!decide (v < 0)) (v.natAbs * 2 ^ k) j = -v * ((2 ^ (k + j) : Nat) : Int) := by
  rw [signed_opp, signed_val, Int.neg_mul]
theorem near_val (z : Bool) (u : Int) (K : Nat) (hz : u = 0 → z = false) : D.nearest (if u * ((2 ^ K : Nat) : Int) = 0 then z else decide (u * ((2 ^ K : Nat) : Int) < 0)) (u * ((2 ^ K : Nat) : Int)).natAbs (-(K : Int)) = whN u := by
  have hp : (0 : Int) < ((2 ^ K : Nat) : Int) := by have := Nat.two_pow_pos K; omega
  rw [Int.natAbs_mul, Int.natAbs_natCast, nearest_pow _ _ _ _ 0 (by omega)]
  unfold whN
  congr 1
  by_cases h : u = 0
  · subst h; rw [Int.zero_mul, if_pos rfl, hz rfl]; rfl
  · rw [if_neg (fun e => by rcases Int.mul_eq_zero.1 e with h1 | h1 <;> omega), decide_eq_decide]
    constructor
    · intro h1
      rcases Int.lt_or_le u 0 with h2 | h2
      · exact h2
      · have := Int.mul_nonneg h2 (Int.le_of_lt hp); omega
    · intro h1; exact Int.mul_neg_of_neg_of_pos h1 hp
theorem base_eq (k l : Nat) : min (-(k : Int)) (-(l : Int)) = -((max k l : Nat) : Int) := by omega
theorem wh_add {x y : Nat} {v u : Int} (hx : Reads x v) (hy : Reads y u) : fl .add x y = whN (v + u) := by
  obtain ⟨k, rx, _⟩ := hx.rd
  obtain ⟨l, ry, _⟩ := hy.rd
  rw [← near_val (decide (v < 0) && decide (u < 0)) (v + u) (max k l) (by intro h; by_cases h1 : v < 0 <;> by_cases h2 : u < 0 <;> simp [h1, h2] <;> omega)]
  apply fl_num
  rw [add_def, rx, ry]
  simp only [Datum.sum, Option.map_some]
  rw [base_eq, signed_val, signed_val, show k + (-(k : Int) - -((max k l : Nat) : Int)).toNat = max k l by omega, show l + (-(l : Int) - -((max k l : Nat) : Int)).toNat = max k l by omega, ← Int.add_mul]
theorem wh_sub {x y : Nat} {v u : Int} (hx : Reads x v) (hy : Reads y u) : fl .sub x y = whN (v - u) := by
  obtain ⟨k, rx, _⟩ := hx.rd
  obtain ⟨l, ry, _⟩ := hy.rd
  rw [← near_val (decide (v < 0) && !decide (u < 0)) (v - u) (max k l) (by intro h; by_cases h1 : v < 0 <;> by_cases h2 : u < 0 <;> simp [h1, h2] <;> omega)]
  apply fl_num
  rw [sub_def, rx, ry]
  simp only [Datum.opposite, Datum.sum, Option.map_some]
  rw [base_eq, signed_val, signed_val', show k + (-(k : Int) - -((max k l : Nat) : Int)).toNat = max k l by omega, show l + (-(l : Int) - -((max k l : Nat) : Int)).toNat = max k l by omega, ← Int.add_mul, ← Int.sub_eq_add_neg]
theorem wh_mul {x y : Nat} {v u : Int} (hx : Reads x v) (hy : Reads y u) : fl .mul x y = D.nearest (decide (v < 0) ^^ decide (u < 0)) (v * u).natAbs 0 := by
  obtain ⟨k, rx, _⟩ := hx.rd
  obtain ⟨l, ry, _⟩ := hy.rd
  rw [← nearest_pow _ (v * u).natAbs (k + l) (-(k : Int) + -(l : Int)) 0 (by omega)]
  apply fl_num
  rw [mul_def, rx, ry]
  simp only [Datum.product, Option.map_some]
  congr 3
  rw [Int.natAbs_mul, Nat.pow_add]
  ac_rfl
theorem wh_mul_abs {x y : Nat} {v u : Int} (hx : Reads x v) (hy : Reads y u) : absN (fl .mul x y) = absN (whN (v * u)) := by
  rw [wh_mul hx hy]
  unfold whN
  obtain ⟨r, hr, e, ht⟩ := nearest_word (decide (v < 0) ^^ decide (u < 0)) (v * u).natAbs 0
  rw [e, ht, (word_lt' _ (r := r) (by omega)).2.1, (word_lt' _ (r := r) (by omega)).2.1]
theorem wh_mul_ne {x y : Nat} {v u : Int} (hx : Reads x v) (hy : Reads y u) (hv : v ≠ 0) (hu : u ≠ 0) : fl .mul x y = whN (v * u) := by
  rw [wh_mul hx hy]
  unfold whN
  congr 1
  by_cases h1 : v < 0 <;> by_cases h2 : u < 0
  · have := Int.mul_pos_of_neg_of_neg h1 h2
    rw [decide_eq_true h1, decide_eq_true h2, decide_eq_false (by omega)]; rfl
  · have := Int.mul_neg_of_neg_of_pos h1 (show 0 < u by omega)
    rw [decide_eq_true h1, decide_eq_false h2, decide_eq_true this]; rfl
  · have := Int.mul_neg_of_pos_of_neg (show 0 < v by omega) h2
    rw [decide_eq_false h1, decide_eq_true h2, decide_eq_true this]; rfl
  · have := Int.mul_pos (show 0 < v by omega) (show 0 < u by omega)
    rw [decide_eq_false h1, decide_eq_false h2, decide_eq_false (by omega)]; rfl
theorem cmp_scale (v u : Int) (q : Nat) (hq : 0 < q) : compare (v * (q : Int)) (u * (q : Int)) = compare v u := by
  have hp : (0 : Int) < (q : Int) := by omega
  rcases cmp3 v u with ⟨h, h1, _⟩ | ⟨h, h1, _⟩ | ⟨h, h1, _⟩
  · have := Int.mul_lt_mul_of_pos_right h hp
    rcases cmp3 (v * (q : Int)) (u * (q : Int)) with ⟨g, g1, _⟩ | ⟨g, g1, _⟩ | ⟨g, g1, _⟩ <;> first | exact g1.trans h1.symm | (exfalso; omega)
  · subst h; rw [compare_self_int, compare_self_int]
  · have := Int.mul_lt_mul_of_pos_right h hp
    rcases cmp3 (v * (q : Int)) (u * (q : Int)) with ⟨g, g1, _⟩ | ⟨g, g1, _⟩ | ⟨g, g1, _⟩ <;> first | exact g1.trans h1.symm | (exfalso; omega)
theorem wh_ord {x y : Nat} {v u : Int} (hx : Reads x v) (hy : Reads y u) : ordN x y = some (compare v u) := by
  obtain ⟨k, rx, _⟩ := hx.rd
  obtain ⟨l, ry, _⟩ := hy.rd
  show (D.read x).order (D.read y) = _
  rw [rx, ry]
  simp only [Datum.order]
  rw [base_eq, signed_val, signed_val, show k + (-(k : Int) - -((max k l : Nat) : Int)).toNat = max k l by omega, show l + (-(l : Int) - -((max k l : Nat) : Int)).toNat = max k l by omega, cmp_scale _ _ _ (Nat.two_pow_pos _)]
theorem wh_zf {x y : Nat} {v u : Int} (hx : Reads x v) (hy : Reads y u) : zf x y = decide (v = u) ∧ cf x y = decide (v < u) := by
  unfold zf cf
  rw [hx.nn, hy.nn, wh_ord hx hy]
  rcases cmp3 v u with ⟨h, h1, _⟩ | ⟨h, h1, _⟩ | ⟨h, h1, _⟩ <;> rw [h1]
  · rw [decide_eq_false (by omega), decide_eq_true h]; exact ⟨rfl, rfl⟩
  · rw [decide_eq_true h, decide_eq_false (by omega)]; exact ⟨rfl, rfl⟩
  · rw [decide_eq_false (by omega), decide_eq_false (by omega)]; exact ⟨rfl, rfl⟩
theorem wh_div {p y : Nat} {v u : Int} (hp : Reads p (v * u)) (hy : Reads y u) (hv : v ≠ 0) (hu : u ≠ 0) : fl .quo p y = whN v := by
  obtain ⟨k, rp, hk⟩ := hp.rd
  obtain ⟨l, ry, hl⟩ := hy.rd
  have hvu : v * u ≠ 0 := fun e => by rcases Int.mul_eq_zero.1 e with h | h <;> contradiction
  obtain ⟨k52, klog⟩ := hk hvu
  obtain ⟨l52, llog⟩ := hl hu
  have hs : (decide (v * u < 0) ^^ decide (u < 0)) = decide (v < 0) := by
    by_cases h1 : v < 0 <;> by_cases h2 : u < 0
    · have := Int.mul_pos_of_neg_of_neg h1 h2
      rw [decide_eq_true h1, decide_eq_true h2, decide_eq_false (by omega)]; rfl
    · have := Int.mul_neg_of_neg_of_pos h1 (show 0 < u by omega)
      rw [decide_eq_true h1, decide_eq_false h2, decide_eq_true this]; rfl
    · have := Int.mul_neg_of_pos_of_neg (show 0 < v by omega) h2
      rw [decide_eq_false h1, decide_eq_true h2, decide_eq_true this]; rfl
    · have := Int.mul_pos (show 0 < v by omega) (show 0 < u by omega)
      rw [decide_eq_false h1, decide_eq_false h2, decide_eq_false (by omega)]; rfl
  have hn : 0 < u.natAbs * 2 ^ l := Nat.mul_pos (by omega) (Nat.two_pow_pos l)
  have e : (v * u).natAbs * 2 ^ k * 2 ^ 54 = v.natAbs * 2 ^ (k + 54 - l) * (u.natAbs * 2 ^ l) := by
    rw [Int.natAbs_mul, Nat.mul_assoc, ← Nat.pow_add, show k + 54 = (k + 54 - l) + l by omega, Nat.pow_add, show k + 54 - l + l - l = k + 54 - l by omega]
    ac_rfl
  show fl .quo p y = D.nearest (decide (v < 0)) v.natAbs 0
  rw [← nearest_pow _ v.natAbs (k + 54 - l + 1) (-(k : Int) - -(l : Int) - ((54 : Nat) : Int) - 1) 0 (by omega), ← hs]
  apply fl_num
  rw [div_def, rp, ry]
  simp only [Datum.quotient]
  rw [if_neg (by omega), klog, llog, show 54 + 52 - 52 = 54 from rfl]
  simp only [Nat.shiftLeft_eq]
  rw [e, Nat.mul_div_cancel _ hn, Nat.mul_mod_left]
  simp only [Option.map_some]
  congr 3
  have h2 : ∀ a b : Nat, 2 * (a * b) = a * (b * 2) := by intro a b; rw [Nat.mul_comm b 2, Nat.mul_left_comm]
  rw [Nat.pow_succ]
  exact h2 _ _
end Go.Proofs.YtmjheiedoihohaaDoor
