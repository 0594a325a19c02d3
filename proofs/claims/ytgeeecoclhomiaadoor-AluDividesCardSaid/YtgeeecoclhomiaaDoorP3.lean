/- Plain facts on quotients. -/
import Derived.Test.YtgeeecoclhomiaaDoorA9
namespace Go.Proofs.YtgeeecoclhomiaaDoor
open Go.RowKit
set_option linter.unusedVariables false
set_option linter.unusedSimpArgs false
set_option linter.unusedSectionVars false

theorem udiv_any (lo hi d : Int) (h : 0 ≤ lo ∧ lo ≤ 4294967295) (hb : 0 ≤ hi ∧ hi ≤ 4294967295) (hd : 0 ≤ d ∧ d ≤ 4294967295) :
    ∃ q r : Int, ∃ ok : Bool, Divs 19 lo hi d q r ok ∧ ok = decide (hi < d) ∧ (0 ≤ q ∧ q ≤ 4294967295) ∧ (0 ≤ r ∧ r ≤ 4294967295) ∧ (ok = true → q * d + r = hi * 4294967296 + lo ∧ r < d) := by
  by_cases h0 : d = 0
  · subst h0
    exact ⟨0, 0, false, div_zero 19 lo hi h hb, by rw [decide_eq_false (by omega)], by decide, by decide, fun h => by cases h⟩
  · have hd1 : 0 < d ∧ d ≤ 4294967295 := by omega
    obtain ⟨n, hn⟩ : ∃ n, n = hi * 4294967296 + lo := ⟨_, rfl⟩
    have hnb : 0 ≤ n ∧ n ≤ 18446744073709551615 := by omega
    have e := Int.mul_ediv_add_emod n d
    have m0 := Int.emod_nonneg n h0
    have m1 := Int.emod_lt_of_pos n hd1.1
    have q0 : 0 ≤ n / d := Int.ediv_nonneg hnb.1 hd.1
    by_cases c : hi < d
    · have hq : n / d < 4294967296 := by
        rw [Int.ediv_lt_iff_lt_mul hd1.1]
        omega
      have hq2 : n / d % 4294967296 = n / d := by omega
      have hr2 : n % d % 4294967296 = n % d := by omega
      refine ⟨n / d, n % d, true, ?_, (decide_eq_true c).symm, by omega, by omega, fun _ => ⟨?_, m1⟩⟩
      · refine div_u lo hi d _ _ true h hb hd1 (fun w => ?_)
        have := divided_yes n d hnb hd1 (by rw [hq2, bne_eq_false_iff_eq]) w
        rw [hq2, hr2] at this
        rw [← hn]
        exact this
      · rw [← hn, Int.mul_comm]; exact e
    · have hq : ¬ n / d < 4294967296 := by
        rw [Int.ediv_lt_iff_lt_mul hd1.1]
        omega
      refine ⟨0, 0, false, ?_, (decide_eq_false c).symm, by decide, by decide, fun h => by cases h⟩
      refine div_u lo hi d _ _ false h hb hd1 (fun w => ?_)
      rw [← hn]
      exact divided_no n d hnb hd1 (by rw [bne_iff_ne]; omega) w
/-- A quotient cut off towards nought that fits a word with a sign. -/
theorem sdiv_facts (n e Q R : Int) (hn : -9223372036854775808 ≤ n ∧ n ≤ 9223372036854775807) (he : -2147483648 ≤ e ∧ e ≤ 2147483647) (he0 : e ≠ 0) (hQ : Q = n.tdiv e) (hR : R = n.tmod e)
    (hq : (wrap64 Q != wrap64 (wrap32 (wrap64 Q))) = false) :
    wrap32 (wrap64 Q % 4294967296) = Q ∧ wrap32 (R % 4294967296) = R ∧ Q * e + R = n ∧ (R = 0 ∨ (R < 0 ↔ n < 0)) := by
  have e1 := Int.tdiv_mul_add_tmod n e
  have e2 := Int.natAbs_tdiv_le_natAbs n e
  have e3 := Int.natAbs_tmod n e
  have e4 : n.natAbs % e.natAbs < e.natAbs := Nat.mod_lt _ (by omega)
  have e5 : 0 ≤ n → 0 ≤ n.tmod e := Int.tmod_nonneg e
  have e6 : n ≤ 0 → n.tmod e ≤ 0 := fun h => by
    have := Int.tmod_nonneg (a := -n) e (by omega)
    rw [Int.neg_tmod] at this
    omega
  rw [← hQ] at e1 e2
  rw [← hR] at e1 e3 e5 e6
  rw [bne_eq_false_iff_eq] at hq
  generalize n.natAbs % e.natAbs = m at *
  have b1 : -9223372036854775808 ≤ Q ∧ Q ≤ 9223372036854775808 := by omega
  have b2 : -2147483648 < R ∧ R < 2147483648 := by omega
  have hq2 : -2147483648 ≤ Q ∧ Q ≤ 2147483647 := by
    unfold wrap32 wrap64 at hq
    omega
  refine ⟨by unfold wrap32 wrap64; omega, by unfold wrap32; omega, e1, ?_⟩
  by_cases c : n < 0
  · have := e6 (by omega); omega
  · have := e5 (by omega); omega
theorem sdiv_any (lo hi d : Int) (h : 0 ≤ lo ∧ lo ≤ 4294967295) (hb : 0 ≤ hi ∧ hi ≤ 4294967295) (hd : 0 ≤ d ∧ d ≤ 4294967295) :
    ∃ p s : Int, ∃ is : Bool, Divs 20 lo hi d p s is ∧ (is = false → p = 0 ∧ s = 0) ∧ (0 ≤ p ∧ p ≤ 4294967295) ∧ (0 ≤ s ∧ s ≤ 4294967295) ∧
      (is = true → d ≠ 0 ∧ wrap32 p * wrap32 d + wrap32 s = wrap64 (hi * 4294967296 + lo) ∧ (s = 0 ∨ (wrap32 s < 0 ↔ wrap64 (hi * 4294967296 + lo) < 0))) := by
  by_cases h0 : d = 0
  · subst h0
    exact ⟨0, 0, false, div_zero 20 lo hi h hb, fun _ => ⟨rfl, rfl⟩, by decide, by decide, fun h => by cases h⟩
  · have hd1 : 0 < d ∧ d ≤ 4294967295 := by omega
    have hnb : -9223372036854775808 ≤ wrap64 (hi * 4294967296 + lo) ∧ wrap64 (hi * 4294967296 + lo) ≤ 9223372036854775807 := by unfold wrap64; omega
    have heb := bd32 d
    have he0 : wrap32 d ≠ 0 := by unfold wrap32; omega
    have hD := fun q r ok => div_s lo hi d q r ok h hb hd1
    generalize wrap64 (hi * 4294967296 + lo) = n at *
    generalize wrap32 d = e at *
    cases hq : (wrap64 (n.tdiv e) != wrap64 (wrap32 (wrap64 (n.tdiv e))))
    · obtain ⟨f1, f2, f3, f4⟩ := sdiv_facts n e _ _ hnb heb he0 rfl rfl hq
      refine ⟨wrap64 (n.tdiv e) % 4294967296, n.tmod e % 4294967296, true, hD _ _ true (fun w => dividedSigned_yes n e hnb heb he0 hq w), (fun h => by cases h), by omega, by omega, fun _ => ⟨h0, ?_, ?_⟩⟩
      · rw [f1, f2]; exact f3
      · rw [f2]
        rcases f4 with f4 | f4
        · left; rw [f4]; rfl
        · exact .inr f4
    · exact ⟨0, 0, false, hD _ _ false (fun w => dividedSigned_no n e hnb heb he0 hq w), fun _ => ⟨rfl, rfl⟩, by decide, by decide, fun h => by cases h⟩
end Go.Proofs.YtgeeecoclhomiaaDoor
