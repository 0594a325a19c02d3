/- The document's memory: pages mapped, unmapped, other rights; a place's right. -/
import Derived.Test.YtmlaancmacipoaaR0
namespace Go.Proofs.Ytmlaancmacipoaa
open Go.RowKit
set_option linter.unusedVariables false
set_option linter.unusedSimpArgs false
set_option linter.unusedSectionVars false

theorem are_no {v : Int} (h : areL v = false) : v < 1 ∨ 7 < v := by
  by_cases h2 : 0 < v ∧ v ≤ 7
  · rw [are_iff.2 h2] at h; cases h
  · omega
theorem rMap {R : Nat} {m : Mm} {w : World} (h : RAt w R m) (ok : m.ok) (p n v : Int) (hp : I64 p) :
    Calls Try.prog 43 #[mp R, .int .i64 p, .int .i64 n, .int .i64 v] w fun e w' => e = .returned (.int .i64 (errM (mapE m p n v))) ∧ RAt w' R (mapS m p n v) ∧ But [R] w.heap.size w w' := by
  have ht := fun w => rthere p n hp w
  unfold mapS mapE canL
  cases h1 : thereL p n with
  | false =>
    rw [h1] at ht
    rw [Bool.false_and, Bool.and_false, if_neg (by decide)]
    go_enter Try.func43, Try.ntmps43
    go_wp2_with (first | (go_at_call 54; refine (ht _).mono ?_; rintro e w' ⟨rfl, rfl⟩))
    go_ret
    exact ⟨rfl, h, But.refl _ _ _⟩
  | true =>
    rw [h1] at ht
    rw [Bool.true_and]
    cases h2 : areL v with
    | false =>
      rw [Bool.false_and, if_neg (by decide)]
      rcases are_no h2 with hv | hv
      all_goals
        clear h2
        go_enter Try.func43, Try.ntmps43
        go_wp2_with (first | (go_at_call 54; refine (ht _).mono ?_; rintro e w' ⟨rfl, rfl⟩))
        go_ret
        exact ⟨rfl, h, But.refl _ _ _⟩
    | true =>
      rw [Bool.true_and]
      have hv := are_iff.1 h2
      obtain ⟨p0, p1, p2, p3⟩ := there_iff.1 h1
      obtain ⟨P, rfl⟩ := Int.eq_ofNat_of_zero_le p0
      obtain ⟨N, rfl⟩ := Int.eq_ofNat_of_zero_le (show 0 ≤ n by omega)
      rw [Int.toNat_natCast, Int.toNat_natCast]
      have hm := rmapped h P N (by omega)
      clear h1 h2
      cases h3 : allL m false P N with
      | false =>
        rw [h3] at hm
        rw [if_neg (by decide)]
        generalize allL m true P N = b at *
        go_enter Try.func43, Try.ntmps43
        go_wp2_with (first | (go_at_call 54; refine (ht _).mono ?_; rintro e w' ⟨rfl, rfl⟩))
        go_at_call 55
        refine hm.mono ?_
        rintro e w1 ⟨rfl, k1⟩
        go_wp2_with fail
        go_ret
        exact ⟨rfl, h.below k1 h.lt, But.of k1 _⟩
      | true =>
        rw [h3] at hm
        rw [if_pos rfl]
        generalize allL m true P N = b at *
        have hz := ok_zero ok v h3
        go_enter Try.func43, Try.ntmps43
        go_wp2_with (first | (go_at_call 54; refine (ht _).mono ?_; rintro e w' ⟨rfl, rfl⟩))
        go_at_call 55
        refine hm.mono ?_
        rintro e w1 ⟨rfl, k1⟩
        have hs := rset_fresh (h.below k1 h.lt) P N (by omega) v
        rw [hz] at hs
        clear h3 hz
        go_wp2_with fail
        go_at_call 56
        refine hs.mono ?_
        rintro e w2 ⟨rfl, hx, kx⟩
        go_wp2_with fail
        go_ret
        exact ⟨rfl, hx, (But.of k1 [R]).trans (kx.mono k1.size (by simp))⟩
set_option maxRecDepth 8000 in
theorem rRight {R : Nat} {m : Mm} {w : World} (h : RAt w R m) (ok : m.ok) (a : Int) (ha : U32 a) : Calls Try.prog 23 #[mp R, .int .u32 a] w fun e w' => e = .returned (.int .i64 (placeL m a)) ∧ w = w' := by
  unfold placeL
  by_cases hh : a < 16384
  · obtain ⟨q, hq, hq2⟩ : ∃ q : Nat, a / 256 = q ∧ q < 64 := ⟨(a / 256).toNat, by omega, by omega⟩
    rw [hq, Int.toNat_natCast]
    have hc := h.r q hq2
    have hix := ix64 R q hq2 .u32
    go_enter Try.func23, Try.ntmps23
    go_wp2_with fail
    go_ret
    exact ⟨rfl, rfl⟩
  · rw [ok.out _ (by omega)]
    go_enter Try.func23, Try.ntmps23
    go_wp2_with fail
    go_ret
    exact ⟨rfl, rfl⟩
end Go.Proofs.Ytmlaancmacipoaa
