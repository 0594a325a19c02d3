/- AluDivides. -/
import Derived.Test.YtgeeecoclhomiaaDoorKB
import Derived.Test.YtgeeecoclhomiaaDoorP1
import Derived.Test.YtgeeecoclhomiaaDoorP3
namespace Go.Proofs.YtgeeecoclhomiaaDoor
open Go.RowKit
set_option linter.unusedVariables false
set_option linter.unusedSimpArgs false
set_option linter.unusedSectionVars false

set_option maxHeartbeats 2000000 in
theorem divides_walk (lo hi d : Int) (h : 0 ≤ lo ∧ lo ≤ 4294967295) (hb : 0 ≤ hi ∧ hi ≤ 4294967295) (hd : 0 ≤ d ∧ d ≤ 4294967295) (w : World) (tabs : Tabs w) :
    Calls Tryd.prog 7 #[.int .u32 lo, .int .u32 hi, .int .u32 d] w fun e w' => e = .returned (.bool true) ∧ Below w.heap.size w w' := by
  obtain ⟨q, r, ok, qU, ho, hq, hr, hu⟩ := udiv_any lo hi d h hb hd
  obtain ⟨p, s, is, qS, hn, hp, hs, hv⟩ := sdiv_any lo hi d h hb hd
  have hor := or_high h hb
  have hmu := mul_bd hq hd
  have hms := mul_sbd (bd32 p) (bd32 d)
  have d1 := bd32 p
  have d2 := bd32 d
  have d3 := bd32 s
  have hnb : 0 ≤ hi * 4294967296 + lo ∧ hi * 4294967296 + lo ≤ 18446744073709551615 := by omega
  have hnw : wrap64 (hi * 4294967296 + lo) % 18446744073709551616 = hi * 4294967296 + lo := by unfold wrap64; omega
  have hnx : IntKind.u64.wrap (wrap64 (hi * 4294967296 + lo)) = hi * 4294967296 + lo := by rw [IntKind.wrap_u64]; exact hnw
  have hmb : -9223372036854775808 ≤ wrap64 (hi * 4294967296 + lo) ∧ wrap64 (hi * 4294967296 + lo) ≤ 9223372036854775807 := by unfold wrap64; omega
  generalize hi * 4294967296 + lo = n at *
  replace qU := Lib.hid qU
  replace qS := Lib.hid qS
  cases ok
  · have hc : ¬ hi < d := by simpa using ho.symm
    have hcb : decide (hi < d) = false := ho.symm
    clear ho hu
    cases is
    · obtain ⟨rfl, rfl⟩ := hn rfl
      clear hn hv
      go_enter Tryd.func7, Tryd.ntmps7
      go_wp2_with (first | ((with_reducible refine (knownA _ tabs).mono ?_); rintro e w1 ⟨rfl, b1⟩) | ((with_reducible refine (qU.out _).mono ?_); rintro e w2 ⟨rfl, b2⟩) | ((with_reducible refine (qS.out _).mono ?_); rintro e w3 ⟨rfl, b3⟩))
      all_goals first | (go_ret; exact ⟨rfl, b1.trans ((b2.trans (b3.mono b2.size)).mono b1.size)⟩) | (exfalso; simp_all; done)
    · obtain ⟨v1, v2, v3⟩ := hv rfl
      clear hn hv
      have w1' : (d != 0) = true := by simpa using v1
      by_cases s0 : s = 0
      · subst s0
        have v5 : wrap32 p * wrap32 d = wrap64 n := by rw [← v2, show wrap32 0 = 0 by unfold wrap32; decide, Int.add_zero]
        clear v3 v2
        go_enter Tryd.func7, Tryd.ntmps7
        go_wp2_with (first | ((with_reducible refine (knownA _ tabs).mono ?_); rintro e w1 ⟨rfl, b1⟩) | ((with_reducible refine (qU.out _).mono ?_); rintro e w2 ⟨rfl, b2⟩) | ((with_reducible refine (qS.out _).mono ?_); rintro e w3 ⟨rfl, b3⟩))
        all_goals first | (go_ret; exact ⟨rfl, b1.trans ((b2.trans (b3.mono b2.size)).mono b1.size)⟩) | (exfalso; simp_all; done)
      · have s1 : (s == 0) = false := by simpa using s0
        have v4 : decide (wrap32 s < 0) = decide (wrap64 n < 0) := by
          rcases v3 with v3 | v3
          · exact absurd v3 s0
          · rw [Bool.eq_iff_iff]; simpa using v3
        clear v3 s0
        go_enter Tryd.func7, Tryd.ntmps7
        go_wp2_with (first | ((with_reducible refine (knownA _ tabs).mono ?_); rintro e w1 ⟨rfl, b1⟩) | ((with_reducible refine (qU.out _).mono ?_); rintro e w2 ⟨rfl, b2⟩) | ((with_reducible refine (qS.out _).mono ?_); rintro e w3 ⟨rfl, b3⟩))
        all_goals first | (go_ret; exact ⟨rfl, b1.trans ((b2.trans (b3.mono b2.size)).mono b1.size)⟩) | (exfalso; simp_all; done)
  · have hc : hi < d := by simpa using ho.symm
    have hcb : decide (hi < d) = true := ho.symm
    obtain ⟨u1, u2⟩ := hu rfl
    have u3 : decide (d ≤ r) = false := by simpa using u2
    clear ho hu
    cases is
    · obtain ⟨rfl, rfl⟩ := hn rfl
      clear hn hv
      go_enter Tryd.func7, Tryd.ntmps7
      go_wp2_with (first | ((with_reducible refine (knownA _ tabs).mono ?_); rintro e w1 ⟨rfl, b1⟩) | ((with_reducible refine (qU.out _).mono ?_); rintro e w2 ⟨rfl, b2⟩) | ((with_reducible refine (qS.out _).mono ?_); rintro e w3 ⟨rfl, b3⟩))
      all_goals first | (go_ret; exact ⟨rfl, b1.trans ((b2.trans (b3.mono b2.size)).mono b1.size)⟩) | (exfalso; simp_all; done)
    · obtain ⟨v1, v2, v3⟩ := hv rfl
      clear hn hv
      have w1' : (d != 0) = true := by simpa using v1
      by_cases s0 : s = 0
      · subst s0
        have v5 : wrap32 p * wrap32 d = wrap64 n := by rw [← v2, show wrap32 0 = 0 by unfold wrap32; decide, Int.add_zero]
        clear v3 v2
        go_enter Tryd.func7, Tryd.ntmps7
        go_wp2_with (first | ((with_reducible refine (knownA _ tabs).mono ?_); rintro e w1 ⟨rfl, b1⟩) | ((with_reducible refine (qU.out _).mono ?_); rintro e w2 ⟨rfl, b2⟩) | ((with_reducible refine (qS.out _).mono ?_); rintro e w3 ⟨rfl, b3⟩))
        all_goals first | (go_ret; exact ⟨rfl, b1.trans ((b2.trans (b3.mono b2.size)).mono b1.size)⟩) | (exfalso; simp_all; done)
      · have s1 : (s == 0) = false := by simpa using s0
        have v4 : decide (wrap32 s < 0) = decide (wrap64 n < 0) := by
          rcases v3 with v3 | v3
          · exact absurd v3 s0
          · rw [Bool.eq_iff_iff]; simpa using v3
        clear v3 s0
        go_enter Tryd.func7, Tryd.ntmps7
        go_wp2_with (first | ((with_reducible refine (knownA _ tabs).mono ?_); rintro e w1 ⟨rfl, b1⟩) | ((with_reducible refine (qU.out _).mono ?_); rintro e w2 ⟨rfl, b2⟩) | ((with_reducible refine (qS.out _).mono ?_); rintro e w3 ⟨rfl, b3⟩))
        all_goals first | (go_ret; exact ⟨rfl, b1.trans ((b2.trans (b3.mono b2.size)).mono b1.size)⟩) | (exfalso; simp_all; done)
end Go.Proofs.YtgeeecoclhomiaaDoor
