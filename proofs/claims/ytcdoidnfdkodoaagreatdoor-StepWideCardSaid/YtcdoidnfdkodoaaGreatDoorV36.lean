import Derived.Test.YtcdoidnfdkodoaaGreatDoorV35
namespace Go.Proofs.YtcdoidnfdkodoaaGreatDoor
open Go.RowKit
set_option linter.unusedVariables false
set_option linter.unusedSimpArgs false
set_option linter.unusedSectionVars false
theorem prod_bd {a b : Int} (ha : 0 ≤ a ∧ a ≤ 4294967295) (hb : 0 ≤ b ∧ b ≤ 4294967295) : 0 ≤ a * b ∧ a * b ≤ 18446744065119617025 := by
  refine ⟨Int.mul_nonneg ha.1 hb.1, ?_⟩
  have := Int.mul_le_mul ha.2 hb.2 hb.1 (by decide)
  omega
theorem u64w {x : Int} (h : 0 ≤ x ∧ x ≤ 18446744073709551615) : IntKind.u64.wrap x = x := by
  show x % 18446744073709551616 = x
  omega
theorem wide_all (g : Gs) (ok : g.ok) (a b r : Int) (ha : 0 ≤ a ∧ a ≤ 4294967295) (hb : 0 ≤ b ∧ b ≤ 4294967295) (hr : 0 ≤ r ∧ r ≤ 4294967295) (w : World) (tabs : Tb w) :
    Calls Tryz.prog 12 #[stV g, .int .u32 a, .int .u32 b, .int .u32 r] w fun e w' => e = .returned (.bool true) ∧ Below w.heap.size w w' := by
  have pb := prod_bd ha hb
  have hq : b ≠ 0 → 0 ≤ r % b ∧ r % b < b := fun h => ⟨Int.emod_nonneg _ h, Int.emod_lt_of_pos _ (by omega)⟩
  generalize hu : a * b = u at pb
  have hq2 : 0 ≤ r % b ∧ r % b ≤ 4294967295 := by
    by_cases h : b = 0
    · rw [h, Int.emod_zero]; exact hr
    · have := hq h; omega
  generalize hqq : r % b = q at hq hq2
  have hn : 0 ≤ u + q ∧ u + q ≤ 18446744073709551615 := by omega
  generalize hnn : u + q = n at hn
  have eT2 : hiU a b = u / 4294967296 := by unfold hiU; rw [hu]
  have eT0 : loU a b = u % 4294967296 := by unfold loU; rw [hu]
  have hT := wi_mul (m := Mm.new) (g := setr (setr g 0 a) 3 b) (a := a) (b := b) rfl rfl ha hb
  have t2 : ({ setr (setr (goOn (setr (setr g 0 a) 3 b) iMl) 0 (loU a b)) 2 (hiU a b) with f := beyF (setr (setr g 0 a) 3 b).f (hiU a b != 0) } : Gs).r 2 = u / 4294967296 := eT2
  have t0 : ({ setr (setr (goOn (setr (setr g 0 a) 3 b) iMl) 0 (loU a b)) 2 (hiU a b) with f := beyF (setr (setr g 0 a) 3 b).f (hiU a b != 0) } : Gs).r 0 = u % 4294967296 := eT0
  have t3 : ({ setr (setr (goOn (setr (setr g 0 a) 3 b) iMl) 0 (loU a b)) 2 (hiU a b) with f := beyF (setr (setr g 0 a) 3 b).f (hiU a b != 0) } : Gs).r 3 = b := rfl
  generalize hgT : ({ setr (setr (goOn (setr (setr g 0 a) 3 b) iMl) 0 (loU a b)) 2 (hiU a b) with f := beyF (setr (setr g 0 a) 3 b).f (hiU a b != 0) } : Gs) = gT at *
  have hn0 : 0 ≤ n % 4294967296 ∧ n % 4294967296 ≤ 4294967295 := by omega
  have hn2 : 0 ≤ n / 4294967296 ∧ n / 4294967296 ≤ 4294967295 := by omega
  have hm2 : n / 4294967296 % 4294967296 = n / 4294967296 := by omega
  have eback : n / 4294967296 * 4294967296 + n % 4294967296 = n := by omega
  refine wide_walk g a b r ha hb hr _ gT (setr (setr gT 0 (n % 4294967296)) 2 (n / 4294967296)) (setr (setr (goOn (setr (setr gT 0 (n % 4294967296)) 2 (n / 4294967296)) iDv) 0 a) 2 q) (setr (goOn (setr (setr (goOn (setr (setr gT 0 (n % 4294967296)) 2 (n / 4294967296)) iDv) 0 a) 2 q) iCd) 2 (IntKind.u32.wrap (IntKind.i32.wrap a / 2147483648)))
    u n (n % 4294967296) (n / 4294967296) q (IntKind.u32.wrap (IntKind.i32.wrap a / 2147483648)) rfl (Lib.hid hT) ?_ ?_ ?_ (u64w (by omega)) (u64w (by omega)) (u64w (by omega)) (u64w (by omega)) (fun _ => u64w (by omega))
    (by rw [hu]; omega) (by rw [hu]; exact u64w (by omega)) (by omega) (u64w (by omega)) ?_ ?_ (by omega) (by rw [hnn]; exact u64w hn) ?_ ?_ rfl hm2 rfl (fun _ => rfl) (fun _ => rfl) (fun _ => rfl) rfl (fun _ => rfl) w tabs
  · intro h0
    exact Lib.hid (wi_div0 rfl rfl (t3.trans h0) (by rw [t0]; omega) (by rw [t2]; omega))
  · intro h0
    refine Lib.hid (wi_div (lo := n % 4294967296) (hi := n / 4294967296) (d := b) rfl rfl t3 ?_)
    have e1 : n / b = a := by
      rw [← hnn, ← hu, Int.add_comm, Int.add_mul_ediv_right _ _ h0, Int.ediv_eq_zero_of_lt (hq h0).1 (hq h0).2]
      omega
    have e2 : n % b = q := by
      rw [← hnn, ← hu, Int.add_comm, Int.add_mul_emod_self_right, Int.emod_eq_of_lt (hq h0).1 (hq h0).2]
    refine div_u _ _ b a q true hn0 hn2 ⟨by omega, hb.2⟩ fun w => ?_
    rw [eback]
    have y := divided_yes n b hn ⟨by omega, hb.2⟩ (by rw [e1]; simp; omega) w
    rw [e1, e2, show a % 4294967296 = a by omega, show q % 4294967296 = q by omega] at y
    exact y
  · intro h0
    exact Lib.hid (wi_cdq rfl)
  · rw [t2, t0, or_high (by omega) (by omega)]
    omega
  · intro h0
    rw [Int.tmod_eq_emod_of_nonneg hr.1]
    exact hqq
  · show n % 4294967296 = n % 4294967296
    rfl
  · show n / 4294967296 % 4294967296 = n / 4294967296
    exact hm2
end Go.Proofs.YtcdoidnfdkodoaaGreatDoor
