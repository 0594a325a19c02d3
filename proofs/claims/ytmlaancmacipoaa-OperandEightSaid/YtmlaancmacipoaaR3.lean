/- The document's memory: Get, Put, Read, Write. -/
import Derived.Test.YtmlaancmacipoaaR2
import Derived.Laws.BitsAllLaws
namespace Go.Proofs.Ytmlaancmacipoaa
open Go.RowKit
set_option linter.unusedVariables false
set_option linter.unusedSimpArgs false
set_option linter.unusedSectionVars false

theorem step64 {m : Mm} (ok : m.ok) (A k : Nat) (hk : k < 4) : bits .or .u64 (readL m A k) (IntKind.u64.wrap (m.b (A + k) * 2 ^ (8 * k))) = readL m A (k + 1) := by
  have hb := ok.b (A + k)
  obtain ⟨h0, h1⟩ := read_bd ok A k
  rw [readL]
  have hp : (2 : Int) ^ (8 * k) ≤ 2 ^ 24 := by rw [← cast_pow2, ← cast_pow2]; exact Int.ofNat_le.2 (Nat.pow_le_pow_right (by decide) (by omega))
  obtain ⟨Y, hY⟩ := Int.eq_ofNat_of_zero_le h0
  obtain ⟨Z, hZ⟩ := Int.eq_ofNat_of_zero_le hb.1
  rw [hY] at h1 ⊢
  rw [hZ] at hb ⊢
  have hY2 : Y < 2 ^ (8 * k) := by rw [← cast_pow2] at h1; omega
  have hk24 : 2 ^ (8 * k) ≤ 2 ^ 24 := Nat.pow_le_pow_right (by decide) (by omega)
  have hZ2 : Z * 2 ^ (8 * k) ≤ 255 * 2 ^ 24 := Nat.mul_le_mul (by omega) hk24
  have e : (Z : Int) * 2 ^ (8 * k) = ((Z * 2 ^ (8 * k) : Nat) : Int) := by rw [Int.natCast_mul, cast_pow2]
  rw [e, IntKind.wrap_u64, Int.emod_eq_of_lt (by omega) (by omega), u64_or_nat _ _ (by omega) (by omega), or_add _ hY2, Int.natCast_add]
end Go.Proofs.Ytmlaancmacipoaa
