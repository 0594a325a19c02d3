import Derived.Test.YtmlaancmacipoaaE5
import Derived.Test.YtmlaancmacipoaaO8
namespace Go.Proofs.Ytmlaancmacipoaa
theorem wfq_u64 {a : Int} (h : (Lit.int .u64 a).wf = true) : 0 ≤ a ∧ a ≤ 18446744073709551615 := by
  simp [Lit.wf, IntKind.min, IntKind.max, IntKind.signed] at h
  obtain ⟨h0, h1⟩ := h
  exact ⟨h0, h1⟩
end Go.Proofs.Ytmlaancmacipoaa
