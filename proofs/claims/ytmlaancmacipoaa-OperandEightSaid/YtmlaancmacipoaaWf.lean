import Derived.Test.YtmlaancmacipoaaRows
import Derived.WalkKit
import Derived.ProofKit
namespace Go.Proofs.Ytmlaancmacipoaa
open Go.RowKit
theorem wfn_u32 {a : Int} (h : (Lit.int .u32 a).wf = true) : ∃ n : Nat, a = n ∧ n < 4294967296 := by
  simp [Lit.wf, IntKind.min, IntKind.max, IntKind.signed] at h
  obtain ⟨h0, h1⟩ := h
  have h2 : a ≤ 4294967295 := h1
  exact ⟨a.toNat, by omega, by omega⟩
theorem wfn_u8 {a : Int} (h : (Lit.int .u8 a).wf = true) : 0 ≤ a ∧ a ≤ 255 := by
  simp [Lit.wf, IntKind.min, IntKind.max, IntKind.signed] at h
  obtain ⟨h0, h1⟩ := h
  exact ⟨h0, h1⟩
theorem wfn_i32 {a : Int} (h : (Lit.int .i32 a).wf = true) : -2147483648 ≤ a ∧ a ≤ 2147483647 := by
  simp [Lit.wf, IntKind.min, IntKind.max, IntKind.signed] at h
  obtain ⟨h0, h1⟩ := h
  exact ⟨h0, h1⟩
theorem wfn_i64 {a : Int} (h : (Lit.int .i64 a).wf = true) : -9223372036854775808 ≤ a ∧ a ≤ 9223372036854775807 := by
  simp [Lit.wf, IntKind.min, IntKind.max, IntKind.signed] at h
  obtain ⟨h0, h1⟩ := h
  exact ⟨h0, h1⟩
end Go.Proofs.Ytmlaancmacipoaa
