import Derived.Test.YtmjheiedoihohaaDoorRows
import Derived.WalkKit
import Derived.ProofKit
namespace Go.Proofs.YtmjheiedoihohaaDoor
open Go.RowKit
theorem wfn_u64 {a : Int} (h : (Lit.int .u64 a).wf = true) : ∃ n : Nat, a = n ∧ n < 18446744073709551616 := by
  simp [Lit.wf, IntKind.min, IntKind.max, IntKind.signed] at h
  obtain ⟨h0, h1⟩ := h
  have h2 : a ≤ 18446744073709551615 := h1
  exact ⟨a.toNat, by omega, by omega⟩
theorem wfn_u32 {a : Int} (h : (Lit.int .u32 a).wf = true) : ∃ n : Nat, a = n ∧ n < 4294967296 := by
  simp [Lit.wf, IntKind.min, IntKind.max, IntKind.signed] at h
  obtain ⟨h0, h1⟩ := h
  have h2 : a ≤ 4294967295 := h1
  exact ⟨a.toNat, by omega, by omega⟩
theorem wfn_i16 {a : Int} (h : (Lit.int .i16 a).wf = true) : -32768 ≤ a ∧ a ≤ 32767 := by
  simp [Lit.wf, IntKind.min, IntKind.max, IntKind.signed] at h
  obtain ⟨h0, h1⟩ := h
  exact ⟨h0, h1⟩
end Go.Proofs.YtmjheiedoihohaaDoor
