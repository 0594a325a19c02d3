/- A step, whole. -/
import Derived.Test.YtbalnlodkiejcaaDoorD2
import Derived.Deep.CutRange
namespace Go.Proofs.YtbalnlodkiejcaaDoor
open Go.RowKit
set_option linter.unusedVariables false
set_option linter.unusedSimpArgs false
set_option linter.unusedSectionVars false

theorem But.setNew {S : List Nat} {n : Nat} {a w : World} (h : But S n a w) {p : Addr} (hp : n ≤ p.block) (u : Value) : But S n a (w.setCell p u) :=
  h.trans ⟨rfl, rfl, rfl, by simp [World.setCell], fun k hk hs => Below.heap_setCell _ _ _ _ (by omega)⟩
theorem doL_halt {s : St} {op d a b i k p : Int} (h1 : 1 ≤ op) (h2 : op ≤ 47) (h : doL s op d a b i = .halt k p) : 0 ≤ p ∧ p ≤ 4294967295 := by
  rcases (by omega : op = 46 ∨ op = 47 ∨ op = 3 ∨ op = 4 ∨ (op = 5 ∨ op = 6 ∨ op = 7 ∨ op = 8 ∨ op = 9 ∨ op = 10) ∨ (op = 11 ∨ op = 12 ∨ op = 13 ∨ op = 14 ∨ op = 15) ∨ (op = 16 ∨ op = 17 ∨ op = 18) ∨ op = 2 ∨ (op = 1 ∨ 19 ≤ op ∧ op ≤ 45)) with rfl | rfl | rfl | rfl | hop | hop | hop | rfl | hop
  · rw [doL_46] at h; cases h
  · rw [doL_47] at h; cases h
  · rw [doL_3] at h; unfold jumpL at h; split at h <;> cases h; omega
  · rw [doL_4] at h; unfold jumpL at h; split at h <;> cases h; omega
  · rw [doL_br _ _ _ _ _ _ hop] at h
    split at h
    · split at h <;> cases h; omega
    · cases h
  · rw [doL_ld _ _ _ _ _ _ hop] at h; split at h <;> cases h; omega
  · rw [doL_st _ _ _ _ _ _ hop] at h; split at h <;> cases h; omega
  · rw [doL_2] at h; cases h
  · rw [doL_alu _ _ _ _ _ _ hop] at h; cases h
end Go.Proofs.YtbalnlodkiejcaaDoor
