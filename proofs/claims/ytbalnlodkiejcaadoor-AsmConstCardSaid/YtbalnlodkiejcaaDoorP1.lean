/- The host's own calls: registers, the place, bytes. -/
import Derived.Test.YtbalnlodkiejcaaDoorP0
import Derived.Test.YtbalnlodkiejcaaDoorS2
namespace Go.Proofs.YtbalnlodkiejcaaDoor
open Go.RowKit
set_option linter.unusedVariables false
set_option linter.unusedSimpArgs false
set_option linter.unusedSectionVars false

abbrev hp (B : Nat) : Value := .pointer (some ⟨B, 0, none⟩)
def getX (s : St) (i : Int) : Int := if 0 < i ∧ i < 32 then s.x i else 0
def setS (s : St) (i v : Int) : St := { s with x := setX s.x i v }
theorem setX_out {x : Int → Int} {i v : Int} (h : ¬ (0 < i ∧ i < 32)) : setX x i v = x := by funext j; unfold setX; rw [if_neg (by omega)]
theorem fits_nat {a n : Int} (h : fitsL a n = true) : (n = 1 ∨ n = 2 ∨ n = 4) ∧ a ≤ 32768 - n := by
  unfold fitsL at h
  simp at h
  omega
end Go.Proofs.YtbalnlodkiejcaaDoor
