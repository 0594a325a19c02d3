/- A host at work in a law; what the laws ask first: 'known'. -/
import Derived.Test.YtbalnlodkiejcaaDoorN0
namespace Go.Proofs.YtbalnlodkiejcaaDoor
open Go.RowKit
set_option linter.unusedVariables false
set_option linter.unusedSimpArgs false
set_option linter.unusedSectionVars false

theorem newS_step : stepL newS = (6, newS) := by
  have h1 : fitsL newS.pc 4 = true := by decide
  have h2 : wordM newS.m newS.pc 4 = 0 := by rw [wordM_4]; rfl
  have h3 : decL 0 = none := by kernel_rfl
  exact step_none h1 (by rw [h2]; exact h3)
def kS1 : St := storeS newS 1024 4 5243027
def kS2 : St := { kS1 with x := setX kS1.x 1 5, pc := 1028 }
theorem kS1_step : stepL kS1 = (0, kS2) := by
  have hl : isL 19 1 0 0 5 = true := by decide
  have he : encL 19 1 0 0 5 = 5243027 := by decide
  rw [step_word (s := kS1) (op := 19) (d := 1) (a := 0) (b := 0) (i := 5) (by decide) (by rw [he]; exact load_store (by decide)) hl]
  rw [doL_alu _ _ _ _ _ _ (by decide)]
  have h0 : kS1.x 0 = 0 := rfl
  rw [h0]
  have ha : aluL 19 0 ((0 + 5) % 4294967296) = 5 := by decide
  rw [ha]
  rfl
theorem kS2_x : getX kS2 1 = 5 := by decide
theorem kS2_m : wordM kS2.m 1024 2 = 147 := by rw [wordM_2]; decide
theorem kS2_0 : setS kS2 0 7 = kS2 := by unfold setS; rw [setX_out (by decide)]
end Go.Proofs.YtbalnlodkiejcaaDoor
