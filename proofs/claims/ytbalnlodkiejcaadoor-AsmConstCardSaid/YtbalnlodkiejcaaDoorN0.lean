/- A host that is made. -/
import Derived.Test.YtbalnlodkiejcaaDoorD3
import Derived.Lib.Hide
namespace Go.Proofs.YtbalnlodkiejcaaDoor
open Go.RowKit
set_option linter.unusedVariables false
set_option linter.unusedSimpArgs false
set_option linter.unusedSectionVars false

def allK (k : IntKind) : List Value → Bool
  | [] => true
  | v :: l => (match v with | .int k' n => k' == k && n == 0 | _ => false) && allK k l
theorem allK_at {k : IntKind} : ∀ {l : List Value}, allK k l = true → ∀ i, i < l.length → l[i]? = some (.int k 0)
  | [], _, i, hi => by simp at hi
  | v :: l, h, i, hi => by
    unfold allK at h
    rw [Bool.and_eq_true] at h
    cases i with
    | zero =>
      cases v <;> simp at h
      simp [h.1.1, h.1.2]
    | succ i => simpa using allK_at h.2 i (by simpa using hi)
def chkH : Option Value → Bool
  | some (.agg cs) => cs.size == 32802 && (allK .u32 (cs.toList.take 34) && allK .u8 (cs.toList.drop 34))
  | _ => false
/-- A new host. -/
def newS : St := ⟨fun _ => 0, 1024, 0, fun _ => 0⟩
theorem newS_ok : newS.ok := ⟨fun _ => by simp [newS], rfl, by simp [newS], by simp [newS], fun _ => by simp [newS]⟩
theorem runL_zero (n : Nat) (s : St) : runL 0 n s = (0, n, s) := rfl
end Go.Proofs.YtbalnlodkiejcaaDoor
