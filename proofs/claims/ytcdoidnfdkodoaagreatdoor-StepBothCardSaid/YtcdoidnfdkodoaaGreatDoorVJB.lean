import Derived.Test.YtcdoidnfdkodoaaGreatDoorRows
import Derived.WalkKit
import Derived.Test.YtcdoidnfdkodoaaGreatDoorTie
import Derived.Test.YtcdoidnfdkodoaaGreatDoorCards
import Derived.SevenTiedAt
import Derived.Test.YtcdoidnfdkodoaaGreatDoorS01
import Derived.ProofKit
import Derived.OpenShut
import Derived.Below
import Derived.ShutString
namespace Go.Proofs.YtcdoidnfdkodoaaGreatDoor
open Go.ChangeShapes Go.WideShapes Go.ChangeAt Go.RowKit
theorem and_tt {a b : Bool} (h : a = true) (k : b = true) : (a && b) = true := by rw [h, k]; rfl
set_option maxRecDepth 100000 in
set_option maxHeartbeats 4000000 in
theorem jfStepBoth : joinedFacts Tryz.prog 13 Tryz.f13 Rows.stepBothSpec Rows.stepBothRow = true := by
  unfold joinedFacts
  repeat' (with_reducible refine and_tt ?_ ?_)
  all_goals (as_aux_lemma => kernel_rfl)
end Go.Proofs.YtcdoidnfdkodoaaGreatDoor
