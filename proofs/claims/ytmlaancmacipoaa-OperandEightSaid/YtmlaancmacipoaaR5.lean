/- The document's memory: bytes poked and peeked. -/
import Derived.Test.YtmlaancmacipoaaR1
import Derived.Test.YtmlaancmacipoaaP3
import Derived.Laws.AppendOwn
namespace Go.Proofs.Ytmlaancmacipoaa
open Go.RowKit
set_option linter.unusedVariables false
set_option linter.unusedSimpArgs false
set_option linter.unusedSectionVars false

theorem putB_step (m : Mm) (A : Nat) (zs : List Int) (k : Nat) (hk : k < zs.length) : putB m A (zs.take (k + 1)) = ⟨m.r, fun i => if i = A + k then zs.getD k 0 else (putB m A (zs.take k)).b i⟩ := by
  unfold putB
  congr 1
  funext i
  rw [List.length_take, List.length_take, Nat.min_eq_left (by omega), Nat.min_eq_left (by omega)]
  dsimp only
  by_cases h1 : i = A + k
  · subst h1
    rw [if_pos (by omega), if_pos rfl, Nat.add_sub_cancel_left]
    simp [List.getD_eq_getElem?_getD, List.getElem?_take]
  · rw [if_neg h1]
    by_cases h2 : A ≤ i ∧ i < A + k
    · rw [if_pos (by omega), if_pos h2]
      simp [List.getD_eq_getElem?_getD, List.getElem?_take, show i - A < k by omega, show i - A < k + 1 by omega]
    · rw [if_neg (by omega), if_neg h2]
end Go.Proofs.Ytmlaancmacipoaa
