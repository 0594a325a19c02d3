import Derived.Test.YtcgleggdochbeaaDoorS41
namespace Go.Proofs.YtcgleggdochbeaaDoor
open Go.RowKit
set_option linter.unusedVariables false
set_option linter.unusedSimpArgs false
set_option linter.unusedSectionVars false
abbrev IsTells (i : In) (b : Bool) : Prop := ∀ W : World, Calls Tryd.prog 22 #[inV i] W fun e w' => e = .returned (.bool b) ∧ Below W.heap.size W w'
end Go.Proofs.YtcgleggdochbeaaDoor
