import Derived.Test.YtobllhibicjbcaaDoorRows
import Derived.Test.YtobllhibicjbcaaDoorKit
import Derived.Laws.CopyOwn
namespace Go.Proofs.YtobllhibicjbcaaDoor
open Go.RowKit
set_option linter.unusedVariables false

end Go.Proofs.YtobllhibicjbcaaDoor
