/- The document's memory: Read. -/
import Derived.Test.YtmlaancmacipoaaR3
namespace Go.Proofs.Ytmlaancmacipoaa
open Go.RowKit
set_option linter.unusedVariables false
set_option linter.unusedSimpArgs false
set_option linter.unusedSectionVars false

end Go.Proofs.Ytmlaancmacipoaa
