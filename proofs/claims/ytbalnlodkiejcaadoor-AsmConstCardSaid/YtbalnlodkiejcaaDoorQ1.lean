/- Both hosts side by side. -/
import Derived.Test.YtbalnlodkiejcaaDoorQ0
namespace Go.Proofs.YtbalnlodkiejcaaDoor
open Go.RowKit
set_option linter.unusedVariables false
set_option linter.unusedSimpArgs false
set_option linter.unusedSectionVars false

def putS (s : St) (p n v : Int) : St := if fitsL p n = true then storeS s p n v else s
end Go.Proofs.YtbalnlodkiejcaaDoor
