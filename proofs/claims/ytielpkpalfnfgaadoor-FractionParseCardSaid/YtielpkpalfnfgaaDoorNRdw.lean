/- Contracts of Div of the reference. -/
import Derived.Test.YtielpkpalfnfgaaDoorNRdv
namespace Go.Proofs.YtielpkpalfnfgaaDoor
open Go.RowKit
set_option linter.unusedVariables false
set_option maxRecDepth 100000
end Go.Proofs.YtielpkpalfnfgaaDoor
