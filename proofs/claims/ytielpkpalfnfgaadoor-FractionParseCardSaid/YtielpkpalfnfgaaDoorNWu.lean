/- Contracts of Add and Sub of the reference. -/
import Derived.Test.YtielpkpalfnfgaaDoorNWt
namespace Go.Proofs.YtielpkpalfnfgaaDoor
open Go.RowKit
set_option linter.unusedVariables false
set_option maxRecDepth 100000
end Go.Proofs.YtielpkpalfnfgaaDoor
