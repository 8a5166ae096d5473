/- Contract of the reference: Format. -/
import Derived.Test.YtfgnekbkcmpdiaaGreatDoorYa
import Derived.Test.YtfgnekbkcmpdiaaGreatDoorOy
namespace Go.Proofs.YtfgnekbkcmpdiaaGreatDoor
open Go.RowKit
set_option linter.unusedVariables false
set_option linter.unusedSimpArgs false
set_option maxRecDepth 100000

end Go.Proofs.YtfgnekbkcmpdiaaGreatDoor
