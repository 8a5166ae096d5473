/- Contracts of the reference: what is reached; cuts. -/
import Derived.Test.YtgdfjblfpeedjaaDCX
import Derived.Test.YtgdfjblfpeedjaaDCm
namespace Go.Proofs.Ytgdfjblfpeedjaa
open Go.RowKit
set_option linter.unusedVariables false
set_option linter.unusedSimpArgs false
set_option maxRecDepth 100000

/-- What the reference's reached returns. -/
def RReachPost (g : Gr) (w : World) (e : Ending) (w' : World) : Prop := ∃ gr : Nat, e = .returned (.slice (some ⟨gr, 0, none⟩) g.n.toNat g.n.toNat) ∧ Hp w [flags (some ⟨gr, 0, none⟩) g.n.toNat g.n.toNat g.rc] w'
end Go.Proofs.Ytgdfjblfpeedjaa
