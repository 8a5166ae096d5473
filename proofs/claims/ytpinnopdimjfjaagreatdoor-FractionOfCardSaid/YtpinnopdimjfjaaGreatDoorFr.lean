/- Contract of the reference's Format of fractions. -/
import Derived.Test.YtpinnopdimjfjaaGreatDoorFq
import Derived.Test.YtpinnopdimjfjaaGreatDoorFd
namespace Go.Proofs.YtpinnopdimjfjaaGreatDoor
open Go.RowKit
set_option linter.unusedVariables false
set_option maxRecDepth 100000

theorem rfvalid_t (s : Bool) (n c m d : Nat) (x y : Int) (A B : Option Addr) (W : World) (hx : NumAt W (.slice A n c) x) (hy : NumAt W (.slice B m d) y) (hv : 0 < y ∧ gcdI x y = 1 ∧ (s = true → 0 < x)) :
    Calls Tryz.prog 31 #[.agg #[.bool s, .slice A n c, .slice B m d]] W fun e w' => e = .returned (.bool true) ∧ Below W.heap.size W w' := by
  have := rfvalid_num s n c m d x y A B W hx hy
  rwa [decide_eq_true hv] at this
end Go.Proofs.YtpinnopdimjfjaaGreatDoor
