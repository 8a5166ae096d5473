/- Contracts of the program: what potentials prove. -/
import Derived.Test.YtgdfjblfpeedjaaDDg
import Derived.Test.YtgdfjblfpeedjaaDCX
import Derived.Deep.RegionLaw
namespace Go.Proofs.Ytgdfjblfpeedjaa
open Go.RowKit
set_option linter.unusedVariables false
set_option linter.unusedSimpArgs false
set_option maxRecDepth 100000

/-- Whether an arc shows that potentials prove nothing. -/
def brk (p : List Int) (a : Ar) : Bool := decide (0 ≤ p.getD a.t.toNat 0) && (decide (p.getD a.f.toNat 0 < 0) || decide (a.c + p.getD a.t.toNat 0 < p.getD a.f.toNat 0))
/-- Whether potentials prove that a path of this cost is a cheapest one. -/
def provV (g : Gr) (p : List Int) (c : Int) : Bool := decide ((∀ x ∈ p, -1 ≤ x ∧ x ≤ 1099511627776) ∧ p.getD 0 0 = c ∧ p.getD (g.n - 1).toNat 0 = 0) && !(g.rs.any (brk p))
/-- What Check answers. -/
def Gr.rck (g : Gr) (l p : List Int) : Bool := decide ((g.cst l).2 = 0 ∧ (p.length : Int) = g.n) && provV g p (g.cst l).1
theorem prov_no {g : Gr} {p : List Int} {c : Int} (h : ¬ ((∀ x ∈ p, -1 ≤ x ∧ x ≤ 1099511627776) ∧ p.getD 0 0 = c ∧ p.getD (g.n - 1).toNat 0 = 0)) : provV g p c = false := by
  unfold provV; rw [decide_eq_false h]; rfl
theorem prov_yes {g : Gr} {p : List Int} {c : Int} (h : (∀ x ∈ p, -1 ≤ x ∧ x ≤ 1099511627776) ∧ p.getD 0 0 = c ∧ p.getD (g.n - 1).toNat 0 = 0) : provV g p c = !(g.rs.any (brk p)) := by
  unfold provV; rw [decide_eq_true h]; rfl
end Go.Proofs.Ytgdfjblfpeedjaa
