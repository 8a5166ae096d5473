/- Contracts of the program: lists of nodes; arcs that leave a set. -/
import Derived.Test.YtgdfjblfpeedjaaDDf
import Derived.Test.YtgdfjblfpeedjaaDAX
import Derived.Test.YtgdfjblfpeedjaaDCX
namespace Go.Proofs.Ytgdfjblfpeedjaa
open Go.RowKit
set_option linter.unusedVariables false
set_option linter.unusedSimpArgs false
set_option maxRecDepth 100000

/-! ### What a check of a cut answers -/
theorem cc_bad {g : Gr} {l : List Int} (h : ¬ g.vE = 0) : g.ccV l = false := decide_eq_false fun e => h e.1
theorem cc_nl {g : Gr} {l : List Int} (h : nlB g.n l = false) : g.ccV l = false := decide_eq_false fun e => by rw [h] at e; cases e.2.1
theorem cc_start {g : Gr} {l : List Int} (h : decide ((0 : Int) ∈ l) = false) : g.ccV l = false := decide_eq_false fun e => (of_decide_eq_false h) e.2.2.1
theorem cc_end {g : Gr} {l : List Int} (h : decide ((g.n - 1) ∈ l) = true) : g.ccV l = false := decide_eq_false fun e => e.2.2.2.1 (of_decide_eq_true h)
/-- An arc that leaves the nodes marked. -/
def leaves (F : List Bool) (a : Ar) : Bool := F.getD a.f.toNat false && !F.getD a.t.toNat false
theorem nlB_pos {n : Int} {l : List Int} (h : nlB n l = true) : ∀ x ∈ l, 0 ≤ x := fun x hx => ((of_decide_eq_true h).1 x hx).1
theorem cc_all {g : Gr} {l : List Int} {N : Nat} (hv : g.vE = 0) (hN : N = g.n.toNat) (hn : nlB g.n l = true) (h0 : decide ((0 : Int) ∈ l) = true) (h1 : decide ((g.n - 1) ∈ l) = false) : g.ccV l = !(g.rs.any (leaves (marks N l))) := by
  have hO := Gr.ok hv
  have hp := nlB_pos hn
  have hb : ∀ a ∈ g.rs, leaves (marks N l) a = (decide (a.f ∈ l) && !decide (a.t ∈ l)) := fun a ha => by
    have h3 := hO.arc a ha
    unfold leaves
    rw [marks_get (by omega) hp, marks_get (by omega) hp, show ((a.f.toNat : Nat) : Int) = a.f by omega, show ((a.t.toNat : Nat) : Int) = a.t by omega]
  cases hA : g.rs.any (leaves (marks N l)) with
  | true =>
    obtain ⟨a, ha, h4⟩ := List.any_eq_true.1 hA
    rw [hb a ha] at h4
    refine decide_eq_false fun e => ?_
    have h5 := e.2.2.2.2 a ha
    by_cases h6 : a.f ∈ l
    · have h7 := h5 h6
      simp [h6, h7] at h4
    · simp [h6] at h4
  | false =>
    refine decide_eq_true ⟨hv, hn, of_decide_eq_true h0, of_decide_eq_false h1, fun a ha hf => ?_⟩
    have h4 : leaves (marks N l) a = false := by
      cases h5 : leaves (marks N l) a with
      | false => rfl
      | true => rw [List.any_eq_true.2 ⟨a, ha, h5⟩] at hA; cases hA
    rw [hb a ha] at h4
    by_cases h6 : a.t ∈ l
    · exact h6
    · simp [hf, h6] at h4
end Go.Proofs.Ytgdfjblfpeedjaa
