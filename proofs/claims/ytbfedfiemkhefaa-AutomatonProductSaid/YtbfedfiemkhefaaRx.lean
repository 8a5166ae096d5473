/- What both implementations return, as values. -/
import Derived.Test.YtbfedfiemkhefaaRA
import Derived.Test.YtbfedfiemkhefaaQs
namespace Go.Proofs.Ytbfedfiemkhefaa
open Go.RowKit
set_option linter.unusedVariables false
set_option linter.unusedSimpArgs false
set_option maxRecDepth 100000

theorem OwnR.below {W w : World} {y : DV} {R : Au} (h : OwnR W w y R) : Below W.heap.size W w := by
  obtain ⟨vs, _, _, _, _, hp⟩ := h
  exact hp.below
theorem Au.Vld.goodL {w : World} {x : DV} {M : Au} {k : Nat} (h : M.Vld k) (hd : DfaIn w x M) : GoodL w x M k := ⟨hd, h.right, by have := h.few; omega, h.k8⟩
theorem Canon.self {k : Nat} {P : List Nat → Bool} {R : Au} (h : Canon k P R) : Canon k (fun u => R.lang u) R := h.of_eq fun u hu => (h.lang u hu).symm
/-- The minimal automaton has no more states. -/
theorem Canon.small {k : Nat} {A R : Au} (hA : A.Right k) (h : Canon k (fun u => A.lang u) R) : R.n ≤ A.n := by
  by_cases h0 : R.n = 0
  · omega
  obtain ⟨pa, hb⟩ := h.bfs (by omega)
  have hst : R.st = 0 := h.start (by omega)
  have reach : ∀ q : Nat, q < R.n → ∃ u, Let k u ∧ R.run R.st u = (q : Int) := fun q hq => by
    obtain ⟨u, _, a, b⟩ := hb.word hA.pos (q + 1) q (q : Int) (by omega) (rangeI_mk hq)
    exact ⟨u, a, by rw [hst]; exact b⟩
  let u : Nat → List Nat := fun q => if hq : q < R.n then (reach q hq).choose else []
  have hu : ∀ q, q < R.n → Let k (u q) ∧ R.run R.st (u q) = (q : Int) := fun q hq => by
    show Let k (if hq : q < R.n then (reach q hq).choose else []) ∧ R.run R.st (if hq : q < R.n then (reach q hq).choose else []) = (q : Int)
    rw [dif_pos hq]; exact (reach q hq).choose_spec
  have same : ∀ q, q < R.n → ∀ v, Let k v → R.acc (R.run (q : Int) v) = A.acc (A.run (A.run A.st (u q)) v) := fun q hq v hv => by
    have := h.lang (u q ++ v) ((hu q hq).1.app hv)
    change R.acc (R.run R.st (u q ++ v)) = A.acc (A.run A.st (u q ++ v)) at this
    rw [R.run_app, A.run_app, (hu q hq).2] at this
    exact this
  have pos : ∀ q, q < R.n → 0 ≤ A.run A.st (u q) ∧ A.run A.st (u q) < A.n := fun q hq => by
    have h1 := hA.inRun (u q) A.st hA.st_in.1 hA.st_in.2
    refine ⟨?_, h1.2⟩
    apply Classical.byContradiction
    intro hn
    obtain ⟨v, hv, ha⟩ := h.live q hq
    rw [same q hq v hv, show A.run A.st (u q) = -1 by omega, A.run_neg, A.acc_neg (by omega)] at ha
    cases ha
  refine inj_below (fun q => (A.run A.st (u q)).toNat) (fun q hq => ?_) (fun a b ha hb2 e => ?_)
  · have := pos q hq
    show (A.run A.st (u q)).toNat < A.n
    omega
  · have h1 := pos a ha
    have h2 := pos b hb2
    have e : (A.run A.st (u a)).toNat = (A.run A.st (u b)).toNat := e
    have e2 : A.run A.st (u a) = A.run A.st (u b) := by omega
    exact h.red a b ha hb2 fun v hv => by rw [same a ha v hv, same b hb2 v hv, e2]
theorem acc_same {A R : Au} {k : Nat} (hA : A.Vld k) (hR : R.Vld k) (h : ∀ u, Let k u → R.lang u = A.lang u) (L : List Int) : R.accI L = A.accI L := by
  by_cases hl : ∀ t ∈ L, 0 ≤ t ∧ t < (k : Int)
  · obtain ⟨u, hu, rfl⟩ := Au.word_nat hl
    rw [hR.accI_nat hu, hA.accI_nat hu, h u hu]
  · rw [hR.accI_bad hl, hA.accI_bad hl]
/-- The zero value. -/
def zA : Au := ⟨0, [], [], 0⟩
abbrev zV : DV := ⟨none, 0, 0, none, 0, 0⟩
theorem zA_in (w : World) : DfaIn w zV zA := ⟨rfl, rfl, Nat.le_refl _, Nat.le_refl _, by simp, by simp, fun h => by simp [zA] at h, CellsIn.nil _ _⟩
theorem vldU {A : Au} {k k' : Nat} (h : A.Vld k) (g : A.Vld k') : k = k' := by have h1 := h.right.lt; have h2 := g.right.lt; omega
end Go.Proofs.Ytbfedfiemkhefaa
