/- Contract of the reference: Few. -/
import Derived.Test.YtfgnekbkcmpdiaaGreatDoorOr
import Derived.Test.YtfgnekbkcmpdiaaGreatDoorOp
namespace Go.Proofs.YtfgnekbkcmpdiaaGreatDoor
open Go.RowKit
set_option linter.unusedVariables false
set_option linter.unusedSimpArgs false
set_option maxRecDepth 100000

/-- Whether an orthography is small. -/
def fewO (nm : List UInt8) (L : List Sg) : Bool := decide (nm.length ≤ 60) && (decide (L.length ≤ 130) && ((L.all fun x => fewB x.s 6) && decide ((useA L).length ≤ 1500)))
theorem fewO_yes {nm : List UInt8} {L : List Sg} (h : fewO nm L = true) : nm.length ≤ 60 ∧ L.length ≤ 130 ∧ (∀ x ∈ L, fewB x.s 6 = true) ∧ (useA L).length ≤ 1500 := by
  unfold fewO at h; simpa using h
theorem fewO_nm {nm : List UInt8} {L : List Sg} (h : 60 < nm.length) : fewO nm L = false := by unfold fewO; rw [decide_eq_false (by omega)]; rfl
theorem fewO_len {nm : List UInt8} {L : List Sg} (h : 130 < L.length) : fewO nm L = false := by unfold fewO; rw [decide_eq_false (show ¬ L.length ≤ 130 by omega)]; simp
theorem fewO_snd {nm : List UInt8} {L : List Sg} {k : Nat} {x : Sg} (h : L[k]? = some x) (h1 : fewB x.s 6 = false) : fewO nm L = false := by
  rw [Bool.eq_false_iff]; intro hf
  have := (fewO_yes hf).2.2.1 x (List.mem_of_getElem? h)
  rw [h1] at this; cases this
theorem fewO_all {nm : List UInt8} {L : List Sg} (h : nm.length ≤ 60) (h1 : L.length ≤ 130) (h2 : ∀ x ∈ L, fewB x.s 6 = true) : fewO nm L = decide ((useA L).length ≤ 1500) := by
  unfold fewO
  rw [decide_eq_true h, decide_eq_true h1, List.all_eq_true.2 h2]; rfl
theorem useA_mem {L : List Sg} {x : Sg} (h : x ∈ L) : x.t.length ≤ (useA L).length := by
  induction L with
  | nil => cases h
  | cons y r ih =>
    have e : useA (y :: r) = y.t ++ useA r := by unfold useA; rw [List.flatMap_cons]
    rw [e, List.length_append]
    rcases List.mem_cons.1 h with h | h
    · subst h; omega
    · have := ih h; omega
theorem fewO_bd {nm : List UInt8} {L : List Sg} (h : fewO nm L = true) (hlim : ∀ x ∈ L, SgLim x) : SgBd L := by
  obtain ⟨_, _, h3, h4⟩ := fewO_yes h
  intro x hx
  have a := few_yes (h3 x hx)
  have b := useA_mem hx
  exact ⟨by omega, by omega, (hlim x hx).2.2⟩
end Go.Proofs.YtfgnekbkcmpdiaaGreatDoor
