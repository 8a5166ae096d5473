/- Contract of slices.Clone on strings, and what the statement about Join does with its result. -/
import Derived.Test.YtpmdfpfbnmoinaaWn
namespace Go.Proofs.Ytpmdfpfbnmoinaa
open Go.RowKit
set_option linter.unusedVariables false

theorem own_strs {w : World} {base n : Nat} {v : Value} {f : Nat → ByteArray} (h : w.ownsRow base 9 1 v n ((List.range n).map (fun i => Value.string (f i)))) (hs : ∀ i, i < n → (f i).size ≤ 140737488355328) :
    ∃ A c, v = .slice A n c ∧ n ≤ c ∧ StrArg w A n f := by
  rcases h.2 with ⟨rfl, rfl⟩ | ⟨g, c, cur, rfl, hb, hg, hnc, _⟩
  · exact ⟨none, 0, rfl, Nat.le_refl _, hs, fun h0 => by omega⟩
  · refine ⟨_, c, rfl, hnc, hs, fun h0 => ?_⟩
    obtain ⟨g', c', hv, _, hlt⟩ := h.form h0
    injection hv with h1 h2 h3
    injection h1 with h1
    injection h1 with h1
    subst h1
    exact ⟨g, 0, rfl, hlt, fun i hi => by rw [Nat.zero_add, h.cellAt _ (by omega)]; simp [hi]⟩
def ClonePost (n : Nat) (f : Nat → ByteArray) (w : World) (e : Ending) (w' : World) : Prop := ∃ A c, e = .returned (.slice A n c) ∧ n ≤ c ∧ StrArg w' A n f ∧ Below w.heap.size w w'
theorem clone_any (n c : Nat) (f : Nat → ByteArray) (A : Option Addr) (w : World) (hn : n ≤ 100000) (hA : StrArg w A n f) :
    Calls Try.prog 21 #[.slice A n c] w (ClonePost n f w) := by
  by_cases h0 : 0 < n
  · obtain ⟨b, off, rfl, hlt, hcc⟩ := hA.2 h0
    have e1 : ((List.range n).map f).length = n := by simp
    refine (Try.slices_Clone_string b off n c ((List.range n).map f) w (by rw [e1]; exact Nat.le_refl _) (by omega) (fun j hj => by
      rw [e1] at hj
      rw [hcc j hj]
      simp [hj])).mono ?_
    rintro e w' ⟨v', rfl, hown, _, hb⟩
    rw [List.take_of_length_le (by rw [e1]; exact Nat.le_refl _), List.map_map] at hown
    obtain ⟨A', c', rfl, hnc, hS⟩ := own_strs (f := f) hown hA.1
    exact ⟨A', c', rfl, hnc, hS, hb⟩
  · obtain rfl : n = 0 := by omega
    cases A with
    | none =>
      refine (Try.slices_Clone_string_nil 0 c w).mono ?_
      rintro e w' ⟨rfl, rfl⟩
      exact ⟨none, 0, rfl, Nat.le_refl _, ⟨fun i hi => by omega, fun h => by omega⟩, Below.refl _ _⟩
    | some a =>
      refine (Try.slices_Clone_string_zero a c w).mono ?_
      rintro e w' ⟨v', rfl, hown, _, hb⟩
      obtain ⟨A', c', rfl, hnc, hS⟩ := own_strs (n := 0) (f := f) hown (fun i hi => by omega)
      exact ⟨A', c', rfl, hnc, hS, hb⟩
end Go.Proofs.Ytpmdfpfbnmoinaa
