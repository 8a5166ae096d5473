/- Several texts in one: Jh. -/
import Derived.Test.YtpifchlpakajjaaGreatRtbc
import Derived.Test.YtpifchlpakajjaaGreatRtaf
import Derived.Test.YtpifchlpakajjaaGreatRtar
import Derived.Test.YtpifchlpakajjaaGreatRtaw
import Derived.Test.YtpifchlpakajjaaGreatRtag
namespace Go.Proofs.YtpifchlpakajjaaGreat
open Go.RowKit
set_option linter.unusedVariables false
set_option linter.unusedSimpArgs false
set_option maxRecDepth 100000

def Mk (L : List Sg) (u : List UInt8) (a : Nat) (ks : List Nat) (j : Nat) : Prop := j = 0 ∨ (∃ k i, k < a ∧ Rch L u k ∧ i ∈ stL L (u.drop k) ∧ j = k + (sgAt L i).t.length) ∨ ∃ i ∈ ks, j = a + (sgAt L i).t.length
def MkF (L : List Sg) (u : List UInt8) (a : Nat) (ks : List Nat) (F : List Bool) : Prop := F.length = u.length + 1 ∧ ∀ j, j ≤ u.length → (F.getD j false = true ↔ Mk L u a ks j)
theorem Mk.here {L : List Sg} (hne : TxNe L) {u : List UInt8} {a : Nat} (ha : a ≤ u.length) : Mk L u a [] a ↔ Rch L u a := by
  constructor
  · rintro (h | ⟨k, i, _, h2, h3, h4⟩ | ⟨i, hi, _⟩)
    · subst h; exact Rch.zero L u
    · rw [h4]; exact h2.step h3
    · cases hi
  · intro h
    rcases Nat.eq_zero_or_pos a with h0 | h0
    · exact Or.inl h0
    · obtain ⟨k, i, h1, h2, h3, h4⟩ := h.last hne h0
      exact Or.inr (Or.inl ⟨k, i, h1, h2, h3, h4⟩)
theorem Mk.on {L : List Sg} {u : List UInt8} {a : Nat} (h : Rch L u a) (j : Nat) : Mk L u a (stL L (u.drop a)) j ↔ Mk L u (a + 1) [] j := by
  constructor
  · rintro (h1 | ⟨k, i, h1, h2, h3, h4⟩ | ⟨i, hi, hj⟩)
    · exact Or.inl h1
    · exact Or.inr (Or.inl ⟨k, i, by omega, h2, h3, h4⟩)
    · exact Or.inr (Or.inl ⟨a, i, by omega, h, hi, hj⟩)
  · rintro (h1 | ⟨k, i, h1, h2, h3, h4⟩ | ⟨i, hi, _⟩)
    · exact Or.inl h1
    · rcases Nat.lt_or_ge k a with hk | hk
      · exact Or.inr (Or.inl ⟨k, i, hk, h2, h3, h4⟩)
      · obtain rfl : k = a := by omega
        exact Or.inr (Or.inr ⟨i, h3, h4⟩)
    · cases hi
theorem Mk.skip {L : List Sg} {u : List UInt8} {a : Nat} (h : ¬ Rch L u a) (j : Nat) : Mk L u a [] j ↔ Mk L u (a + 1) [] j := by
  constructor
  · rintro (h1 | ⟨k, i, h1, h2, h3, h4⟩ | ⟨i, hi, _⟩)
    · exact Or.inl h1
    · exact Or.inr (Or.inl ⟨k, i, by omega, h2, h3, h4⟩)
    · cases hi
  · rintro (h1 | ⟨k, i, h1, h2, h3, h4⟩ | ⟨i, hi, _⟩)
    · exact Or.inl h1
    · rcases Nat.lt_or_ge k a with hk | hk
      · exact Or.inr (Or.inl ⟨k, i, hk, h2, h3, h4⟩)
      · obtain rfl : k = a := by omega
        exact absurd h2 h
    · cases hi
theorem getD_set {F : List Bool} {i j : Nat} (hi : i < F.length) : (F.set i true).getD j false = if j = i then true else F.getD j false := by
  rw [List.getD_eq_getElem?_getD, List.getD_eq_getElem?_getD, List.getElem?_set]
  by_cases e : i = j
  · subst e; rw [if_pos rfl, if_pos rfl, if_pos hi]; rfl
  · rw [if_neg e, if_neg (Ne.symm e)]
theorem MkF.more {L : List Sg} {u : List UInt8} {a : Nat} {ks : List Nat} {F : List Bool} (h : MkF L u a ks F) (i : Nat) (hi : a + (sgAt L i).t.length ≤ u.length) : MkF L u a (ks ++ [i]) (F.set (a + (sgAt L i).t.length) true) := by
  obtain ⟨h1, h2⟩ := h
  refine ⟨by rw [List.length_set]; exact h1, fun j hj => ?_⟩
  rw [getD_set (by omega)]
  by_cases e : j = a + (sgAt L i).t.length
  · rw [if_pos e]
    exact ⟨fun _ => Or.inr (Or.inr ⟨i, by simp, e⟩), fun _ => rfl⟩
  · rw [if_neg e, h2 j hj]
    constructor
    · rintro (h3 | h3 | ⟨k, hk, hj2⟩)
      · exact Or.inl h3
      · exact Or.inr (Or.inl h3)
      · exact Or.inr (Or.inr ⟨k, by simp [hk], hj2⟩)
    · rintro (h3 | h3 | ⟨k, hk, hj2⟩)
      · exact Or.inl h3
      · exact Or.inr (Or.inl h3)
      · rcases List.mem_append.1 hk with hk | hk
        · exact Or.inr (Or.inr ⟨k, hk, hj2⟩)
        · rw [List.mem_singleton.1 hk] at hj2; exact absurd hj2 e
theorem MkF.start {L : List Sg} {u : List UInt8} {N : Nat} (hN : N = u.length + 1) : MkF L u 0 [] ((List.replicate N false).set 0 true) := by
  refine ⟨by rw [List.length_set, List.length_replicate, hN], fun j hj => ?_⟩
  rw [getD_set (by rw [List.length_replicate]; omega)]
  by_cases e : j = 0
  · rw [if_pos e]; exact ⟨fun _ => Or.inl e, fun _ => rfl⟩
  · rw [if_neg e, List.getD_eq_getElem?_getD, List.getElem?_replicate]
    constructor
    · intro h; split at h <;> cases h
    · rintro (h | ⟨k, _, h, _⟩ | ⟨i, hi, _⟩)
      · exact absurd h e
      · exact absurd h (Nat.not_lt_zero k)
      · cases hi
def RcPost (nm : List UInt8) (L : List Sg) (u : List UInt8) (w : World) (r : Ending) (w' : World) : Prop :=
  ∃ z : Int, r = .returned (.tuple #[.int .i64 z, .int .i64 (gvE nm L u)]) ∧ (gvE nm L u = 0 → ∃ q : Nat, z = (q : Int) ∧ RMax L u q) ∧ (gvE nm L u ≠ 0 → z = 0) ∧ Below w.heap.size w w'
end Go.Proofs.YtpifchlpakajjaaGreat
