/- Contracts of Sum and slices.Clone on lists of strings. -/
import Derived.Test.YtpmdfpfbnmoinaaDoorWi
import Derived.Test.YtpmdfpfbnmoinaaDoorMathJ
namespace Go.Proofs.YtpmdfpfbnmoinaaDoor
open Go.RowKit
set_option linter.unusedVariables false

theorem empty_of {x : ByteArray} (h : x.size = 0) : x.data.toList = [] := by
  have : x.data.toList.length = 0 := h
  exact List.eq_nil_of_length_eq_zero this
theorem nonempty_of {x : ByteArray} (h : x.size ≠ 0) : x.data.toList ≠ [] := by
  intro e
  have : x.data.toList.length = 0 := by rw [e]; rfl
  exact h this
/-- A slice value that reads as n strings. -/
def StrArg (w : World) (A : Option Addr) (n : Nat) (f : Nat → ByteArray) : Prop :=
  (∀ i, i < n → (f i).size ≤ 140737488355328) ∧ (0 < n → ∃ b off, A = some ⟨b, off, none⟩ ∧ b < w.heap.size ∧ ∀ i, i < n → w.cell? ⟨b, off + i, none⟩ = some (.string (f i)))
theorem StrArg.below {w w' : World} {A : Option Addr} {n : Nat} {f : Nat → ByteArray} (h : StrArg w A n f) (hb : Below w.heap.size w w') : StrArg w' A n f := by
  refine ⟨h.1, fun h0 => ?_⟩
  obtain ⟨b, off, e, hlt, hc⟩ := h.2 h0
  exact ⟨b, off, e, Nat.lt_of_lt_of_le hlt hb.size, fun i hi => (hb.cell (p := ⟨b, off + i, none⟩) hlt).trans (hc i hi)⟩
def lists (f : Nat → ByteArray) (i : Nat) : List UInt8 := (f i).data.toList

def SumPost (lim : Int) (S : Nat) (w : World) (e : Ending) (w' : World) : Prop := ∃ T : Nat, e = .returned (.int .i64 (T : Int)) ∧ ((T : Int) ≤ lim → T = S) ∧ w = w'
set_option maxHeartbeats 1000000 in
theorem sum_any (n : Nat) (f : Nat → ByteArray) (A : Option Addr) (c : Nat) (lim : Int) (w : World) (hn : n ≤ 1000000) (hl0 : 0 ≤ lim) (hlim : lim ≤ 100000) (hA : StrArg w A n f) :
    Calls Tryd.prog 11 #[.slice A n c, .int .i64 lim] w (SumPost lim (sums (lists f) n) w) := by
  by_cases h0 : 0 < n
  · obtain ⟨b, off, rfl, hlt0, hcc⟩ := hA.2 h0
    have HC := Lib.hid hcc
    have HA := Lib.hid hA.1
    clear hA hcc
    go_enter Tryd.func11, Tryd.ntmps11
    go_wp2
    go_loop [5, 6] (fun t i => ∃ k T : Nat, k ≤ n ∧ i = .int .i64 k ∧ t = .int .i64 T ∧ T = sums (lists f) k ∧ T ≤ 150000000000000) (fun _ i => n - (intOf i).toNat)
    case atStart => exact ⟨0, 0, Nat.zero_le _, rfl, rfl, rfl, by omega⟩
    case round =>
      obtain ⟨k, T, hk, rfl, rfl, hT, hTb⟩ := hrel
      have HT := Lib.hid hT
      clear hT
      by_cases hlt : k < n
      · by_cases hsm : (T : Int) ≤ lim
        · have hc := HC.out k hlt
          have hz := HA.out k hlt
          obtain ⟨x, hx⟩ : ∃ x, x = f k := ⟨_, rfl⟩
          rw [← hx] at hc hz
          have HS := Lib.hid (show T + 1 + x.size = sums (lists f) (k + 1) by rw [sums, ← HT.out, hx]; rfl)
          clear hx
          go_wp2
          go_round
          case rel => exact ⟨k + 1, T + 1 + x.size, by omega, by go_num, by go_num, HS.out, by omega⟩
          case measure => simp [intOf]; omega
        · go_wp2
          go_ret
          exact ⟨T, rfl, fun h => by omega, rfl⟩
      · obtain rfl : k = n := by omega
        go_wp2
        go_ret
        exact ⟨T, rfl, fun _ => HT.out, rfl⟩
  · obtain rfl : n = 0 := by omega
    go_enter Tryd.func11, Tryd.ntmps11
    go_wp2
    refine wp_loop_rounds 1 ?_
    rw [rounds_succ]
    go_wp2
    go_ret
    exact ⟨0, rfl, fun _ => rfl, rfl⟩

theorem own_strs {w : World} {base n : Nat} {v : Value} {f : Nat → ByteArray} (h : w.ownsRow base 9 1 v n ((List.range n).map (fun i => Value.string (f i)))) (hs : ∀ i, i < n → (f i).size ≤ 140737488355328) :
    ∃ A c, v = .slice A n c ∧ n ≤ c ∧ StrArg w A n f := by
  rcases h.2 with ⟨rfl, rfl⟩ | ⟨g, c, cur, rfl, hb, hg, hnc, _⟩
  · exact ⟨none, 0, rfl, Nat.le_refl _, hs, fun h0 => by omega⟩
  · refine ⟨_, c, rfl, hnc, hs, fun h0 => ?_⟩
    obtain ⟨g', c', hv, _, hlt⟩ := h.form h0
    injection hv with h1 h2 h3
    injection h1 with h1
    injection h1 with h1
    subst h1
    exact ⟨g, 0, rfl, hlt, fun i hi => by rw [Nat.zero_add, h.cellAt _ (by omega)]; simp [hi]⟩
def ClonePost (n : Nat) (f : Nat → ByteArray) (w : World) (e : Ending) (w' : World) : Prop := ∃ A c, e = .returned (.slice A n c) ∧ n ≤ c ∧ StrArg w' A n f ∧ Below w.heap.size w w'
theorem clone_any (n c : Nat) (f : Nat → ByteArray) (A : Option Addr) (w : World) (hn : n ≤ 100000) (hA : StrArg w A n f) :
    Calls Tryd.prog 12 #[.slice A n c] w (ClonePost n f w) := by
  by_cases h0 : 0 < n
  · obtain ⟨b, off, rfl, hlt, hcc⟩ := hA.2 h0
    have e1 : ((List.range n).map f).length = n := by simp
    refine (Tryd.slices_Clone_string b off n c ((List.range n).map f) w (by rw [e1]; exact Nat.le_refl _) (by omega) (fun j hj => by
      rw [e1] at hj
      rw [hcc j hj]
      simp [hj])).mono ?_
    rintro e w' ⟨v', rfl, hown, _, hb⟩
    rw [List.take_of_length_le (by rw [e1]; exact Nat.le_refl _), List.map_map] at hown
    obtain ⟨A', c', rfl, hnc, hS⟩ := own_strs (f := f) hown hA.1
    exact ⟨A', c', rfl, hnc, hS, hb⟩
  · obtain rfl : n = 0 := by omega
    cases A with
    | none =>
      refine (Tryd.slices_Clone_string_nil 0 c w).mono ?_
      rintro e w' ⟨rfl, rfl⟩
      exact ⟨none, 0, rfl, Nat.le_refl _, ⟨fun i hi => by omega, fun h => by omega⟩, Below.refl _ _⟩
    | some a =>
      refine (Tryd.slices_Clone_string_zero a c w).mono ?_
      rintro e w' ⟨v', rfl, hown, _, hb⟩
      obtain ⟨A', c', rfl, hnc, hS⟩ := own_strs (n := 0) (f := f) hown (fun i hi => by omega)
      exact ⟨A', c', rfl, hnc, hS, hb⟩
end Go.Proofs.YtpmdfpfbnmoinaaDoor
