/- Contract of the reference's Equal on lists of strings. -/
import Derived.Test.YtpmdfpfbnmoinaaDoorWd
namespace Go.Proofs.YtpmdfpfbnmoinaaDoor
open Go.RowKit
set_option linter.unusedVariables false

/-- A slice value that reads as n strings. -/
def StrsIn (w : World) (A : Option Addr) (n : Nat) (f : Nat → ByteArray) : Prop :=
  0 < n → ∃ g off, A = some ⟨g, off, none⟩ ∧ g < w.heap.size ∧ ∀ i, i < n → w.cell? ⟨g, off + i, none⟩ = some (.string (f i))
theorem StrsIn.below {w w' : World} {A : Option Addr} {n : Nat} {f : Nat → ByteArray} (h : StrsIn w A n f) (hb : Below w.heap.size w w') : StrsIn w' A n f := by
  intro h0
  obtain ⟨g, off, e, hlt, hc⟩ := h h0
  exact ⟨g, off, e, Nat.lt_of_lt_of_le hlt hb.size, fun i hi => (hb.cell (p := ⟨g, off + i, none⟩) hlt).trans (hc i hi)⟩

/-! ### Equal on lists of strings -/
theorem bytes_eq_of {a b : ByteArray} (h : (a.toList == b.toList) = true) : a = b := by
  rw [ByteArray.toList_eq, ByteArray.toList_eq] at h
  obtain ⟨⟨x⟩⟩ := a
  obtain ⟨⟨y⟩⟩ := b
  simpa using h
theorem range_map_yes {n : Nat} {f h : Nat → ByteArray} (e : ∀ j, j < n → f j = h j) : decide ((List.range n).map f = (List.range n).map h) = true :=
  decide_eq_true (List.map_congr_left (fun j hj => e j (by simpa using hj)))
theorem range_map_no {n k : Nat} {f h : Nat → ByteArray} (hk : k < n) (e : ((f k).toList == (h k).toList) = false) : decide ((List.range n).map f = (List.range n).map h) = false := by
  refine decide_eq_false (fun e2 => ?_)
  have h1 : ((List.range n).map f)[k]? = ((List.range n).map h)[k]? := by rw [e2]
  have h2 : f k = h k := by simpa [hk] using h1
  rw [h2] at e
  simp at e
set_option maxHeartbeats 1000000 in
theorem req_any (n m : Nat) (f h : Nat → ByteArray) (A C : Option Addr) (c d : Nat) (w : World) (hn : n ≤ 140737488355328) (hm : m ≤ 140737488355328) (hA : StrsIn w A n f) (hC : StrsIn w C m h) :
    Calls Tryd.prog 9 #[.slice A n c, .slice C m d] w fun e w' => e = .returned (.bool (decide ((List.range n).map f = (List.range m).map h))) ∧ ∃ q, w' = w.drewN q := by
  by_cases hlen : n = m
  · subst hlen
    by_cases h0 : 0 < n
    · obtain ⟨g, off, rfl, hg, hcA⟩ := hA h0
      obtain ⟨g', off', rfl, hg', hcC⟩ := hC h0
      have HA := Lib.hid hcA
      have HC := Lib.hid hcC
      clear hA hC hcA hcC
      go_enter Tryd.func9, Tryd.ntmps9
      go_wp2
      go_loopw [5] (fun i wr => ∃ k : Nat, k ≤ n ∧ i = .int .i64 k ∧ (∀ j, j < k → f j = h j) ∧ ∃ q, wr = w.drewN q) (fun i _ => n - (intOf i).toNat)
      case atStart => exact ⟨0, Nat.zero_le _, rfl, fun j hj => by omega, 0, rfl⟩
      case round =>
        obtain ⟨k, hk, rfl, htk, q, rfl⟩ := hrel
        have HT := Lib.hid htk
        clear htk
        by_cases hlt : k < n
        · have a1 := HA.out k hlt
          have c1 := HC.out k hlt
          obtain ⟨x, hx⟩ : ∃ x, x = f k := ⟨_, rfl⟩
          obtain ⟨y, hy⟩ : ∃ y, y = h k := ⟨_, rfl⟩
          rw [← hx] at a1
          rw [← hy] at c1
          have HX := Lib.hid hx
          have HY := Lib.hid hy
          clear hx hy
          cases hq : x.toList == y.toList with
          | true =>
            have HQ := Lib.hid (bytes_eq_of hq)
            go_wp2
            go_quiet (fail)
            go_wp2
            go_roundw
            case rel => exact ⟨k + 1, by omega, by go_num, fun j hj => by
              by_cases e : j = k
              · subst e; rw [← HX.out, ← HY.out, HQ.out]
              · exact HT.out j (by omega), _, rfl⟩
            case measure => simp [intOf]; omega
          | false =>
            have HQ := Lib.hid (range_map_no (f := f) (h := h) hlt (by rw [← HX.out, ← HY.out]; exact hq))
            go_wp2
            go_quiet (fail)
            go_wp2
            go_ret
            exact ⟨ret_bool HQ.out.symm, _, World.drewN_drewN _ _ _⟩
        · have HE := Lib.hid (range_map_yes (n := n) (f := f) (h := h) (fun j hj => HT.out j (by omega)))
          go_wp2
          go_ret
          exact ⟨ret_bool HE.out.symm, _, rfl⟩
    · obtain rfl : n = 0 := by omega
      go_enter Tryd.func9, Tryd.ntmps9
      go_wp2
      refine wp_loop_rounds 1 ?_
      rw [rounds_succ]
      go_wp2
      go_ret
      exact ⟨rfl, 0, rfl⟩
  · have HE := Lib.hid (show decide ((List.range n).map f = (List.range m).map h) = false from decide_eq_false (fun e => hlen (by simpa using congrArg List.length e)))
    have hne : ((n : Int) == (m : Int)) = false := by simp; omega
    have hne' : ((n : Int) != (m : Int)) = true := by simp; omega
    clear hlen
    go_enter Tryd.func9, Tryd.ntmps9
    go_wp2
    go_ret
    exact ⟨ret_bool HE.out.symm, 0, rfl⟩

end Go.Proofs.YtpmdfpfbnmoinaaDoor
