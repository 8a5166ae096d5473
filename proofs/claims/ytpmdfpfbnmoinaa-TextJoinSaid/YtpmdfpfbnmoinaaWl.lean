/- Contracts of onlyLetters, Sum and text.Join. -/
import Derived.Test.YtpmdfpfbnmoinaaWk
import Derived.Test.YtpmdfpfbnmoinaaMathJ
namespace Go.Proofs.Ytpmdfpfbnmoinaa
open Go.RowKit
set_option linter.unusedVariables false

theorem all_step {s : ByteArray} {k : Nat} (hk : k < s.size) (h : allLtr (s.data.toList.take k) = true) (hf : ltr (s[k].toNat : Int) = true) : allLtr (s.data.toList.take (k + 1)) = true := by
  unfold allLtr at *
  rw [List.take_succ_eq_append_getElem (by rw [sizeB]; exact hk), List.all_append, h]
  simp [← getB s k hk, hf]
theorem all_no {s : ByteArray} {k : Nat} (hk : k < s.size) (hf : ltr (s[k].toNat : Int) = false) : allLtr s.data.toList = false := by
  unfold allLtr
  rw [List.all_eq_false]
  exact ⟨s.data.toList[k]'(by rw [sizeB]; exact hk), List.getElem_mem _, by rw [← getB s k hk]; simp [hf]⟩
theorem all_end {s : ByteArray} {k : Nat} (hk : s.size ≤ k) (h : allLtr (s.data.toList.take k) = true) : allLtr s.data.toList = true := by
  rw [List.take_of_length_le (by rw [sizeB]; exact hk)] at h; exact h
set_option maxHeartbeats 400000 in
theorem only_any (s : ByteArray) (w : World) (hs : s.size ≤ maxLen) :
    Calls Try.prog 29 #[.string s] w fun e w' => e = .returned (.bool (allLtr s.data.toList)) ∧ w = w' := by
  unfold maxLen at hs
  go_enter Try.func29, Try.ntmps29
  go_wp2
  go_loop [3] (fun i => ∃ k : Nat, k ≤ s.size ∧ i = .int .i64 k ∧ allLtr (s.data.toList.take k) = true) (fun i => s.size - (intOf i).toNat)
  case atStart => exact ⟨0, Nat.zero_le _, rfl, rfl⟩
  case round =>
    obtain ⟨k, hk, rfl, hok⟩ := hrel
    have HOK := Lib.hid hok
    clear hok
    by_cases hlt : k < s.size
    · have hb : (s[k].toNat : Int) ≤ 255 := by have := s[k].toNat_lt; omega
      cases hi : ltr (s[k].toNat : Int) with
      | true =>
        have HI := Lib.hid hi
        clear hi
        go_wp2_with (go_at_call 26; refine (letter_any _ _ (by omega) (by omega)).mono ?_; rintro e w' ⟨rfl, rfl⟩; rw [HI.out])
        go_round
        case rel => exact ⟨k + 1, by omega, by go_num, all_step hlt HOK.out HI.out⟩
        case measure => simp [intOf]; omega
      | false =>
        have HI := Lib.hid hi
        have HE := Lib.hid (all_no hlt hi)
        clear hi
        go_wp2_with (go_at_call 26; refine (letter_any _ _ (by omega) (by omega)).mono ?_; rintro e w' ⟨rfl, rfl⟩; rw [HI.out])
        go_ret
        exact ⟨ret_bool HE.out.symm, rfl⟩
    · have HE := Lib.hid (all_end (by omega) HOK.out)
      go_wp2
      go_ret
      exact ⟨ret_bool HE.out.symm, rfl⟩

/-- A slice value that reads as n strings. -/
def StrArg (w : World) (A : Option Addr) (n : Nat) (f : Nat → ByteArray) : Prop :=
  (∀ i, i < n → (f i).size ≤ 140737488355328) ∧ (0 < n → ∃ b off, A = some ⟨b, off, none⟩ ∧ b < w.heap.size ∧ ∀ i, i < n → w.cell? ⟨b, off + i, none⟩ = some (.string (f i)))
theorem StrArg.below {w w' : World} {A : Option Addr} {n : Nat} {f : Nat → ByteArray} (h : StrArg w A n f) (hb : Below w.heap.size w w') : StrArg w' A n f := by
  refine ⟨h.1, fun h0 => ?_⟩
  obtain ⟨b, off, e, hlt, hc⟩ := h.2 h0
  exact ⟨b, off, e, Nat.lt_of_lt_of_le hlt hb.size, fun i hi => (hb.cell (p := ⟨b, off + i, none⟩) hlt).trans (hc i hi)⟩
def lists (f : Nat → ByteArray) (i : Nat) : List UInt8 := (f i).data.toList

def SumPost (S : Nat) (w : World) (e : Ending) (w' : World) : Prop := ∃ T : Nat, e = .returned (.int .i64 (T : Int)) ∧ (T ≤ 500 → T = S) ∧ w = w'
set_option maxHeartbeats 1000000 in
theorem sum_any (n : Nat) (f : Nat → ByteArray) (A : Option Addr) (c : Nat) (w : World) (hn : n ≤ 60) (hA : StrArg w A n f) :
    Calls Try.prog 19 #[.slice A n c, .int .i64 500] w (SumPost (sums (lists f) n) w) := by
  by_cases h0 : 0 < n
  · obtain ⟨b, off, rfl, hlt0, hcc⟩ := hA.2 h0
    have HC := Lib.hid hcc
    have HA := Lib.hid hA.1
    clear hA hcc
    go_enter Try.func19, Try.ntmps19
    go_wp2
    go_loop [5, 6] (fun t i => ∃ k T : Nat, k ≤ n ∧ i = .int .i64 k ∧ t = .int .i64 T ∧ T = sums (lists f) k ∧ T ≤ 150000000000000) (fun _ i => n - (intOf i).toNat)
    case atStart => exact ⟨0, 0, Nat.zero_le _, rfl, rfl, rfl, by omega⟩
    case round =>
      obtain ⟨k, T, hk, rfl, rfl, hT, hTb⟩ := hrel
      have HT := Lib.hid hT
      clear hT
      by_cases hlt : k < n
      · by_cases hsm : T ≤ 500
        · have hc := HC.out k hlt
          have hz := HA.out k hlt
          obtain ⟨x, hx⟩ : ∃ x, x = f k := ⟨_, rfl⟩
          rw [← hx] at hc hz
          have HS := Lib.hid (show T + 1 + x.size = sums (lists f) (k + 1) by rw [sums, ← HT.out, hx]; rfl)
          clear hx
          go_wp2
          go_round
          case rel => exact ⟨k + 1, T + 1 + x.size, by omega, by go_num, by go_num, HS.out, by omega⟩
          case measure => simp [intOf]; omega
        · go_wp2
          go_ret
          exact ⟨T, rfl, fun h => by omega, rfl⟩
      · obtain rfl : k = n := by omega
        go_wp2
        go_ret
        exact ⟨T, rfl, fun _ => HT.out, rfl⟩
  · obtain rfl : n = 0 := by omega
    go_enter Try.func19, Try.ntmps19
    go_wp2
    refine wp_loop_rounds 1 ?_
    rw [rounds_succ]
    go_wp2
    go_ret
    exact ⟨0, rfl, fun _ => rfl, rfl⟩
end Go.Proofs.Ytpmdfpfbnmoinaa
