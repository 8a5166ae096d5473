/- Contracts of the small functions: what a byte of a line is, what a letter is, the error of a line. -/
import Derived.Test.YtpmdfpfbnmoinaaDoorRows
import Derived.Test.YtpmdfpfbnmoinaaDoorMath
import Derived.Test.YtpmdfpfbnmoinaaDoorShelf
import Derived.WalkKit
import Derived.WalkSpells
import Derived.WalkLawsBesides
import Derived.Lib.Hide
import Derived.Outline
namespace Go.Proofs.YtpmdfpfbnmoinaaDoor
open Go.RowKit
set_option linter.unusedVariables false

set_option maxHeartbeats 400000 in
theorem belongs_any (n : Int) (w : World) (h0 : 0 ≤ n) (h1 : n ≤ 255) :
    Calls Tryd.prog 53 #[.int .u8 n] w fun e w' => e = .returned (.bool (inl n)) ∧ w = w' := by
  by_cases h2 : 32 ≤ n
  · by_cases h3 : n ≤ 126
    · have : inl n = true := by simp [inl, h2, h3]
      rw [this]
      go_enter Tryd.func53, Tryd.ntmps53
      go_wp2
      go_ret
      exact ⟨rfl, rfl⟩
    · have : inl n = false := by simp [inl, h2, h3]
      rw [this]
      go_enter Tryd.func53, Tryd.ntmps53
      go_wp2
      go_ret
      exact ⟨rfl, rfl⟩
  · have : inl n = false := by simp [inl, h2]
    rw [this]
    go_enter Tryd.func53, Tryd.ntmps53
    go_wp2
    go_ret
    exact ⟨rfl, rfl⟩
theorem belongs_yes (n : Int) (w : World) (h0 : 0 ≤ n) (h1 : n ≤ 255) (h : inl n = true) :
    Calls Tryd.prog 53 #[.int .u8 n] w fun e w' => e = .returned (.bool true) ∧ w = w' := h ▸ belongs_any n w h0 h1
theorem belongs_no (n : Int) (w : World) (h0 : 0 ≤ n) (h1 : n ≤ 255) (h : inl n = false) :
    Calls Tryd.prog 53 #[.int .u8 n] w fun e w' => e = .returned (.bool false) ∧ w = w' := h ▸ belongs_any n w h0 h1

set_option maxHeartbeats 400000 in
theorem tvalid_any (s : ByteArray) (w : World) (hs : s.size ≤ maxLen) :
    Calls Tryd.prog 38 #[.string s] w fun e w' => e = .returned (.int .i64 (vErr s.data.toList)) ∧ w = w' := by
  unfold maxLen at hs
  by_cases h : 120 < s.size
  · rw [vErr_big h]
    go_enter Tryd.func38, Tryd.ntmps38
    go_wp2
    go_ret
    exact ⟨rfl, rfl⟩
  · go_enter Tryd.func38, Tryd.ntmps38
    go_wp2
    go_loop [3] (fun i => ∃ k : Nat, k ≤ s.size ∧ i = .int .i64 k ∧ okL (s.data.toList.take k) = true) (fun i => s.size - (intOf i).toNat)
    case atStart => exact ⟨0, Nat.zero_le _, rfl, rfl⟩
    case round =>
      obtain ⟨k, hk, rfl, hok⟩ := hrel
      have HOK := Lib.hid hok
      clear hok
      by_cases hlt : k < s.size
      · have hb : (s[k].toNat : Int) ≤ 255 := by have := s[k].toNat_lt; omega
        cases hi : inl (s[k].toNat : Int) with
        | true =>
          have HI := Lib.hid hi
          clear hi
          go_wp2_with (go_at_call 53; refine (belongs_yes _ _ (by omega) (by omega) HI.out).mono ?_; rintro e w' ⟨rfl, rfl⟩)
          go_round
          case rel => exact ⟨k + 1, by omega, by go_num, okL_step hlt HOK.out HI.out⟩
          case measure => simp [intOf]; omega
        | false =>
          have HI := Lib.hid hi
          clear hi
          go_wp2_with (go_at_call 53; refine (belongs_no _ _ (by omega) (by omega) HI.out).mono ?_; rintro e w' ⟨rfl, rfl⟩)
          go_ret
          exact ⟨ret_int (vErr_bad (by omega) hlt HI.out), rfl⟩
      · go_wp2
        go_ret
        exact ⟨ret_int (vErr_ok (by omega) (okL_all (by omega) HOK.out)), rfl⟩

set_option maxHeartbeats 400000 in
theorem rvalid_any (s : ByteArray) (w : World) (hs : s.size ≤ maxLen) :
    Calls Tryd.prog 14 #[.string s] w fun e w' => e = .returned (.int .i64 (vErr s.data.toList)) ∧ w = w' := by
  unfold maxLen at hs
  by_cases h : 120 < s.size
  · rw [vErr_big h]
    go_enter Tryd.func14, Tryd.ntmps14
    go_wp2
    go_ret
    exact ⟨rfl, rfl⟩
  · go_enter Tryd.func14, Tryd.ntmps14
    go_wp2
    go_loop [3] (fun i => ∃ k : Nat, k ≤ s.size ∧ i = .int .i64 k ∧ okL (s.data.toList.take k) = true) (fun i => s.size - (intOf i).toNat)
    case atStart => exact ⟨0, Nat.zero_le _, rfl, rfl⟩
    case round =>
      obtain ⟨k, hk, rfl, hok⟩ := hrel
      have HOK := Lib.hid hok
      clear hok
      by_cases hlt : k < s.size
      · have hb : (s[k].toNat : Int) ≤ 255 := by have := s[k].toNat_lt; omega
        by_cases h32 : (32 : Int) ≤ (s[k].toNat : Int)
        · by_cases h126 : (s[k].toNat : Int) ≤ 126
          · have HI := Lib.hid (show inl (s[k].toNat : Int) = true by simp [inl]; omega)
            go_wp2
            go_round
            case rel => exact ⟨k + 1, by omega, by go_num, okL_step hlt HOK.out HI.out⟩
            case measure => simp [intOf]; omega
          · have HI := Lib.hid (show inl (s[k].toNat : Int) = false by simp [inl]; omega)
            go_wp2
            go_ret
            exact ⟨ret_int (vErr_bad (by omega) hlt HI.out), rfl⟩
        · have HI := Lib.hid (show inl (s[k].toNat : Int) = false by simp [inl]; omega)
          go_wp2
          go_ret
          exact ⟨ret_int (vErr_bad (by omega) hlt HI.out), rfl⟩
      · go_wp2
        go_ret
        exact ⟨ret_int (vErr_ok (by omega) (okL_all (by omega) HOK.out)), rfl⟩

set_option maxHeartbeats 400000 in
theorem letter_any (n : Int) (w : World) (h0 : 0 ≤ n) (h1 : n ≤ 255) :
    Calls Tryd.prog 39 #[.int .u8 n] w fun e w' => e = .returned (.bool (ltr n)) ∧ w = w' := by
  cases hi : inl n with
  | false =>
    rw [ltr_not hi]
    have HI := Lib.hid hi
    clear hi
    go_enter Tryd.func39, Tryd.ntmps39
    go_wp2_with (go_at_call 53; refine (belongs_no _ _ (by omega) (by omega) HI.out).mono ?_; rintro e w' ⟨rfl, rfl⟩)
    go_ret
    exact ⟨rfl, rfl⟩
  | true =>
    have HL := Lib.hid (ltr_of h0 h1 hi)
    have HI := Lib.hid hi
    clear hi
    go_enter Tryd.func39, Tryd.ntmps39
    go_wp2_with (first | (go_at_call 53; refine (belongs_yes _ _ (by omega) (by omega) HI.out).mono ?_; rintro e w' ⟨rfl, rfl⟩) | (go_at_call 54; refine (Tryd.strings_IndexByte _ _ _).mono ?_; rintro e w' ⟨rfl, rfl⟩))
    go_ret
    exact ⟨ret_bool HL.out, rfl⟩
end Go.Proofs.YtpmdfpfbnmoinaaDoor
