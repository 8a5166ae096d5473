/- Contracts of the smallest functions of both sides. -/
import Derived.Lib.Hide
import Derived.Test.YthcdbhancfpldaaUb
namespace Go.Proofs.Ythcdbhancfpldaa
open Go.RowKit
set_option linter.unusedVariables false
set_option linter.unusedSimpArgs false
set_option maxRecDepth 100000

set_option maxHeartbeats 1000000 in
theorem nucleus_any (x : Snd) (w : World) : Calls Try.prog 58 #[.agg #[.int .i64 x.k, .int .i64 x.q, .string (bs x.t)]] w fun e w' => e = .returned (.bool (nuc x)) ∧ Below w.heap.size w w' := by
  by_cases h1 : x.k = 1
  · have HP := Lib.hid (show nuc x = true by simp [nuc, h1])
    have e1 : (x.k == 1) = true := by simp [h1]
    clear h1
    go_enter Try.func58, Try.ntmps58
    go_wp2
    go_ret
    exact ⟨ret_bool HP.out.symm, bnew _ _⟩
  · have e1 : (x.k == 1) = false := by simpa using h1
    by_cases h2 : x.k = 2
    · have HP := Lib.hid (show nuc x = true by simp [nuc, h2])
      have e2 : (x.k == 2) = true := by simp [h2]
      clear h1 h2
      go_enter Try.func58, Try.ntmps58
      go_wp2
      go_ret
      exact ⟨ret_bool HP.out.symm, bnew _ _⟩
    · have HP := Lib.hid (show nuc x = false by simp [nuc, h1, h2])
      have e2 : (x.k == 2) = false := by simpa using h2
      clear h1 h2
      go_enter Try.func58, Try.ntmps58
      go_wp2
      go_ret
      exact ⟨ret_bool HP.out.symm, bnew _ _⟩
set_option maxHeartbeats 1000000 in
theorem rnucleus_any (x : Snd) (w : World) : Calls Try.prog 45 #[.agg #[.int .i64 x.k, .int .i64 x.q, .string (bs x.t)]] w fun e w' => e = .returned (.bool (nuc x)) ∧ Below w.heap.size w w' := by
  by_cases h1 : x.k = 1
  · have HP := Lib.hid (show nuc x = true by simp [nuc, h1])
    have e1 : (x.k == 1) = true := by simp [h1]
    clear h1
    go_enter Try.func45, Try.ntmps45
    go_wp2
    go_ret
    exact ⟨ret_bool HP.out.symm, bnew _ _⟩
  · have e1 : (x.k == 1) = false := by simpa using h1
    by_cases h2 : x.k = 2
    · have HP := Lib.hid (show nuc x = true by simp [nuc, h2])
      have e2 : (x.k == 2) = true := by simp [h2]
      clear h1 h2
      go_enter Try.func45, Try.ntmps45
      go_wp2
      go_ret
      exact ⟨ret_bool HP.out.symm, bnew _ _⟩
    · have HP := Lib.hid (show nuc x = false by simp [nuc, h1, h2])
      have e2 : (x.k == 2) = false := by simpa using h2
      clear h1 h2
      go_enter Try.func45, Try.ntmps45
      go_wp2
      go_ret
      exact ⟨ret_bool HP.out.symm, bnew _ _⟩
set_option maxHeartbeats 1000000 in
theorem hasq_any (x : Snd) (w : World) : Calls Try.prog 68 #[.agg #[.int .i64 x.k, .int .i64 x.q, .string (bs x.t)]] w fun e w' => e = .returned (.bool (qOk x.k x.q)) ∧ Below w.heap.size w w' := by
  by_cases h1 : x.k = 1
  · have e1 : (x.k == 1) = true := by simp [h1]
    by_cases h3 : 1 ≤ x.q
    · by_cases h4 : x.q ≤ 3
      · have HP := Lib.hid (show qOk x.k x.q = true by simp [qOk, h1, h3, h4])
        clear h1
        go_enter Try.func68, Try.ntmps68
        go_wp2
        go_ret
        exact ⟨ret_bool HP.out.symm, bnew _ _⟩
      · have HP := Lib.hid (show qOk x.k x.q = false by simp [qOk, h1, h3]; omega)
        clear h1
        go_enter Try.func68, Try.ntmps68
        go_wp2
        go_ret
        exact ⟨ret_bool HP.out.symm, bnew _ _⟩
    · have HP := Lib.hid (show qOk x.k x.q = false by simp [qOk, h1]; omega)
      clear h1
      go_enter Try.func68, Try.ntmps68
      go_wp2
      go_ret
      exact ⟨ret_bool HP.out.symm, bnew _ _⟩
  · have e1 : (x.k == 1) = false := by simpa using h1
    by_cases h2 : x.k = 2
    · have e2 : (x.k == 2) = true := by simp [h2]
      by_cases h3 : x.q = 2
      · have e3 : (x.q == 2) = true := by simp [h3]
        have HP := Lib.hid (show qOk x.k x.q = true by simp [qOk, h2, h3])
        clear h1 h2 h3
        go_enter Try.func68, Try.ntmps68
        go_wp2
        go_ret
        exact ⟨ret_bool HP.out.symm, bnew _ _⟩
      · have e3 : (x.q == 2) = false := by simpa using h3
        have HP := Lib.hid (show qOk x.k x.q = false by simp [qOk, h2, h3])
        clear h1 h2 h3
        go_enter Try.func68, Try.ntmps68
        go_wp2
        go_ret
        exact ⟨ret_bool HP.out.symm, bnew _ _⟩
    · have e2 : (x.k == 2) = false := by simpa using h2
      by_cases h3 : x.q = 0
      · have e3 : (x.q == 0) = true := by simp [h3]
        have HP := Lib.hid (show qOk x.k x.q = true by simp [qOk, h1, h2, h3])
        clear h1 h2 h3
        go_enter Try.func68, Try.ntmps68
        go_wp2
        go_ret
        exact ⟨ret_bool HP.out.symm, bnew _ _⟩
      · have e3 : (x.q == 0) = false := by simpa using h3
        have HP := Lib.hid (show qOk x.k x.q = false by simp [qOk, h1, h2, h3])
        clear h1 h2 h3
        go_enter Try.func68, Try.ntmps68
        go_wp2
        go_ret
        exact ⟨ret_bool HP.out.symm, bnew _ _⟩
theorem mk_cases {n : Int} (h0 : 0 ≤ n) (h1 : n ≤ 255) : n = 39 ∨ n = 94 ∨ n = 95 ∨ (97 ≤ n ∧ n ≤ 122) ∨ (48 ≤ n ∧ n ≤ 57) ∨ (n < 48 ∧ n ≠ 39) ∨ (57 < n ∧ n < 97 ∧ n ≠ 94 ∧ n ≠ 95) ∨ 122 < n := by omega
theorem mk_yes {n : Int} (h : (97 ≤ n ∧ n ≤ 122) ∨ (48 ≤ n ∧ n ≤ 57)) : mkI n = true := by
  unfold mkI
  rcases h with ⟨a, b⟩ | ⟨a, b⟩
  · rw [decide_eq_true a, decide_eq_true b]; rfl
  · rw [decide_eq_true a, decide_eq_true b]; simp
theorem mk_no {n : Int} (h : ¬ (97 ≤ n ∧ n ≤ 122)) (h2 : ¬ (48 ≤ n ∧ n ≤ 57)) (h3 : n ≠ 39) (h4 : n ≠ 94) (h5 : n ≠ 95) : mkI n = false := by
  unfold mkI
  rw [beq_no h3, beq_no h4, beq_no h5]
  simp; omega
set_option maxHeartbeats 1000000 in
theorem letter_any (n : Int) (w : World) (h0 : 0 ≤ n) (h1 : n ≤ 255) : Calls Try.prog 59 #[.int .u8 n] w fun e w' => e = .returned (.bool (mkI n)) ∧ w = w' := by
  rcases mk_cases h0 h1 with rfl | rfl | rfl | ⟨a, b⟩ | ⟨a, b⟩ | ⟨a, b⟩ | ⟨a, b, c, d⟩ | a
  · have HP := Lib.hid (show mkI 39 = true by decide)
    go_enter Try.func59, Try.ntmps59
    go_wp2
    go_ret
    exact ⟨ret_bool HP.out.symm, rfl⟩
  · have HP := Lib.hid (show mkI 94 = true by decide)
    go_enter Try.func59, Try.ntmps59
    go_wp2
    go_ret
    exact ⟨ret_bool HP.out.symm, rfl⟩
  · have HP := Lib.hid (show mkI 95 = true by decide)
    go_enter Try.func59, Try.ntmps59
    go_wp2
    go_ret
    exact ⟨ret_bool HP.out.symm, rfl⟩
  · have HP := Lib.hid (mk_yes (n := n) (.inl ⟨a, b⟩))
    go_enter Try.func59, Try.ntmps59
    go_wp2
    go_ret
    exact ⟨ret_bool HP.out.symm, rfl⟩
  · have HP := Lib.hid (mk_yes (n := n) (.inr ⟨a, b⟩))
    go_enter Try.func59, Try.ntmps59
    go_wp2
    go_ret
    exact ⟨ret_bool HP.out.symm, rfl⟩
  · have HP := Lib.hid (mk_no (n := n) (by omega) (by omega) (by omega) (by omega) (by omega))
    have e1 : (n == 39) = false := beq_no (by omega)
    have e2 : (n == 94) = false := beq_no (by omega)
    have e3 : (n == 95) = false := beq_no (by omega)
    clear b
    go_enter Try.func59, Try.ntmps59
    go_wp2
    go_ret
    exact ⟨ret_bool HP.out.symm, rfl⟩
  · have HP := Lib.hid (mk_no (n := n) (by omega) (by omega) (by omega) (by omega) (by omega))
    have e1 : (n == 39) = false := beq_no (by omega)
    have e2 : (n == 94) = false := beq_no (by omega)
    have e3 : (n == 95) = false := beq_no (by omega)
    clear c d
    go_enter Try.func59, Try.ntmps59
    go_wp2
    go_ret
    exact ⟨ret_bool (by rw [HP.out]; simp; omega), rfl⟩
  · have HP := Lib.hid (mk_no (n := n) (by omega) (by omega) (by omega) (by omega) (by omega))
    have e1 : (n == 39) = false := beq_no (by omega)
    have e2 : (n == 94) = false := beq_no (by omega)
    have e3 : (n == 95) = false := beq_no (by omega)
    go_enter Try.func59, Try.ntmps59
    go_wp2
    go_ret
    exact ⟨ret_bool (by rw [HP.out]; simp; omega), rfl⟩
theorem mk_bd (s : ByteArray) (k : Nat) (h : k < s.size) : (0 : Int) ≤ (s[k].toNat : Int) ∧ (s[k].toNat : Int) ≤ 255 := ⟨by omega, by have := s[k].toNat_lt; omega⟩
theorem all_step {s : ByteArray} {k : Nat} (hk : k < s.size) (h : (s.data.toList.take k).all isMk = true) (h1 : mkI (s[k].toNat : Int) = true) : (s.data.toList.take (k + 1)).all isMk = true := by
  rw [takeS hk, List.all_append, h]
  simpa [isMk] using h1
theorem all_not {s : ByteArray} {k : Nat} (hk : k < s.size) (h1 : mkI (s[k].toNat : Int) = false) : s.data.toList.all isMk = false := by
  rw [Bool.eq_false_iff]
  intro h
  have := List.all_eq_true.1 h s[k] (by rw [getB s k hk]; exact List.getElem_mem _)
  rw [show isMk s[k] = mkI (s[k].toNat : Int) from rfl, h1] at this; cases this
theorem sym_int {a b : Int} (h : a = b) : Ending.returned (.int .i64 b) = Ending.returned (.int .i64 a) := by rw [h]
theorem bs_empty {x : Snd} (h : x.t.length = 0) : ((bs x.t).toList == []) = true ∧ (bs x.t).toList.isEmpty = true := by
  have : x.t = [] := List.eq_nil_of_length_eq_zero h
  rw [ByteArray.toList_eq, bs_list, this]; exact ⟨rfl, rfl⟩
theorem bs_full {x : Snd} (h : ¬ x.t.length = 0) : ((bs x.t).toList == []) = false ∧ (bs x.t).toList.isEmpty = false := by
  rw [ByteArray.toList_eq, bs_list]
  cases e : x.t with
  | nil => rw [e] at h; exact absurd rfl h
  | cons c r => exact ⟨rfl, rfl⟩
end Go.Proofs.Ythcdbhancfpldaa
