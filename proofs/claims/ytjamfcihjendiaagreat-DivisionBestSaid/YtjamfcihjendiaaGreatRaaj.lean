/- Several texts in one: Ue. -/
import Derived.Test.YtjamfcihjendiaaGreatRaah
namespace Go.Proofs.YtjamfcihjendiaaGreat
open Go.RowKit
set_option linter.unusedVariables false
set_option linter.unusedSimpArgs false
set_option maxRecDepth 100000

theorem q_cases (x : Snd) : (x.k = 1 ∧ ((1 ≤ x.q ∧ x.q ≤ 3 ∧ qOk x.k x.q = true) ∨ (x.q < 1 ∧ qOk x.k x.q = false) ∨ (3 < x.q ∧ qOk x.k x.q = false))) ∨ (x.k ≠ 1 ∧ x.k = 2 ∧ ((x.q = 2 ∧ qOk x.k x.q = true) ∨ (x.q ≠ 2 ∧ qOk x.k x.q = false))) ∨ (x.k ≠ 1 ∧ x.k ≠ 2 ∧ ((x.q = 0 ∧ qOk x.k x.q = true) ∨ (x.q ≠ 0 ∧ qOk x.k x.q = false))) := by
  by_cases h1 : x.k = 1
  · refine .inl ⟨h1, ?_⟩
    by_cases h3 : 1 ≤ x.q
    · by_cases h4 : x.q ≤ 3
      · exact .inl ⟨h3, h4, by simp [qOk, h1, h3, h4]⟩
      · exact .inr (.inr ⟨by omega, by simp [qOk, h1]; omega⟩)
    · exact .inr (.inl ⟨by omega, by simp [qOk, h1]; omega⟩)
  · by_cases h2 : x.k = 2
    · refine .inr (.inl ⟨h1, h2, ?_⟩)
      by_cases h3 : x.q = 2
      · exact .inl ⟨h3, by simp [qOk, h2, h3]⟩
      · exact .inr ⟨h3, by simp [qOk, h2, h3]⟩
    · refine .inr (.inr ⟨h1, h2, ?_⟩)
      by_cases h3 : x.q = 0
      · exact .inl ⟨h3, by simp [qOk, h1, h2, h3]⟩
      · exact .inr ⟨h3, by simp [qOk, h1, h2, h3]⟩
set_option maxHeartbeats 4000000 in
theorem rvalid_loop (x : Snd) (w : World) (m : Nat) (hx : m ≤ 140737488355328) (hz : (bs x.t).size = m) (a : ¬ x.k < 1) (b : ¬ 9 < x.k) (h0 : ¬ m = 0) (h8 : ¬ 8 < m) (hv : vS x = 0) (hq : (x.k = 1 ∧ 1 ≤ x.q ∧ x.q ≤ 3) ∨ (x.k ≠ 1 ∧ x.k = 2 ∧ x.q = 2) ∨ (x.k ≠ 1 ∧ x.k ≠ 2 ∧ x.q = 0)) (hmk : (bs x.t).data.toList.all isMk = true) :
    Calls Tryz.prog 86 #[.agg #[.int .i64 x.k, .int .i64 x.q, .string (bs x.t)]] w fun e w' => e = .returned (.int .i64 (vS x)) ∧ Below w.heap.size w w' := by
  obtain ⟨s1, s2⟩ := bs_full (x := x) (by rw [← bs_size, hz]; exact h0)
  have HV := Lib.hid hv
  have HM := Lib.hid hmk
  obtain ⟨t, ht⟩ : ∃ t, t = bs x.t := ⟨_, rfl⟩
  rw [← ht] at hz s1 s2 HM ⊢
  have BX := Lib.hid (show (w.alloc (.cells #[.int .i64 x.k, .int .i64 x.q, .string t] 96)).cell? ⟨w.heap.size, 2, none⟩ = some (.string t) by rw [ht]; exact (box_cells w x).2.2)
  clear hv hmk ht
  rcases hq with ⟨h1, q1, q2⟩ | ⟨h1, h2, q1⟩ | ⟨h1, h2, q1⟩
  · have e1 : (x.k == 1) = true := by simp [h1]
    have e0 : (x.q == 0) = false := beq_no (by omega)
    clear h1
    go_enter Tryz.func86, Tryz.ntmps86
    go_wp2
    go_loopw [4] (fun i wr => ∃ k : Nat, k ≤ m ∧ i = .int .i64 k ∧ (t.data.toList.take k).all isMk = true ∧ w.alloc (.cells #[.int .i64 x.k, .int .i64 x.q, .string t] 96) = wr) (fun i _ => m - (intOf i).toNat)
    case atStart => exact ⟨0, Nat.zero_le _, rfl, rfl, rfl⟩
    case round =>
      obtain ⟨k, hk, rfl, hall, rfl⟩ := hrel
      have HA := Lib.hid hall
      have c2 := BX.out
      clear hall
      by_cases hlt : k < m
      · have hlt2 : k < t.size := by omega
        obtain ⟨hb0, hb1⟩ := mk_bd t k hlt2
        cases hm : mkI (t[k].toNat : Int) with
        | true =>
          have HM := Lib.hid hm
          have HN := Lib.hid (all_step hlt2 HA.out hm)
          clear hm
          go_wp2_with fail
          refine (letter_any _ _ hb0 hb1).mono ?_
          rintro e w' ⟨rfl, rfl⟩
          rw [HM.out]
          go_wp2_with fail
          go_roundw
          case rel => exact ⟨k + 1, by omega, by go_num, HN.out, trivial⟩
          case measure => simp [intOf]; omega
        | false =>
          exact absurd (all_not hlt2 hm) (by rw [HM.out]; simp)
      · go_wp2
        go_ret
        exact ⟨sym_int HV.out, bnew _ _⟩
  · have e1 : (x.k == 1) = false := beq_no h1
    have e2 : (x.k == 2) = true := by simp [h2]
    have e3 : (x.q == 2) = true := by simp [q1]
    have e0 : (x.q == 0) = false := beq_no (by omega)
    clear h1 h2 q1
    go_enter Tryz.func86, Tryz.ntmps86
    go_wp2
    go_loopw [4] (fun i wr => ∃ k : Nat, k ≤ m ∧ i = .int .i64 k ∧ (t.data.toList.take k).all isMk = true ∧ w.alloc (.cells #[.int .i64 x.k, .int .i64 x.q, .string t] 96) = wr) (fun i _ => m - (intOf i).toNat)
    case atStart => exact ⟨0, Nat.zero_le _, rfl, rfl, rfl⟩
    case round =>
      obtain ⟨k, hk, rfl, hall, rfl⟩ := hrel
      have HA := Lib.hid hall
      have c2 := BX.out
      clear hall
      by_cases hlt : k < m
      · have hlt2 : k < t.size := by omega
        obtain ⟨hb0, hb1⟩ := mk_bd t k hlt2
        cases hm : mkI (t[k].toNat : Int) with
        | true =>
          have HM := Lib.hid hm
          have HN := Lib.hid (all_step hlt2 HA.out hm)
          clear hm
          go_wp2_with fail
          refine (letter_any _ _ hb0 hb1).mono ?_
          rintro e w' ⟨rfl, rfl⟩
          rw [HM.out]
          go_wp2_with fail
          go_roundw
          case rel => exact ⟨k + 1, by omega, by go_num, HN.out, trivial⟩
          case measure => simp [intOf]; omega
        | false =>
          exact absurd (all_not hlt2 hm) (by rw [HM.out]; simp)
      · go_wp2
        go_ret
        exact ⟨sym_int HV.out, bnew _ _⟩
  · have e1 : (x.k == 1) = false := beq_no h1
    have e2 : (x.k == 2) = false := beq_no h2
    have e3 : (x.q == 0) = true := by simp [q1]
    clear h1 h2 q1
    go_enter Tryz.func86, Tryz.ntmps86
    go_wp2
    go_loopw [4] (fun i wr => ∃ k : Nat, k ≤ m ∧ i = .int .i64 k ∧ (t.data.toList.take k).all isMk = true ∧ w.alloc (.cells #[.int .i64 x.k, .int .i64 x.q, .string t] 96) = wr) (fun i _ => m - (intOf i).toNat)
    case atStart => exact ⟨0, Nat.zero_le _, rfl, rfl, rfl⟩
    case round =>
      obtain ⟨k, hk, rfl, hall, rfl⟩ := hrel
      have HA := Lib.hid hall
      have c2 := BX.out
      clear hall
      by_cases hlt : k < m
      · have hlt2 : k < t.size := by omega
        obtain ⟨hb0, hb1⟩ := mk_bd t k hlt2
        cases hm : mkI (t[k].toNat : Int) with
        | true =>
          have HM := Lib.hid hm
          have HN := Lib.hid (all_step hlt2 HA.out hm)
          clear hm
          go_wp2_with fail
          refine (letter_any _ _ hb0 hb1).mono ?_
          rintro e w' ⟨rfl, rfl⟩
          rw [HM.out]
          go_wp2_with fail
          go_roundw
          case rel => exact ⟨k + 1, by omega, by go_num, HN.out, trivial⟩
          case measure => simp [intOf]; omega
        | false =>
          exact absurd (all_not hlt2 hm) (by rw [HM.out]; simp)
      · go_wp2
        go_ret
        exact ⟨sym_int HV.out, bnew _ _⟩
set_option maxHeartbeats 4000000 in
theorem rvalid_loopF (x : Snd) (w : World) (m : Nat) (hx : m ≤ 140737488355328) (hz : (bs x.t).size = m) (a : ¬ x.k < 1) (b : ¬ 9 < x.k) (h0 : ¬ m = 0) (h8 : ¬ 8 < m) (hv : vS x = 2) (hq : (x.k = 1 ∧ 1 ≤ x.q ∧ x.q ≤ 3) ∨ (x.k ≠ 1 ∧ x.k = 2 ∧ x.q = 2) ∨ (x.k ≠ 1 ∧ x.k ≠ 2 ∧ x.q = 0)) (hmk : (bs x.t).data.toList.all isMk = false) :
    Calls Tryz.prog 86 #[.agg #[.int .i64 x.k, .int .i64 x.q, .string (bs x.t)]] w fun e w' => e = .returned (.int .i64 (vS x)) ∧ Below w.heap.size w w' := by
  obtain ⟨s1, s2⟩ := bs_full (x := x) (by rw [← bs_size, hz]; exact h0)
  have HV := Lib.hid hv
  have HM := Lib.hid hmk
  obtain ⟨t, ht⟩ : ∃ t, t = bs x.t := ⟨_, rfl⟩
  rw [← ht] at hz s1 s2 HM ⊢
  have BX := Lib.hid (show (w.alloc (.cells #[.int .i64 x.k, .int .i64 x.q, .string t] 96)).cell? ⟨w.heap.size, 2, none⟩ = some (.string t) by rw [ht]; exact (box_cells w x).2.2)
  clear hv hmk ht
  rcases hq with ⟨h1, q1, q2⟩ | ⟨h1, h2, q1⟩ | ⟨h1, h2, q1⟩
  · have e1 : (x.k == 1) = true := by simp [h1]
    have e0 : (x.q == 0) = false := beq_no (by omega)
    clear h1
    go_enter Tryz.func86, Tryz.ntmps86
    go_wp2
    go_loopw [4] (fun i wr => ∃ k : Nat, k ≤ m ∧ i = .int .i64 k ∧ (t.data.toList.take k).all isMk = true ∧ w.alloc (.cells #[.int .i64 x.k, .int .i64 x.q, .string t] 96) = wr) (fun i _ => m - (intOf i).toNat)
    case atStart => exact ⟨0, Nat.zero_le _, rfl, rfl, rfl⟩
    case round =>
      obtain ⟨k, hk, rfl, hall, rfl⟩ := hrel
      have HA := Lib.hid hall
      have c2 := BX.out
      clear hall
      by_cases hlt : k < m
      · have hlt2 : k < t.size := by omega
        obtain ⟨hb0, hb1⟩ := mk_bd t k hlt2
        cases hm : mkI (t[k].toNat : Int) with
        | true =>
          have HM := Lib.hid hm
          have HN := Lib.hid (all_step hlt2 HA.out hm)
          clear hm
          go_wp2_with fail
          refine (letter_any _ _ hb0 hb1).mono ?_
          rintro e w' ⟨rfl, rfl⟩
          rw [HM.out]
          go_wp2_with fail
          go_roundw
          case rel => exact ⟨k + 1, by omega, by go_num, HN.out, trivial⟩
          case measure => simp [intOf]; omega
        | false =>
          have HM2 := Lib.hid hm
          clear hm
          go_wp2_with fail
          refine (letter_any _ _ hb0 hb1).mono ?_
          rintro e w' ⟨rfl, rfl⟩
          rw [HM2.out]
          go_wp2_with fail
          go_ret
          exact ⟨sym_int HV.out, bnew _ _⟩
      · exact absurd HM.out (by have := HA.out; rw [takeAll (by omega)] at this; rw [this]; simp)
  · have e1 : (x.k == 1) = false := beq_no h1
    have e2 : (x.k == 2) = true := by simp [h2]
    have e3 : (x.q == 2) = true := by simp [q1]
    have e0 : (x.q == 0) = false := beq_no (by omega)
    clear h1 h2 q1
    go_enter Tryz.func86, Tryz.ntmps86
    go_wp2
    go_loopw [4] (fun i wr => ∃ k : Nat, k ≤ m ∧ i = .int .i64 k ∧ (t.data.toList.take k).all isMk = true ∧ w.alloc (.cells #[.int .i64 x.k, .int .i64 x.q, .string t] 96) = wr) (fun i _ => m - (intOf i).toNat)
    case atStart => exact ⟨0, Nat.zero_le _, rfl, rfl, rfl⟩
    case round =>
      obtain ⟨k, hk, rfl, hall, rfl⟩ := hrel
      have HA := Lib.hid hall
      have c2 := BX.out
      clear hall
      by_cases hlt : k < m
      · have hlt2 : k < t.size := by omega
        obtain ⟨hb0, hb1⟩ := mk_bd t k hlt2
        cases hm : mkI (t[k].toNat : Int) with
        | true =>
          have HM := Lib.hid hm
          have HN := Lib.hid (all_step hlt2 HA.out hm)
          clear hm
          go_wp2_with fail
          refine (letter_any _ _ hb0 hb1).mono ?_
          rintro e w' ⟨rfl, rfl⟩
          rw [HM.out]
          go_wp2_with fail
          go_roundw
          case rel => exact ⟨k + 1, by omega, by go_num, HN.out, trivial⟩
          case measure => simp [intOf]; omega
        | false =>
          have HM2 := Lib.hid hm
          clear hm
          go_wp2_with fail
          refine (letter_any _ _ hb0 hb1).mono ?_
          rintro e w' ⟨rfl, rfl⟩
          rw [HM2.out]
          go_wp2_with fail
          go_ret
          exact ⟨sym_int HV.out, bnew _ _⟩
      · exact absurd HM.out (by have := HA.out; rw [takeAll (by omega)] at this; rw [this]; simp)
  · have e1 : (x.k == 1) = false := beq_no h1
    have e2 : (x.k == 2) = false := beq_no h2
    have e3 : (x.q == 0) = true := by simp [q1]
    clear h1 h2 q1
    go_enter Tryz.func86, Tryz.ntmps86
    go_wp2
    go_loopw [4] (fun i wr => ∃ k : Nat, k ≤ m ∧ i = .int .i64 k ∧ (t.data.toList.take k).all isMk = true ∧ w.alloc (.cells #[.int .i64 x.k, .int .i64 x.q, .string t] 96) = wr) (fun i _ => m - (intOf i).toNat)
    case atStart => exact ⟨0, Nat.zero_le _, rfl, rfl, rfl⟩
    case round =>
      obtain ⟨k, hk, rfl, hall, rfl⟩ := hrel
      have HA := Lib.hid hall
      have c2 := BX.out
      clear hall
      by_cases hlt : k < m
      · have hlt2 : k < t.size := by omega
        obtain ⟨hb0, hb1⟩ := mk_bd t k hlt2
        cases hm : mkI (t[k].toNat : Int) with
        | true =>
          have HM := Lib.hid hm
          have HN := Lib.hid (all_step hlt2 HA.out hm)
          clear hm
          go_wp2_with fail
          refine (letter_any _ _ hb0 hb1).mono ?_
          rintro e w' ⟨rfl, rfl⟩
          rw [HM.out]
          go_wp2_with fail
          go_roundw
          case rel => exact ⟨k + 1, by omega, by go_num, HN.out, trivial⟩
          case measure => simp [intOf]; omega
        | false =>
          have HM2 := Lib.hid hm
          clear hm
          go_wp2_with fail
          refine (letter_any _ _ hb0 hb1).mono ?_
          rintro e w' ⟨rfl, rfl⟩
          rw [HM2.out]
          go_wp2_with fail
          go_ret
          exact ⟨sym_int HV.out, bnew _ _⟩
      · exact absurd HM.out (by have := HA.out; rw [takeAll (by omega)] at this; rw [this]; simp)
set_option maxHeartbeats 4000000 in
theorem rvalid_any (x : Snd) (w : World) (hx : x.t.length ≤ 140737488355328) : Calls Tryz.prog 86 #[.agg #[.int .i64 x.k, .int .i64 x.q, .string (bs x.t)]] w fun e w' => e = .returned (.int .i64 (vS x)) ∧ Below w.heap.size w w' := by
  have hz : (bs x.t).size = x.t.length := rfl
  obtain ⟨m, hm⟩ : ∃ m, x.t.length = m := ⟨_, rfl⟩
  rw [hm] at hz hx
  have BX := Lib.hid (box_cells w x)
  by_cases a : x.k < 1
  · have HV := Lib.hid (vS_inv (x := x) (.inl a))
    clear hm
    go_enter Tryz.func86, Tryz.ntmps86
    go_wp2
    go_ret
    exact ⟨sym_int HV.out, bnew _ _⟩
  · by_cases b : 9 < x.k
    · have HV := Lib.hid (vS_inv (x := x) (.inr b))
      clear hm
      go_enter Tryz.func86, Tryz.ntmps86
      go_wp2
      go_ret
      exact ⟨sym_int HV.out, bnew _ _⟩
    · have hk : ¬ (x.k < 1 ∨ 9 < x.k) := by omega
      by_cases h0 : m = 0
      · obtain ⟨s1, s2⟩ := bs_empty (x := x) (by omega)
        rcases q_cases x with ⟨h1, ⟨q1, q2, hq⟩ | ⟨q1, hq⟩ | ⟨q1, hq⟩⟩ | ⟨h1, h2, ⟨q1, hq⟩ | ⟨q1, hq⟩⟩ | ⟨h1, h2, ⟨q1, hq⟩ | ⟨q1, hq⟩⟩
        · have e1 : (x.k == 1) = true := by simp [h1]
          have e0 : (x.q == 0) = false := beq_no (by omega)
          have HV := Lib.hid (vS_empty hk hq (by omega))
          clear hk hq hm h1
          go_enter Tryz.func86, Tryz.ntmps86
          go_wp2
          go_ret
          exact ⟨sym_int HV.out, bnew _ _⟩
        · have e1 : (x.k == 1) = true := by simp [h1]
          have HV := Lib.hid (vS_range hk hq)
          clear hk hq hm h1
          cases e0 : (x.q == 0)
          all_goals
            go_enter Tryz.func86, Tryz.ntmps86
            go_wp2
            go_ret
            exact ⟨sym_int HV.out, bnew _ _⟩
        · have e1 : (x.k == 1) = true := by simp [h1]
          have e0 : (x.q == 0) = false := beq_no (by omega)
          have e4 : decide (x.q ≤ 3) = false := decide_eq_false (by omega)
          have HV := Lib.hid (vS_range hk hq)
          clear hk hq hm h1
          go_enter Tryz.func86, Tryz.ntmps86
          go_wp2
          go_ret
          exact ⟨sym_int HV.out, bnew _ _⟩
        · have e1 : (x.k == 1) = false := beq_no h1
          have e2 : (x.k == 2) = true := by simp [h2]
          have e3 : (x.q == 2) = true := by simp [q1]
          have e0 : (x.q == 0) = false := beq_no (by omega)
          have HV := Lib.hid (vS_empty hk hq (by omega))
          clear hk hq hm h1 h2 q1
          go_enter Tryz.func86, Tryz.ntmps86
          go_wp2
          go_ret
          exact ⟨sym_int HV.out, bnew _ _⟩
        · have e1 : (x.k == 1) = false := beq_no h1
          have e2 : (x.k == 2) = true := by simp [h2]
          have e3 : (x.q == 2) = false := beq_no q1
          have HV := Lib.hid (vS_range hk hq)
          clear hk hq hm h1 h2 q1
          cases e0 : (x.q == 0)
          all_goals
            go_enter Tryz.func86, Tryz.ntmps86
            go_wp2
            go_ret
            exact ⟨sym_int HV.out, bnew _ _⟩
        · have e1 : (x.k == 1) = false := beq_no h1
          have e2 : (x.k == 2) = false := beq_no h2
          have e3 : (x.q == 0) = true := by simp [q1]
          have HV := Lib.hid (vS_empty hk hq (by omega))
          clear hk hq hm h1 h2 q1
          go_enter Tryz.func86, Tryz.ntmps86
          go_wp2
          go_ret
          exact ⟨sym_int HV.out, bnew _ _⟩
        · have e1 : (x.k == 1) = false := beq_no h1
          have e2 : (x.k == 2) = false := beq_no h2
          have e3 : (x.q == 0) = false := beq_no q1
          have HV := Lib.hid (vS_range hk hq)
          clear hk hq hm h1 h2 q1
          go_enter Tryz.func86, Tryz.ntmps86
          go_wp2
          go_ret
          exact ⟨sym_int HV.out, bnew _ _⟩
      · obtain ⟨s1, s2⟩ := bs_full (x := x) (by omega)
        by_cases h8 : 8 < m
        · rcases q_cases x with ⟨h1, ⟨q1, q2, hq⟩ | ⟨q1, hq⟩ | ⟨q1, hq⟩⟩ | ⟨h1, h2, ⟨q1, hq⟩ | ⟨q1, hq⟩⟩ | ⟨h1, h2, ⟨q1, hq⟩ | ⟨q1, hq⟩⟩
          · have e1 : (x.k == 1) = true := by simp [h1]
            have e0 : (x.q == 0) = false := beq_no (by omega)
            have HV := Lib.hid (vS_large hk hq (by omega))
            clear hk hq hm h1
            go_enter Tryz.func86, Tryz.ntmps86
            go_wp2
            go_ret
            exact ⟨sym_int HV.out, bnew _ _⟩
          · have e1 : (x.k == 1) = true := by simp [h1]
            have HV := Lib.hid (vS_range hk hq)
            clear hk hq hm h1
            cases e0 : (x.q == 0)
            all_goals
              go_enter Tryz.func86, Tryz.ntmps86
              go_wp2
              go_ret
              exact ⟨sym_int HV.out, bnew _ _⟩
          · have e1 : (x.k == 1) = true := by simp [h1]
            have e0 : (x.q == 0) = false := beq_no (by omega)
            have e4 : decide (x.q ≤ 3) = false := decide_eq_false (by omega)
            have HV := Lib.hid (vS_range hk hq)
            clear hk hq hm h1
            go_enter Tryz.func86, Tryz.ntmps86
            go_wp2
            go_ret
            exact ⟨sym_int HV.out, bnew _ _⟩
          · have e1 : (x.k == 1) = false := beq_no h1
            have e2 : (x.k == 2) = true := by simp [h2]
            have e3 : (x.q == 2) = true := by simp [q1]
            have e0 : (x.q == 0) = false := beq_no (by omega)
            have HV := Lib.hid (vS_large hk hq (by omega))
            clear hk hq hm h1 h2 q1
            go_enter Tryz.func86, Tryz.ntmps86
            go_wp2
            go_ret
            exact ⟨sym_int HV.out, bnew _ _⟩
          · have e1 : (x.k == 1) = false := beq_no h1
            have e2 : (x.k == 2) = true := by simp [h2]
            have e3 : (x.q == 2) = false := beq_no q1
            have HV := Lib.hid (vS_range hk hq)
            clear hk hq hm h1 h2 q1
            cases e0 : (x.q == 0)
            all_goals
              go_enter Tryz.func86, Tryz.ntmps86
              go_wp2
              go_ret
              exact ⟨sym_int HV.out, bnew _ _⟩
          · have e1 : (x.k == 1) = false := beq_no h1
            have e2 : (x.k == 2) = false := beq_no h2
            have e3 : (x.q == 0) = true := by simp [q1]
            have HV := Lib.hid (vS_large hk hq (by omega))
            clear hk hq hm h1 h2 q1
            go_enter Tryz.func86, Tryz.ntmps86
            go_wp2
            go_ret
            exact ⟨sym_int HV.out, bnew _ _⟩
          · have e1 : (x.k == 1) = false := beq_no h1
            have e2 : (x.k == 2) = false := beq_no h2
            have e3 : (x.q == 0) = false := beq_no q1
            have HV := Lib.hid (vS_range hk hq)
            clear hk hq hm h1 h2 q1
            go_enter Tryz.func86, Tryz.ntmps86
            go_wp2
            go_ret
            exact ⟨sym_int HV.out, bnew _ _⟩
        · rcases q_cases x with ⟨h1, ⟨q1, q2, hq⟩ | ⟨q1, hq⟩ | ⟨q1, hq⟩⟩ | ⟨h1, h2, ⟨q1, hq⟩ | ⟨q1, hq⟩⟩ | ⟨h1, h2, ⟨q1, hq⟩ | ⟨q1, hq⟩⟩
          · cases hmk : (bs x.t).data.toList.all isMk with
            | true =>
              have HV := Lib.hid (vS_ok hk hq (by omega) (by omega) hmk)
              exact rvalid_loop x w m hx hz a b h0 h8 HV.out (show _ by first | exact .inl ⟨h1, q1, q2⟩ | exact .inr (.inl ⟨h1, h2, q1⟩) | exact .inr (.inr ⟨h1, h2, q1⟩)) hmk
            | false =>
              have HV := Lib.hid (vS_syn hk hq (by omega) (by omega) hmk)
              exact rvalid_loopF x w m hx hz a b h0 h8 HV.out (show _ by first | exact .inl ⟨h1, q1, q2⟩ | exact .inr (.inl ⟨h1, h2, q1⟩) | exact .inr (.inr ⟨h1, h2, q1⟩)) hmk
          · have e1 : (x.k == 1) = true := by simp [h1]
            have HV := Lib.hid (vS_range hk hq)
            clear hk hq hm h1
            cases e0 : (x.q == 0)
            all_goals
              go_enter Tryz.func86, Tryz.ntmps86
              go_wp2
              go_ret
              exact ⟨sym_int HV.out, bnew _ _⟩
          · have e1 : (x.k == 1) = true := by simp [h1]
            have e0 : (x.q == 0) = false := beq_no (by omega)
            have e4 : decide (x.q ≤ 3) = false := decide_eq_false (by omega)
            have HV := Lib.hid (vS_range hk hq)
            clear hk hq hm h1
            go_enter Tryz.func86, Tryz.ntmps86
            go_wp2
            go_ret
            exact ⟨sym_int HV.out, bnew _ _⟩
          · cases hmk : (bs x.t).data.toList.all isMk with
            | true =>
              have HV := Lib.hid (vS_ok hk hq (by omega) (by omega) hmk)
              exact rvalid_loop x w m hx hz a b h0 h8 HV.out (show _ by first | exact .inl ⟨h1, q1, q2⟩ | exact .inr (.inl ⟨h1, h2, q1⟩) | exact .inr (.inr ⟨h1, h2, q1⟩)) hmk
            | false =>
              have HV := Lib.hid (vS_syn hk hq (by omega) (by omega) hmk)
              exact rvalid_loopF x w m hx hz a b h0 h8 HV.out (show _ by first | exact .inl ⟨h1, q1, q2⟩ | exact .inr (.inl ⟨h1, h2, q1⟩) | exact .inr (.inr ⟨h1, h2, q1⟩)) hmk
          · have e1 : (x.k == 1) = false := beq_no h1
            have e2 : (x.k == 2) = true := by simp [h2]
            have e3 : (x.q == 2) = false := beq_no q1
            have HV := Lib.hid (vS_range hk hq)
            clear hk hq hm h1 h2 q1
            cases e0 : (x.q == 0)
            all_goals
              go_enter Tryz.func86, Tryz.ntmps86
              go_wp2
              go_ret
              exact ⟨sym_int HV.out, bnew _ _⟩
          · cases hmk : (bs x.t).data.toList.all isMk with
            | true =>
              have HV := Lib.hid (vS_ok hk hq (by omega) (by omega) hmk)
              exact rvalid_loop x w m hx hz a b h0 h8 HV.out (show _ by first | exact .inl ⟨h1, q1, q2⟩ | exact .inr (.inl ⟨h1, h2, q1⟩) | exact .inr (.inr ⟨h1, h2, q1⟩)) hmk
            | false =>
              have HV := Lib.hid (vS_syn hk hq (by omega) (by omega) hmk)
              exact rvalid_loopF x w m hx hz a b h0 h8 HV.out (show _ by first | exact .inl ⟨h1, q1, q2⟩ | exact .inr (.inl ⟨h1, h2, q1⟩) | exact .inr (.inr ⟨h1, h2, q1⟩)) hmk
          · have e1 : (x.k == 1) = false := beq_no h1
            have e2 : (x.k == 2) = false := beq_no h2
            have e3 : (x.q == 0) = false := beq_no q1
            have HV := Lib.hid (vS_range hk hq)
            clear hk hq hm h1 h2 q1
            go_enter Tryz.func86, Tryz.ntmps86
            go_wp2
            go_ret
            exact ⟨sym_int HV.out, bnew _ _⟩
end Go.Proofs.YtjamfcihjendiaaGreat
