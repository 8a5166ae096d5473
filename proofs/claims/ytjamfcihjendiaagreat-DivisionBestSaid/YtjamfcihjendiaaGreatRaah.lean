/- Several texts in one: Uc, Ud, Oe. -/
import Derived.Lib.Hide
import Derived.Test.YtjamfcihjendiaaGreatRaag
import Derived.Test.YtjamfcihjendiaaGreatRaab
namespace Go.Proofs.YtjamfcihjendiaaGreat
open Go.RowKit
set_option linter.unusedVariables false
set_option linter.unusedSimpArgs false
set_option maxRecDepth 100000

set_option maxHeartbeats 1000000 in
theorem nucleus_any (x : Snd) (w : World) : Calls Tryz.prog 77 #[.agg #[.int .i64 x.k, .int .i64 x.q, .string (bs x.t)]] w fun e w' => e = .returned (.bool (nuc x)) ∧ Below w.heap.size w w' := by
  by_cases h1 : x.k = 1
  · have HP := Lib.hid (show nuc x = true by simp [nuc, h1])
    have e1 : (x.k == 1) = true := by simp [h1]
    clear h1
    go_enter Tryz.func77, Tryz.ntmps77
    go_wp2
    go_ret
    exact ⟨ret_bool HP.out.symm, bnew _ _⟩
  · have e1 : (x.k == 1) = false := by simpa using h1
    by_cases h2 : x.k = 2
    · have HP := Lib.hid (show nuc x = true by simp [nuc, h2])
      have e2 : (x.k == 2) = true := by simp [h2]
      clear h1 h2
      go_enter Tryz.func77, Tryz.ntmps77
      go_wp2
      go_ret
      exact ⟨ret_bool HP.out.symm, bnew _ _⟩
    · have HP := Lib.hid (show nuc x = false by simp [nuc, h1, h2])
      have e2 : (x.k == 2) = false := by simpa using h2
      clear h1 h2
      go_enter Tryz.func77, Tryz.ntmps77
      go_wp2
      go_ret
      exact ⟨ret_bool HP.out.symm, bnew _ _⟩
set_option maxHeartbeats 1000000 in
theorem rnucleus_any (x : Snd) (w : World) : Calls Tryz.prog 80 #[.agg #[.int .i64 x.k, .int .i64 x.q, .string (bs x.t)]] w fun e w' => e = .returned (.bool (nuc x)) ∧ Below w.heap.size w w' := by
  by_cases h1 : x.k = 1
  · have HP := Lib.hid (show nuc x = true by simp [nuc, h1])
    have e1 : (x.k == 1) = true := by simp [h1]
    clear h1
    go_enter Tryz.func80, Tryz.ntmps80
    go_wp2
    go_ret
    exact ⟨ret_bool HP.out.symm, bnew _ _⟩
  · have e1 : (x.k == 1) = false := by simpa using h1
    by_cases h2 : x.k = 2
    · have HP := Lib.hid (show nuc x = true by simp [nuc, h2])
      have e2 : (x.k == 2) = true := by simp [h2]
      clear h1 h2
      go_enter Tryz.func80, Tryz.ntmps80
      go_wp2
      go_ret
      exact ⟨ret_bool HP.out.symm, bnew _ _⟩
    · have HP := Lib.hid (show nuc x = false by simp [nuc, h1, h2])
      have e2 : (x.k == 2) = false := by simpa using h2
      clear h1 h2
      go_enter Tryz.func80, Tryz.ntmps80
      go_wp2
      go_ret
      exact ⟨ret_bool HP.out.symm, bnew _ _⟩
set_option maxHeartbeats 1000000 in
theorem hasq_any (x : Snd) (w : World) : Calls Tryz.prog 114 #[.agg #[.int .i64 x.k, .int .i64 x.q, .string (bs x.t)]] w fun e w' => e = .returned (.bool (qOk x.k x.q)) ∧ Below w.heap.size w w' := by
  by_cases h1 : x.k = 1
  · have e1 : (x.k == 1) = true := by simp [h1]
    by_cases h3 : 1 ≤ x.q
    · by_cases h4 : x.q ≤ 3
      · have HP := Lib.hid (show qOk x.k x.q = true by simp [qOk, h1, h3, h4])
        clear h1
        go_enter Tryz.func114, Tryz.ntmps114
        go_wp2
        go_ret
        exact ⟨ret_bool HP.out.symm, bnew _ _⟩
      · have HP := Lib.hid (show qOk x.k x.q = false by simp [qOk, h1, h3]; omega)
        clear h1
        go_enter Tryz.func114, Tryz.ntmps114
        go_wp2
        go_ret
        exact ⟨ret_bool HP.out.symm, bnew _ _⟩
    · have HP := Lib.hid (show qOk x.k x.q = false by simp [qOk, h1]; omega)
      clear h1
      go_enter Tryz.func114, Tryz.ntmps114
      go_wp2
      go_ret
      exact ⟨ret_bool HP.out.symm, bnew _ _⟩
  · have e1 : (x.k == 1) = false := by simpa using h1
    by_cases h2 : x.k = 2
    · have e2 : (x.k == 2) = true := by simp [h2]
      by_cases h3 : x.q = 2
      · have e3 : (x.q == 2) = true := by simp [h3]
        have HP := Lib.hid (show qOk x.k x.q = true by simp [qOk, h2, h3])
        clear h1 h2 h3
        go_enter Tryz.func114, Tryz.ntmps114
        go_wp2
        go_ret
        exact ⟨ret_bool HP.out.symm, bnew _ _⟩
      · have e3 : (x.q == 2) = false := by simpa using h3
        have HP := Lib.hid (show qOk x.k x.q = false by simp [qOk, h2, h3])
        clear h1 h2 h3
        go_enter Tryz.func114, Tryz.ntmps114
        go_wp2
        go_ret
        exact ⟨ret_bool HP.out.symm, bnew _ _⟩
    · have e2 : (x.k == 2) = false := by simpa using h2
      by_cases h3 : x.q = 0
      · have e3 : (x.q == 0) = true := by simp [h3]
        have HP := Lib.hid (show qOk x.k x.q = true by simp [qOk, h1, h2, h3])
        clear h1 h2 h3
        go_enter Tryz.func114, Tryz.ntmps114
        go_wp2
        go_ret
        exact ⟨ret_bool HP.out.symm, bnew _ _⟩
      · have e3 : (x.q == 0) = false := by simpa using h3
        have HP := Lib.hid (show qOk x.k x.q = false by simp [qOk, h1, h2, h3])
        clear h1 h2 h3
        go_enter Tryz.func114, Tryz.ntmps114
        go_wp2
        go_ret
        exact ⟨ret_bool HP.out.symm, bnew _ _⟩
theorem mk_cases {n : Int} (h0 : 0 ≤ n) (h1 : n ≤ 255) : n = 39 ∨ n = 94 ∨ n = 95 ∨ (97 ≤ n ∧ n ≤ 122) ∨ (48 ≤ n ∧ n ≤ 57) ∨ (n < 48 ∧ n ≠ 39) ∨ (57 < n ∧ n < 97 ∧ n ≠ 94 ∧ n ≠ 95) ∨ 122 < n := by omega
theorem mk_yes {n : Int} (h : (97 ≤ n ∧ n ≤ 122) ∨ (48 ≤ n ∧ n ≤ 57)) : mkI n = true := by
  unfold mkI
  rcases h with ⟨a, b⟩ | ⟨a, b⟩
  · rw [decide_eq_true a, decide_eq_true b]; rfl
  · rw [decide_eq_true a, decide_eq_true b]; simp
theorem mk_no {n : Int} (h : ¬ (97 ≤ n ∧ n ≤ 122)) (h2 : ¬ (48 ≤ n ∧ n ≤ 57)) (h3 : n ≠ 39) (h4 : n ≠ 94) (h5 : n ≠ 95) : mkI n = false := by
  unfold mkI
  rw [beq_no h3, beq_no h4, beq_no h5]
  simp; omega
set_option maxHeartbeats 1000000 in
theorem letter_any (n : Int) (w : World) (h0 : 0 ≤ n) (h1 : n ≤ 255) : Calls Tryz.prog 99 #[.int .u8 n] w fun e w' => e = .returned (.bool (mkI n)) ∧ w = w' := by
  rcases mk_cases h0 h1 with rfl | rfl | rfl | ⟨a, b⟩ | ⟨a, b⟩ | ⟨a, b⟩ | ⟨a, b, c, d⟩ | a
  · have HP := Lib.hid (show mkI 39 = true by decide)
    go_enter Tryz.func99, Tryz.ntmps99
    go_wp2
    go_ret
    exact ⟨ret_bool HP.out.symm, rfl⟩
  · have HP := Lib.hid (show mkI 94 = true by decide)
    go_enter Tryz.func99, Tryz.ntmps99
    go_wp2
    go_ret
    exact ⟨ret_bool HP.out.symm, rfl⟩
  · have HP := Lib.hid (show mkI 95 = true by decide)
    go_enter Tryz.func99, Tryz.ntmps99
    go_wp2
    go_ret
    exact ⟨ret_bool HP.out.symm, rfl⟩
  · have HP := Lib.hid (mk_yes (n := n) (.inl ⟨a, b⟩))
    go_enter Tryz.func99, Tryz.ntmps99
    go_wp2
    go_ret
    exact ⟨ret_bool HP.out.symm, rfl⟩
  · have HP := Lib.hid (mk_yes (n := n) (.inr ⟨a, b⟩))
    go_enter Tryz.func99, Tryz.ntmps99
    go_wp2
    go_ret
    exact ⟨ret_bool HP.out.symm, rfl⟩
  · have HP := Lib.hid (mk_no (n := n) (by omega) (by omega) (by omega) (by omega) (by omega))
    have e1 : (n == 39) = false := beq_no (by omega)
    have e2 : (n == 94) = false := beq_no (by omega)
    have e3 : (n == 95) = false := beq_no (by omega)
    clear b
    go_enter Tryz.func99, Tryz.ntmps99
    go_wp2
    go_ret
    exact ⟨ret_bool HP.out.symm, rfl⟩
  · have HP := Lib.hid (mk_no (n := n) (by omega) (by omega) (by omega) (by omega) (by omega))
    have e1 : (n == 39) = false := beq_no (by omega)
    have e2 : (n == 94) = false := beq_no (by omega)
    have e3 : (n == 95) = false := beq_no (by omega)
    clear c d
    go_enter Tryz.func99, Tryz.ntmps99
    go_wp2
    go_ret
    exact ⟨ret_bool (by rw [HP.out]; simp; omega), rfl⟩
  · have HP := Lib.hid (mk_no (n := n) (by omega) (by omega) (by omega) (by omega) (by omega))
    have e1 : (n == 39) = false := beq_no (by omega)
    have e2 : (n == 94) = false := beq_no (by omega)
    have e3 : (n == 95) = false := beq_no (by omega)
    go_enter Tryz.func99, Tryz.ntmps99
    go_wp2
    go_ret
    exact ⟨ret_bool (by rw [HP.out]; simp; omega), rfl⟩
theorem mk_bd (s : ByteArray) (k : Nat) (h : k < s.size) : (0 : Int) ≤ (s[k].toNat : Int) ∧ (s[k].toNat : Int) ≤ 255 := ⟨by omega, by have := s[k].toNat_lt; omega⟩
theorem all_step {s : ByteArray} {k : Nat} (hk : k < s.size) (h : (s.data.toList.take k).all isMk = true) (h1 : mkI (s[k].toNat : Int) = true) : (s.data.toList.take (k + 1)).all isMk = true := by
  rw [takeS hk, List.all_append, h]
  simpa [isMk] using h1
theorem all_not {s : ByteArray} {k : Nat} (hk : k < s.size) (h1 : mkI (s[k].toNat : Int) = false) : s.data.toList.all isMk = false := by
  rw [Bool.eq_false_iff]
  intro h
  have := List.all_eq_true.1 h s[k] (by rw [getB s k hk]; exact List.getElem_mem _)
  rw [show isMk s[k] = mkI (s[k].toNat : Int) from rfl, h1] at this; cases this
theorem sym_int {a b : Int} (h : a = b) : Ending.returned (.int .i64 b) = Ending.returned (.int .i64 a) := by rw [h]
theorem bs_empty {x : Snd} (h : x.t.length = 0) : ((bs x.t).toList == []) = true ∧ (bs x.t).toList.isEmpty = true := by
  have : x.t = [] := List.eq_nil_of_length_eq_zero h
  rw [ByteArray.toList_eq, bs_list, this]; exact ⟨rfl, rfl⟩
theorem bs_full {x : Snd} (h : ¬ x.t.length = 0) : ((bs x.t).toList == []) = false ∧ (bs x.t).toList.isEmpty = false := by
  rw [ByteArray.toList_eq, bs_list]
  cases e : x.t with
  | nil => rw [e] at h; exact absurd rfl h
  | cons c r => exact ⟨rfl, rfl⟩
end Go.Proofs.YtjamfcihjendiaaGreat

namespace Go.Proofs.YtjamfcihjendiaaGreat
open Go.RowKit
set_option linter.unusedVariables false
set_option linter.unusedSimpArgs false
set_option maxRecDepth 100000

theorem idx_none {l : List UInt8} {c : UInt8} (h : c ∉ l) : Lib.indexByte l c = -1 := by
  induction l with
  | nil => rfl
  | cons b l ih =>
    have h1 : b ≠ c := fun e => h (by simp [e])
    have h2 := ih (fun hm => h (List.mem_cons_of_mem _ hm))
    unfold Lib.indexByte
    simp [h1, h2]
theorem idxb_any (s : ByteArray) (c : Int) (w : World) : Calls Tryz.prog 117 #[.string s, .int .u8 c] w fun e w' => e = .returned (.int .i64 (Lib.indexByte s.data.toList c.toNat.toUInt8)) ∧ w = w' :=
  (Tryz.strings_IndexByte s c w).mono fun _ _ ⟨a, b⟩ => ⟨a, b.symm⟩
theorem acc_no {n : Int} (h0 : 0 ≤ n) (h1 : n ≤ 255) (h3 : n ≠ 39) (h4 : n ≠ 94) (h5 : n ≠ 95) : Lib.indexByte (⟨#[95, 94, 39]⟩ : ByteArray).data.toList n.toNat.toUInt8 = -1 := by
  obtain ⟨m, rfl⟩ := Int.eq_ofNat_of_zero_le h0
  refine idx_none fun h => ?_
  have e : ∀ k : Nat, k < 256 → m.toUInt8 = k.toUInt8 → m = k := fun k hk e => by
    have := congrArg UInt8.toNat e
    simp at this
    omega
  have h : m.toUInt8 ∈ [(95 : Nat).toUInt8, (94 : Nat).toUInt8, (39 : Nat).toUInt8] := h
  simp only [List.mem_cons, List.not_mem_nil, or_false] at h
  rcases h with h | h | h
  · have := e 95 (by omega) h; omega
  · have := e 94 (by omega) h; omega
  · have := e 39 (by omega) h; omega
set_option maxHeartbeats 1000000 in
theorem ismark_any (n : Int) (w : World) (h0 : 0 ≤ n) (h1 : n ≤ 255) : Calls Tryz.prog 121 #[.int .u8 n] w fun e w' => e = .returned (.bool (mkI n)) ∧ w = w' := by
  rcases mk_cases h0 h1 with rfl | rfl | rfl | ⟨a, b⟩ | ⟨a, b⟩ | ⟨a, b⟩ | ⟨a, b, c, d⟩ | a
  · have HP := Lib.hid (show mkI 39 = true by decide)
    have HX := Lib.hid (show Lib.indexByte (⟨#[95, 94, 39]⟩ : ByteArray).data.toList (39 : Int).toNat.toUInt8 = 2 by decide)
    go_enter Tryz.func121, Tryz.ntmps121
    go_wp2_with fail
    refine (idxb_any _ _ _).mono ?_
    rintro e w' ⟨rfl, rfl⟩
    rw [HX.out]
    go_wp2_with fail
    go_ret
    exact ⟨ret_bool HP.out.symm, rfl⟩
  · have HP := Lib.hid (show mkI 94 = true by decide)
    have HX := Lib.hid (show Lib.indexByte (⟨#[95, 94, 39]⟩ : ByteArray).data.toList (94 : Int).toNat.toUInt8 = 1 by decide)
    go_enter Tryz.func121, Tryz.ntmps121
    go_wp2_with fail
    refine (idxb_any _ _ _).mono ?_
    rintro e w' ⟨rfl, rfl⟩
    rw [HX.out]
    go_wp2_with fail
    go_ret
    exact ⟨ret_bool HP.out.symm, rfl⟩
  · have HP := Lib.hid (show mkI 95 = true by decide)
    have HX := Lib.hid (show Lib.indexByte (⟨#[95, 94, 39]⟩ : ByteArray).data.toList (95 : Int).toNat.toUInt8 = 0 by decide)
    go_enter Tryz.func121, Tryz.ntmps121
    go_wp2_with fail
    refine (idxb_any _ _ _).mono ?_
    rintro e w' ⟨rfl, rfl⟩
    rw [HX.out]
    go_wp2_with fail
    go_ret
    exact ⟨ret_bool HP.out.symm, rfl⟩
  · have HP := Lib.hid (mk_yes (n := n) (.inl ⟨a, b⟩))
    go_enter Tryz.func121, Tryz.ntmps121
    go_wp2
    go_ret
    exact ⟨ret_bool HP.out.symm, rfl⟩
  · have HP := Lib.hid (mk_yes (n := n) (.inr ⟨a, b⟩))
    go_enter Tryz.func121, Tryz.ntmps121
    go_wp2
    go_ret
    exact ⟨ret_bool HP.out.symm, rfl⟩
  · have HP := Lib.hid (mk_no (n := n) (by omega) (by omega) (by omega) (by omega) (by omega))
    have HX := Lib.hid (acc_no (n := n) h0 h1 (by omega) (by omega) (by omega))
    clear b
    go_enter Tryz.func121, Tryz.ntmps121
    go_wp2_with fail
    refine (idxb_any _ _ _).mono ?_
    rintro e w' ⟨rfl, rfl⟩
    rw [HX.out]
    go_wp2_with fail
    go_ret
    exact ⟨ret_bool HP.out.symm, rfl⟩
  · have HP := Lib.hid (mk_no (n := n) (by omega) (by omega) (by omega) (by omega) (by omega))
    have HX := Lib.hid (acc_no (n := n) h0 h1 (by omega) (by omega) (by omega))
    clear c d
    go_enter Tryz.func121, Tryz.ntmps121
    go_wp2_with fail
    refine (idxb_any _ _ _).mono ?_
    rintro e w' ⟨rfl, rfl⟩
    rw [HX.out]
    go_wp2_with fail
    go_ret
    exact ⟨ret_bool (by rw [HP.out]; simp; omega), rfl⟩
  · have HP := Lib.hid (mk_no (n := n) (by omega) (by omega) (by omega) (by omega) (by omega))
    have HX := Lib.hid (acc_no (n := n) h0 h1 (by omega) (by omega) (by omega))
    go_enter Tryz.func121, Tryz.ntmps121
    go_wp2_with fail
    refine (idxb_any _ _ _).mono ?_
    rintro e w' ⟨rfl, rfl⟩
    rw [HX.out]
    go_wp2_with fail
    go_ret
    exact ⟨ret_bool (by rw [HP.out]; simp; omega), rfl⟩
set_option maxHeartbeats 1000000 in
theorem only_any (s : ByteArray) (w : World) (hs : s.size ≤ 140737488355328) : Calls Tryz.prog 115 #[.string s] w fun e w' => e = .returned (.bool (s.data.toList.all isMk)) ∧ w = w' := by
  go_enter Tryz.func115, Tryz.ntmps115
  go_wp2
  go_loopw [3] (fun i wr => ∃ k : Nat, k ≤ s.size ∧ i = .int .i64 k ∧ (s.data.toList.take k).all isMk = true ∧ w = wr) (fun i _ => s.size - (intOf i).toNat)
  case atStart => exact ⟨0, Nat.zero_le _, rfl, rfl, rfl⟩
  case round =>
    obtain ⟨k, hk, rfl, hall, rfl⟩ := hrel
    have HA := Lib.hid hall
    clear hall
    by_cases hlt : k < s.size
    · obtain ⟨hb0, hb1⟩ := mk_bd s k hlt
      cases hm : mkI (s[k].toNat : Int) with
      | true =>
        have HM := Lib.hid hm
        have HN := Lib.hid (all_step hlt HA.out hm)
        clear hm
        go_wp2_with fail
        refine (ismark_any _ _ hb0 hb1).mono ?_
        rintro e w' ⟨rfl, rfl⟩
        rw [HM.out]
        go_wp2_with fail
        go_roundw
        case rel => exact ⟨k + 1, by omega, by go_num, HN.out, trivial⟩
        case measure => simp [intOf]; omega
      | false =>
        have HM := Lib.hid hm
        have HN := Lib.hid (all_not hlt hm)
        clear hm
        go_wp2_with fail
        refine (ismark_any _ _ hb0 hb1).mono ?_
        rintro e w' ⟨rfl, rfl⟩
        rw [HM.out]
        go_wp2_with fail
        go_ret
        exact ⟨ret_bool HN.out.symm, rfl⟩
    · have HE := Lib.hid (show s.data.toList.all isMk = true by have := HA.out; rwa [takeAll (by omega)] at this)
      go_wp2
      go_ret
      exact ⟨ret_bool HE.out.symm, rfl⟩
set_option maxHeartbeats 2000000 in
theorem valid_any (x : Snd) (w : World) (hx : x.t.length ≤ 140737488355328) : Calls Tryz.prog 103 #[.agg #[.int .i64 x.k, .int .i64 x.q, .string (bs x.t)]] w fun e w' => e = .returned (.int .i64 (vS x)) ∧ Below w.heap.size w w' := by
  have hz : (bs x.t).size = x.t.length := rfl
  obtain ⟨m, hm⟩ : ∃ m, x.t.length = m := ⟨_, rfl⟩
  rw [hm] at hz hx
  obtain ⟨c0, c1, c2⟩ := box_cells w x
  by_cases a : x.k < 1
  · have HV := Lib.hid (vS_inv (x := x) (.inl a))
    clear c1 c2 hm
    go_enter Tryz.func103, Tryz.ntmps103
    go_wp2
    go_ret
    exact ⟨sym_int HV.out, bnew _ _⟩
  · by_cases b : 9 < x.k
    · have HV := Lib.hid (vS_inv (x := x) (.inr b))
      clear c1 c2 hm
      go_enter Tryz.func103, Tryz.ntmps103
      go_wp2
      go_ret
      exact ⟨sym_int HV.out, bnew _ _⟩
    · have hk : ¬ (x.k < 1 ∨ 9 < x.k) := by omega
      cases hq : qOk x.k x.q with
      | false =>
        have HV := Lib.hid (vS_range hk hq)
        have HQ := Lib.hid hq
        clear hk hq hm c1 c2
        go_enter Tryz.func103, Tryz.ntmps103
        go_wp2_with fail
        refine (hasq_any x _).mono ?_
        rintro e w1 ⟨rfl, hb1⟩
        rw [HQ.out]
        have HB := Lib.hid (btwo (bnew _ _) hb1)
        clear hb1
        go_wp2_with fail
        go_ret
        exact ⟨sym_int HV.out, HB.out⟩
      | true =>
        have HQ := Lib.hid hq
        by_cases h0 : m = 0
        · have HV := Lib.hid (vS_empty hk hq (by omega))
          obtain ⟨s1, s2⟩ := bs_empty (x := x) (by omega)
          clear hk hq hm
          go_enter Tryz.func103, Tryz.ntmps103
          go_wp2_with fail
          refine (hasq_any x _).mono ?_
          rintro e w1 ⟨rfl, hb1⟩
          rw [HQ.out]
          have HB := Lib.hid (btwo (bnew _ _) hb1)
          have d2 := (hb1.cell (p := ⟨w.heap.size, 2, none⟩) (by simp)).trans c2
          have hl : w.heap.size < w1.heap.size := by have := hb1.size; simp at this; omega
          clear hb1
          go_wp2_with fail
          go_ret
          exact ⟨sym_int HV.out, HB.out⟩
        · obtain ⟨s1, s2⟩ := bs_full (x := x) (by omega)
          by_cases h8 : 8 < m
          · have HV := Lib.hid (vS_large hk hq (by omega))
            clear hk hq hm
            go_enter Tryz.func103, Tryz.ntmps103
            go_wp2_with fail
            refine (hasq_any x _).mono ?_
            rintro e w1 ⟨rfl, hb1⟩
            rw [HQ.out]
            have HB := Lib.hid (btwo (bnew _ _) hb1)
            have d2 := (hb1.cell (p := ⟨w.heap.size, 2, none⟩) (by simp)).trans c2
            have hl : w.heap.size < w1.heap.size := by have := hb1.size; simp at this; omega
            clear hb1
            go_wp2_with fail
            go_ret
            exact ⟨sym_int HV.out, HB.out⟩
          · cases hmk : (bs x.t).data.toList.all isMk with
            | true =>
              have HV := Lib.hid (vS_ok hk hq (by omega) (by omega) hmk)
              have HM := Lib.hid hmk
              clear hk hq hm hmk
              go_enter Tryz.func103, Tryz.ntmps103
              go_wp2_with fail
              refine (hasq_any x _).mono ?_
              rintro e w1 ⟨rfl, hb1⟩
              rw [HQ.out]
              have HB := Lib.hid (btwo (bnew _ _) hb1)
              have d2 := (hb1.cell (p := ⟨w.heap.size, 2, none⟩) (by simp)).trans c2
              have hl : w.heap.size < w1.heap.size := by have := hb1.size; simp at this; omega
              clear hb1
              go_wp2_with fail
              refine (only_any _ _ (by omega)).mono ?_
              rintro e w2 ⟨rfl, rfl⟩
              rw [HM.out]
              go_wp2_with fail
              go_ret
              exact ⟨sym_int HV.out, HB.out⟩
            | false =>
              have HV := Lib.hid (vS_syn hk hq (by omega) (by omega) hmk)
              have HM := Lib.hid hmk
              clear hk hq hm hmk
              go_enter Tryz.func103, Tryz.ntmps103
              go_wp2_with fail
              refine (hasq_any x _).mono ?_
              rintro e w1 ⟨rfl, hb1⟩
              rw [HQ.out]
              have HB := Lib.hid (btwo (bnew _ _) hb1)
              have d2 := (hb1.cell (p := ⟨w.heap.size, 2, none⟩) (by simp)).trans c2
              have hl : w.heap.size < w1.heap.size := by have := hb1.size; simp at this; omega
              clear hb1
              go_wp2_with fail
              refine (only_any _ _ (by omega)).mono ?_
              rintro e w2 ⟨rfl, rfl⟩
              rw [HM.out]
              go_wp2_with fail
              go_ret
              exact ⟨sym_int HV.out, HB.out⟩
end Go.Proofs.YtjamfcihjendiaaGreat

namespace Go.Proofs.YtjamfcihjendiaaGreat
open Go.RowKit
set_option linter.unusedVariables false
set_option linter.unusedSimpArgs false
set_option maxRecDepth 100000

theorem emp_l {t : List UInt8} (h : t.length = 0) : ((bs t).toList == []) = true ∧ (bs t).toList.isEmpty = true := by
  have : t = [] := List.eq_nil_of_length_eq_zero h
  rw [ByteArray.toList_eq, bs_list, this]; exact ⟨rfl, rfl⟩
theorem ful_l {t : List UInt8} (h : ¬ t.length = 0) : ((bs t).toList == []) = false ∧ (bs t).toList.isEmpty = false := by
  rw [ByteArray.toList_eq, bs_list]
  cases e : t with
  | nil => rw [e] at h; exact absurd rfl h
  | cons c r => exact ⟨rfl, rfl⟩
theorem foldB_same {c : UInt8} : T.foldB c = c ↔ ¬ (65 ≤ (c.toNat : Int) ∧ (c.toNat : Int) ≤ 90) := by
  have h := T.foldB_int c
  unfold T.fb at h
  constructor
  · intro e hc
    rw [e, if_pos hc] at h; omega
  · intro hc
    rw [if_neg hc] at h
    exact UInt8.toNat_inj.1 (by omega)
theorem small_is : ∀ t : List UInt8, t.all isLow = (T.allLtr t && (T.foldL t == t))
  | [] => rfl
  | c :: r => by
    have ih := small_is r
    have e1 : T.allLtr (c :: r) = (T.ltr (c.toNat : Int) && T.allLtr r) := rfl
    have e2 : (T.foldL (c :: r) == c :: r) = ((T.foldB c == c) && (T.foldL r == r)) := rfl
    rw [List.all_cons, ih, e1, e2]
    have e3 : isLow c = (T.ltr (c.toNat : Int) && (T.foldB c == c)) := by
      unfold isLow lowI
      congr 1
      rw [Bool.eq_iff_iff, beq_iff_eq, foldB_same]; simp; omega
    rw [e3]
    cases T.ltr (c.toNat : Int) <;> cases T.allLtr r <;> cases (T.foldB c == c) <;> cases (T.foldL r == r) <;> rfl
theorem join_one {t : List UInt8} (h : ¬ t.length = 0) (h4 : t.length ≤ 4) : (T.joinVal (T.lists fun _ => bs t) 1).2 = if T.allLtr t = true then 0 else 2 := by
  have hne : t ≠ [] := fun e => h (by rw [e]; rfl)
  have e0 : T.lists (fun _ => bs t) 0 = t := rfl
  have e1 : T.jst (T.lists fun _ => bs t) 1 = T.err1 t := by rw [T.jst_step rfl, e0]
  have e2 : (T.joinF (T.lists fun _ => bs t) 1).length = t.length := by rw [T.joinF_succ_len, e0]; simp [T.joinF]
  cases hl : T.allLtr t with
  | true =>
    rw [T.joinVal_ok (by rw [e1]; exact T.err1_ok hne hl) (by rw [e2]; omega)]; rfl
  | false =>
    rw [T.joinVal_err (x := 2) (by rw [e1]; exact T.err1_bad hne hl) (by decide)]; rfl
set_option maxHeartbeats 4000000 in
theorem small_any (t : List UInt8) (w : World) (h0 : ¬ t.length = 0) (h4 : t.length ≤ 4) :
    Calls Tryz.prog 102 #[.string (bs t)] w fun e w' => e = .returned (.bool (t.all isLow)) ∧ Below w.heap.size w w' := by
  obtain ⟨g1, hg1⟩ : ∃ z, z = w.heap.size := ⟨_, rfl⟩
  obtain ⟨W1, hW1⟩ : ∃ z, z = w.alloc (.cells #[.string (bs t)] 9) := ⟨_, rfl⟩
  have HA := Lib.hid (show T.StrArg W1 (some ⟨g1, 0, none⟩) 1 (fun _ => bs t) from ⟨fun _ _ => by rw [bs_size]; omega, fun _ => ⟨g1, 0, rfl, by rw [hW1, hg1]; simp, fun i hi => by
    obtain rfl : i = 0 := by omega
    rw [hW1, hg1, World.cell?_alloc_mark]; rfl⟩⟩)
  have HL := Lib.hid (show (T.joinF (T.lists fun _ => bs t) 1).length ≤ 500 by
    rw [T.joinF_succ_len, show T.lists (fun _ => bs t) 0 = t from rfl]; simp [T.joinF]; omega)
  have HJ := Lib.hid (join_one h0 h4)
  have B1 := Lib.hid (show Below w.heap.size w W1 by rw [hW1]; exact bnew _ _)
  have HW1 := Lib.hid hW1
  have HG1 := Lib.hid hg1
  have HS := Lib.hid (small_is t)
  have HZ := Lib.hid (show (bs t).size ≤ maxLen by rw [bs_size]; unfold maxLen; omega)
  clear hW1 hg1 h0 h4
  go_enter Tryz.func102, Tryz.ntmps102
  go_wp2_with fail
  rw [← HG1.out, ← HW1.out]
  refine (T.tjoin_any 1 1 (fun _ => bs t) (some ⟨g1, 0, none⟩) _ (by decide) (by decide) HA.out HL.out).mono ?_
  rintro e w2 ⟨rfl, hb⟩
  rw [HJ.out]
  have B2 := Lib.hid (btwo B1.out hb)
  clear hb
  cases hl : T.allLtr t with
  | true =>
    have HE := Lib.hid (show t.all isLow = (T.foldL t == t) by rw [HS.out, hl]; rfl)
    clear hl
    rw [if_pos rfl]
    go_wp2_with fail
    refine (T.tfold_any (bs t) _ HZ.out).mono ?_
    rintro e w3 ⟨rfl, hb⟩
    have B3 := Lib.hid (btwo B2.out hb)
    clear hb
    cases hs : (T.foldL t == t) with
    | true =>
      have e1 : ((⟨(T.foldL t).toArray⟩ : ByteArray).toList == (bs t).toList) = true := by
        rw [show (⟨(T.foldL t).toArray⟩ : ByteArray) = bs (T.foldL t) from rfl, toL, toL]; exact hs
      have e1' : (T.foldL t == (bs t).toList) = true := by rw [toL]; exact hs
      have HF := Lib.hid hs
      clear hs
      rw [bs_list]
      go_wp2_with fail
      go_ret
      exact ⟨ret_bool (by rw [HE.out, HF.out]), B3.out⟩
    | false =>
      have e1 : ((⟨(T.foldL t).toArray⟩ : ByteArray).toList == (bs t).toList) = false := by
        rw [show (⟨(T.foldL t).toArray⟩ : ByteArray) = bs (T.foldL t) from rfl, toL, toL]; exact hs
      have e1' : (T.foldL t == (bs t).toList) = false := by rw [toL]; exact hs
      have HF := Lib.hid hs
      clear hs
      rw [bs_list]
      go_wp2_with fail
      go_ret
      exact ⟨ret_bool (by rw [HE.out, HF.out]), B3.out⟩
  | false =>
    have HE := Lib.hid (show t.all isLow = false by rw [HS.out, hl]; rfl)
    clear hl
    rw [if_neg (by decide)]
    go_wp2_with fail
    go_ret
    exact ⟨ret_bool HE.out.symm, B2.out⟩
theorem ww_emp {w : Int} (h : w < 0 ∨ 4 < w) : ((bs (wW w)).toList == []) = true ∧ (bs (wW w)).toList.isEmpty = true := emp_l (by rw [ww_out h]; rfl)
theorem ww_ful {w : Int} (h : 0 ≤ w ∧ w ≤ 4) : ((bs (wW w)).toList == []) = false ∧ (bs (wW w)).toList.isEmpty = false := ful_l (by have := (ww_not h).2.2; omega)
theorem sg_err_at {x : Sg} {k : Nat} {y : Snd} (h : x.s[k]? = some y) (h1 : ∀ z ∈ x.s.take k, vS z = 0) (h2 : vS y ≠ 0) : errL x.s = vS y := errL_at h h1 h2
set_option maxHeartbeats 8000000 in
theorem sgfault_any (x : Sg) (A : Option Addr) (c : Nat) (w : World) (ht : x.t.length ≤ 140737488355328) (hn : x.s.length ≤ 17592186044416) (hs : ∀ y ∈ x.s, y.t.length ≤ 140737488355328) (hA : CellsIn w A (sndsC x.s)) :
    Calls Tryz.prog 89 #[.agg #[.string (bs x.t), .slice A x.s.length c, .int .i64 x.c, .int .i64 x.w]] w fun e w' => e = .returned (.int .i64 (sgE x)) ∧ Below w.heap.size w w' := by
  obtain ⟨g1, hg1⟩ : ∃ z, z = w.heap.size := ⟨_, rfl⟩
  obtain ⟨W1, hW1⟩ : ∃ z, z = w.alloc (.cells #[.string (bs x.t), .slice A x.s.length c, .int .i64 x.c, .int .i64 x.w] 64) := ⟨_, rfl⟩
  have V1 := Lib.hid (show Hp w [sgbox g1 (A, c) x] W1 by rw [hW1, hg1]; exact (Hp.start w).sgbox_new A c x)
  have HW1 := Lib.hid hW1
  have HG1 := Lib.hid hg1
  have HA := Lib.hid hA
  have HSS := Lib.hid hs
  obtain ⟨m, hm⟩ : ∃ m, m = x.s.length := ⟨_, rfl⟩
  obtain ⟨tl, htl⟩ : ∃ tl, tl = x.t.length := ⟨_, rfl⟩
  have HM := Lib.hid hm
  have HTL := Lib.hid htl
  rw [← hm] at hn
  rw [← htl] at ht
  obtain ⟨x0, x1, x2, x3, x4⟩ := V1.out.sgbox_at (i := 0) rfl
  dsimp only at x1
  rw [← hm] at x1
  have hz : (bs x.t).size = tl := by rw [bs_size]; exact htl.symm
  clear hW1 hg1 hA hs htl
  go_enter Tryz.func89, Tryz.ntmps89
  go_upto_region 1 with fail
  rw [← HG1.out, ← HW1.out]
  by_cases h0 : tl = 0
  · obtain ⟨q1, q2⟩ := emp_l (t := x.t) (by have := HTL.out; omega)
    have HE := Lib.hid (show (7 : Int) = sgE x by rw [sgE_text (by rw [txE_empty (by have := HTL.out; omega)]; decide), txE_empty (by have := HTL.out; omega)])
    clear h0 hm
    go_wp2_with fail
    go_ret
    exact ⟨sym_int HE.out.symm, V1.out.below⟩
  obtain ⟨q1, q2⟩ := ful_l (t := x.t) (by have := HTL.out; omega)
  by_cases h4 : 4 < tl
  · have HE := Lib.hid (show (3 : Int) = sgE x by rw [sgE_text (by rw [txE_big (by have := HTL.out; omega)]; decide), txE_big (by have := HTL.out; omega)])
    clear h0 hm
    go_wp2_with fail
    go_ret
    exact ⟨sym_int HE.out.symm, V1.out.below⟩
  clear hm
  go_wp2_with fail
  refine (small_any x.t _ (by have := HTL.out; omega) (by have := HTL.out; omega)).mono ?_
  rintro e w2 ⟨rfl, hb⟩
  have V2 := Lib.hid (V1.out.go hb)
  obtain ⟨x0, x1, x2, x3, x4⟩ := V2.out.sgbox_at (i := 0) rfl
  dsimp only at x1
  rw [← HM.out] at x1
  clear hb q1 q2
  cases hlow : x.t.all isLow with
  | false =>
    have HE := Lib.hid (show (2 : Int) = sgE x by
      have := txE_syn (t := x.t) (by have := HTL.out; omega) (by have := HTL.out; omega) hlow
      rw [sgE_text (by rw [this]; decide), this])
    clear hlow
    go_wp2_with fail
    go_ret
    exact ⟨sym_int HE.out.symm, V2.out.below⟩
  | true =>
  have HT0 := Lib.hid (txE_ok (t := x.t) (by have := HTL.out; omega) (by have := HTL.out; omega) hlow)
  clear hlow
  by_cases hm0 : m = 0
  · have HE := Lib.hid (show (7 : Int) = sgE x from (sgE_empty HT0.out (by have := HM.out; omega)).symm)
    have e0 : ((m : Int) == 0) = true := by simp [hm0]
    clear hm0
    go_wp2_with fail
    go_ret
    exact ⟨sym_int HE.out.symm, V2.out.below⟩
  have e0 : ((m : Int) == 0) = false := by simp [hm0]
  by_cases hm2 : 2 < m
  · have HE := Lib.hid (show (3 : Int) = sgE x from (sgE_big HT0.out (by have := HM.out; omega)).symm)
    clear hm0
    go_wp2_with fail
    go_ret
    exact ⟨sym_int HE.out.symm, V2.out.below⟩
  have HM0 := Lib.hid hm0
  clear hm0 h0 h4 hz
  go_wp2_with fail
  go_loopw [33] (fun i wr => ∃ k : Nat, k ≤ m ∧ i = .int .i64 (k : Int) ∧ (∀ z ∈ x.s.take k, vS z = 0) ∧ Hp w [sgbox g1 (A, c) x] wr) (fun i _ => m - (intOf i).toNat)
  case atStart => exact ⟨0, Nat.zero_le _, rfl, fun z hz => by simp at hz, V2.out⟩
  case round =>
    obtain ⟨k, hk, rfl, hall, hV⟩ := hrel
    obtain ⟨wi, rfl⟩ : ∃ wi : World, wi = wr := ⟨_, rfl⟩
    have HALL := Lib.hid hall
    have V3 := Lib.hid hV
    clear hall hV x0 x1 x2 x3 x4
    obtain ⟨x0, x1, x2, x3, x4⟩ := V3.out.sgbox_at (i := 0) rfl
    dsimp only at x1
    rw [← HM.out] at x1
    by_cases hlt : k < m
    · obtain ⟨y, hy⟩ := get_at (L := x.s) (k := k) (by have := HM.out; omega)
      obtain ⟨b, off, rfl, hb, c0, c1, c2⟩ := (HA.out.below V3.out.below).snd hy
      have HY := Lib.hid hy
      have hyl := HSS.out y (List.mem_of_getElem? hy)
      have hk3 : k * 3 ≤ 6 := by omega
      clear hy
      go_wp2_with fail
      refine (valid_any y _ hyl).mono ?_
      rintro e w4 ⟨rfl, hb4⟩
      have V4 := Lib.hid ((V3.out.go (bnew _ _)).go hb4)
      clear hb4
      by_cases hv : vS y = 0
      · have HN := Lib.hid (show ∀ z ∈ x.s.take (k + 1), vS z = 0 from fun z hz => by
          rw [take_snoc HY.out] at hz
          rcases List.mem_append.1 hz with h | h
          · exact HALL.out z h
          · rw [List.mem_singleton.1 h]; exact hv)
        rw [hv]
        clear hv
        go_wp2_with fail
        go_roundw
        case rel => exact ⟨k + 1, by omega, by go_num, HN.out, V4.out⟩
        case measure => simp [intOf]; omega
      · have HE := Lib.hid (show vS y = sgE x by
          have h1 := sg_err_at HY.out HALL.out hv
          rw [sgE_snd HT0.out (by have := HM.out; have := HM0.out; omega) (by have := HM.out; omega) (by rw [h1]; exact hv), h1])
        obtain ⟨v, hvv⟩ : ∃ v, v = vS y := ⟨_, rfl⟩
        rw [← hvv] at hv HE ⊢
        have e1 : (v != 0) = true := bne_yes hv
        clear hv hvv
        go_wp2_with fail
        go_ret
        exact ⟨sym_int HE.out.symm, V4.out.below⟩
    · have HS0 := Lib.hid (show errL x.s = 0 from errL_zero.2 (by
        have := HALL.out
        rwa [take_all (by have := HM.out; omega)] at this))
      obtain ⟨xc, hxc⟩ : ∃ z, z = x.c := ⟨_, rfl⟩
      obtain ⟨xw, hxw⟩ : ∃ z, z = x.w := ⟨_, rfl⟩
      have HXC := Lib.hid hxc
      have HXW := Lib.hid hxw
      rw [← hxc] at x2
      rw [← hxw] at x3
      clear hxc hxw
      by_cases hc0 : xc < 0
      · have HE := Lib.hid (show (6 : Int) = sgE x from (sgE_range HT0.out (by have := HM.out; have := HM0.out; omega) (by have := HM.out; omega) HS0.out ((rgE_yes (x := x)).2 (by have := HXC.out; omega))).symm)
        go_wp2_with fail
        go_ret
        exact ⟨sym_int HE.out.symm, V3.out.below⟩
      by_cases hc9 : 99 < xc
      · have HE := Lib.hid (show (6 : Int) = sgE x from (sgE_range HT0.out (by have := HM.out; have := HM0.out; omega) (by have := HM.out; omega) HS0.out ((rgE_yes (x := x)).2 (by have := HXC.out; omega))).symm)
        go_wp2_with fail
        go_ret
        exact ⟨sym_int HE.out.symm, V3.out.below⟩
      go_wp2_with fail
      refine (whereWord_any xw _).mono ?_
      rintro e w4 ⟨rfl, hw⟩
      subst hw
      by_cases hw : xw < 0 ∨ 4 < xw
      · obtain ⟨q1, q2⟩ := ww_emp hw
        have HE := Lib.hid (show (6 : Int) = sgE x from (sgE_range HT0.out (by have := HM.out; have := HM0.out; omega) (by have := HM.out; omega) HS0.out ((rgE_yes (x := x)).2 (by have := HXW.out; omega))).symm)
        clear hw
        go_wp2_with fail
        go_ret
        exact ⟨sym_int HE.out.symm, V3.out.below⟩
      · obtain ⟨q1, q2⟩ := ww_ful (w := xw) (by omega)
        have HE := Lib.hid (show (0 : Int) = sgE x from (sgE_ok HT0.out (by have := HM.out; have := HM0.out; omega) (by have := HM.out; omega) HS0.out ((rgE_no (x := x)).2 (by have := HXW.out; have := HXC.out; omega))).symm)
        clear hw
        go_wp2_with fail
        go_ret
        exact ⟨sym_int HE.out.symm, V3.out.below⟩
end Go.Proofs.YtjamfcihjendiaaGreat
