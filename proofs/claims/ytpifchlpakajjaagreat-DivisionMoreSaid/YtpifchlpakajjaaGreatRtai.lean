/- Several texts in one: Uc, Ud. -/
import Derived.Lib.Hide
import Derived.Test.YtpifchlpakajjaaGreatRtag
import Derived.Test.YtpifchlpakajjaaGreatRtab
namespace Go.Proofs.YtpifchlpakajjaaGreat
open Go.RowKit
set_option linter.unusedVariables false
set_option linter.unusedSimpArgs false
set_option maxRecDepth 100000

set_option maxHeartbeats 1000000 in
theorem nucleus_any (x : Snd) (w : World) : Calls Tryz.prog 105 #[.agg #[.int .i64 x.k, .int .i64 x.q, .string (bs x.t)]] w fun e w' => e = .returned (.bool (nuc x)) ∧ Below w.heap.size w w' := by
  by_cases h1 : x.k = 1
  · have HP := Lib.hid (show nuc x = true by simp [nuc, h1])
    have e1 : (x.k == 1) = true := by simp [h1]
    clear h1
    go_enter Tryz.func105, Tryz.ntmps105
    go_wp2
    go_ret
    exact ⟨ret_bool HP.out.symm, bnew _ _⟩
  · have e1 : (x.k == 1) = false := by simpa using h1
    by_cases h2 : x.k = 2
    · have HP := Lib.hid (show nuc x = true by simp [nuc, h2])
      have e2 : (x.k == 2) = true := by simp [h2]
      clear h1 h2
      go_enter Tryz.func105, Tryz.ntmps105
      go_wp2
      go_ret
      exact ⟨ret_bool HP.out.symm, bnew _ _⟩
    · have HP := Lib.hid (show nuc x = false by simp [nuc, h1, h2])
      have e2 : (x.k == 2) = false := by simpa using h2
      clear h1 h2
      go_enter Tryz.func105, Tryz.ntmps105
      go_wp2
      go_ret
      exact ⟨ret_bool HP.out.symm, bnew _ _⟩
set_option maxHeartbeats 1000000 in
theorem rnucleus_any (x : Snd) (w : World) : Calls Tryz.prog 106 #[.agg #[.int .i64 x.k, .int .i64 x.q, .string (bs x.t)]] w fun e w' => e = .returned (.bool (nuc x)) ∧ Below w.heap.size w w' := by
  by_cases h1 : x.k = 1
  · have HP := Lib.hid (show nuc x = true by simp [nuc, h1])
    have e1 : (x.k == 1) = true := by simp [h1]
    clear h1
    go_enter Tryz.func106, Tryz.ntmps106
    go_wp2
    go_ret
    exact ⟨ret_bool HP.out.symm, bnew _ _⟩
  · have e1 : (x.k == 1) = false := by simpa using h1
    by_cases h2 : x.k = 2
    · have HP := Lib.hid (show nuc x = true by simp [nuc, h2])
      have e2 : (x.k == 2) = true := by simp [h2]
      clear h1 h2
      go_enter Tryz.func106, Tryz.ntmps106
      go_wp2
      go_ret
      exact ⟨ret_bool HP.out.symm, bnew _ _⟩
    · have HP := Lib.hid (show nuc x = false by simp [nuc, h1, h2])
      have e2 : (x.k == 2) = false := by simpa using h2
      clear h1 h2
      go_enter Tryz.func106, Tryz.ntmps106
      go_wp2
      go_ret
      exact ⟨ret_bool HP.out.symm, bnew _ _⟩
set_option maxHeartbeats 1000000 in
theorem hasq_any (x : Snd) (w : World) : Calls Tryz.prog 143 #[.agg #[.int .i64 x.k, .int .i64 x.q, .string (bs x.t)]] w fun e w' => e = .returned (.bool (qOk x.k x.q)) ∧ Below w.heap.size w w' := by
  by_cases h1 : x.k = 1
  · have e1 : (x.k == 1) = true := by simp [h1]
    by_cases h3 : 1 ≤ x.q
    · by_cases h4 : x.q ≤ 3
      · have HP := Lib.hid (show qOk x.k x.q = true by simp [qOk, h1, h3, h4])
        clear h1
        go_enter Tryz.func143, Tryz.ntmps143
        go_wp2
        go_ret
        exact ⟨ret_bool HP.out.symm, bnew _ _⟩
      · have HP := Lib.hid (show qOk x.k x.q = false by simp [qOk, h1, h3]; omega)
        clear h1
        go_enter Tryz.func143, Tryz.ntmps143
        go_wp2
        go_ret
        exact ⟨ret_bool HP.out.symm, bnew _ _⟩
    · have HP := Lib.hid (show qOk x.k x.q = false by simp [qOk, h1]; omega)
      clear h1
      go_enter Tryz.func143, Tryz.ntmps143
      go_wp2
      go_ret
      exact ⟨ret_bool HP.out.symm, bnew _ _⟩
  · have e1 : (x.k == 1) = false := by simpa using h1
    by_cases h2 : x.k = 2
    · have e2 : (x.k == 2) = true := by simp [h2]
      by_cases h3 : x.q = 2
      · have e3 : (x.q == 2) = true := by simp [h3]
        have HP := Lib.hid (show qOk x.k x.q = true by simp [qOk, h2, h3])
        clear h1 h2 h3
        go_enter Tryz.func143, Tryz.ntmps143
        go_wp2
        go_ret
        exact ⟨ret_bool HP.out.symm, bnew _ _⟩
      · have e3 : (x.q == 2) = false := by simpa using h3
        have HP := Lib.hid (show qOk x.k x.q = false by simp [qOk, h2, h3])
        clear h1 h2 h3
        go_enter Tryz.func143, Tryz.ntmps143
        go_wp2
        go_ret
        exact ⟨ret_bool HP.out.symm, bnew _ _⟩
    · have e2 : (x.k == 2) = false := by simpa using h2
      by_cases h3 : x.q = 0
      · have e3 : (x.q == 0) = true := by simp [h3]
        have HP := Lib.hid (show qOk x.k x.q = true by simp [qOk, h1, h2, h3])
        clear h1 h2 h3
        go_enter Tryz.func143, Tryz.ntmps143
        go_wp2
        go_ret
        exact ⟨ret_bool HP.out.symm, bnew _ _⟩
      · have e3 : (x.q == 0) = false := by simpa using h3
        have HP := Lib.hid (show qOk x.k x.q = false by simp [qOk, h1, h2, h3])
        clear h1 h2 h3
        go_enter Tryz.func143, Tryz.ntmps143
        go_wp2
        go_ret
        exact ⟨ret_bool HP.out.symm, bnew _ _⟩
theorem mk_cases {n : Int} (h0 : 0 ≤ n) (h1 : n ≤ 255) : n = 39 ∨ n = 94 ∨ n = 95 ∨ (97 ≤ n ∧ n ≤ 122) ∨ (48 ≤ n ∧ n ≤ 57) ∨ (n < 48 ∧ n ≠ 39) ∨ (57 < n ∧ n < 97 ∧ n ≠ 94 ∧ n ≠ 95) ∨ 122 < n := by omega
theorem mk_yes {n : Int} (h : (97 ≤ n ∧ n ≤ 122) ∨ (48 ≤ n ∧ n ≤ 57)) : mkI n = true := by
  unfold mkI
  rcases h with ⟨a, b⟩ | ⟨a, b⟩
  · rw [decide_eq_true a, decide_eq_true b]; rfl
  · rw [decide_eq_true a, decide_eq_true b]; simp
theorem mk_no {n : Int} (h : ¬ (97 ≤ n ∧ n ≤ 122)) (h2 : ¬ (48 ≤ n ∧ n ≤ 57)) (h3 : n ≠ 39) (h4 : n ≠ 94) (h5 : n ≠ 95) : mkI n = false := by
  unfold mkI
  rw [beq_no h3, beq_no h4, beq_no h5]
  simp; omega
set_option maxHeartbeats 1000000 in
theorem letter_any (n : Int) (w : World) (h0 : 0 ≤ n) (h1 : n ≤ 255) : Calls Tryz.prog 124 #[.int .u8 n] w fun e w' => e = .returned (.bool (mkI n)) ∧ w = w' := by
  rcases mk_cases h0 h1 with rfl | rfl | rfl | ⟨a, b⟩ | ⟨a, b⟩ | ⟨a, b⟩ | ⟨a, b, c, d⟩ | a
  · have HP := Lib.hid (show mkI 39 = true by decide)
    go_enter Tryz.func124, Tryz.ntmps124
    go_wp2
    go_ret
    exact ⟨ret_bool HP.out.symm, rfl⟩
  · have HP := Lib.hid (show mkI 94 = true by decide)
    go_enter Tryz.func124, Tryz.ntmps124
    go_wp2
    go_ret
    exact ⟨ret_bool HP.out.symm, rfl⟩
  · have HP := Lib.hid (show mkI 95 = true by decide)
    go_enter Tryz.func124, Tryz.ntmps124
    go_wp2
    go_ret
    exact ⟨ret_bool HP.out.symm, rfl⟩
  · have HP := Lib.hid (mk_yes (n := n) (.inl ⟨a, b⟩))
    go_enter Tryz.func124, Tryz.ntmps124
    go_wp2
    go_ret
    exact ⟨ret_bool HP.out.symm, rfl⟩
  · have HP := Lib.hid (mk_yes (n := n) (.inr ⟨a, b⟩))
    go_enter Tryz.func124, Tryz.ntmps124
    go_wp2
    go_ret
    exact ⟨ret_bool HP.out.symm, rfl⟩
  · have HP := Lib.hid (mk_no (n := n) (by omega) (by omega) (by omega) (by omega) (by omega))
    have e1 : (n == 39) = false := beq_no (by omega)
    have e2 : (n == 94) = false := beq_no (by omega)
    have e3 : (n == 95) = false := beq_no (by omega)
    clear b
    go_enter Tryz.func124, Tryz.ntmps124
    go_wp2
    go_ret
    exact ⟨ret_bool HP.out.symm, rfl⟩
  · have HP := Lib.hid (mk_no (n := n) (by omega) (by omega) (by omega) (by omega) (by omega))
    have e1 : (n == 39) = false := beq_no (by omega)
    have e2 : (n == 94) = false := beq_no (by omega)
    have e3 : (n == 95) = false := beq_no (by omega)
    clear c d
    go_enter Tryz.func124, Tryz.ntmps124
    go_wp2
    go_ret
    exact ⟨ret_bool (by rw [HP.out]; simp; omega), rfl⟩
  · have HP := Lib.hid (mk_no (n := n) (by omega) (by omega) (by omega) (by omega) (by omega))
    have e1 : (n == 39) = false := beq_no (by omega)
    have e2 : (n == 94) = false := beq_no (by omega)
    have e3 : (n == 95) = false := beq_no (by omega)
    go_enter Tryz.func124, Tryz.ntmps124
    go_wp2
    go_ret
    exact ⟨ret_bool (by rw [HP.out]; simp; omega), rfl⟩
theorem mk_bd (s : ByteArray) (k : Nat) (h : k < s.size) : (0 : Int) ≤ (s[k].toNat : Int) ∧ (s[k].toNat : Int) ≤ 255 := ⟨by omega, by have := s[k].toNat_lt; omega⟩
theorem all_step {s : ByteArray} {k : Nat} (hk : k < s.size) (h : (s.data.toList.take k).all isMk = true) (h1 : mkI (s[k].toNat : Int) = true) : (s.data.toList.take (k + 1)).all isMk = true := by
  rw [takeS hk, List.all_append, h]
  simpa [isMk] using h1
theorem all_not {s : ByteArray} {k : Nat} (hk : k < s.size) (h1 : mkI (s[k].toNat : Int) = false) : s.data.toList.all isMk = false := by
  rw [Bool.eq_false_iff]
  intro h
  have := List.all_eq_true.1 h s[k] (by rw [getB s k hk]; exact List.getElem_mem _)
  rw [show isMk s[k] = mkI (s[k].toNat : Int) from rfl, h1] at this; cases this
theorem sym_int {a b : Int} (h : a = b) : Ending.returned (.int .i64 b) = Ending.returned (.int .i64 a) := by rw [h]
theorem bs_empty {x : Snd} (h : x.t.length = 0) : ((bs x.t).toList == []) = true ∧ (bs x.t).toList.isEmpty = true := by
  have : x.t = [] := List.eq_nil_of_length_eq_zero h
  rw [ByteArray.toList_eq, bs_list, this]; exact ⟨rfl, rfl⟩
theorem bs_full {x : Snd} (h : ¬ x.t.length = 0) : ((bs x.t).toList == []) = false ∧ (bs x.t).toList.isEmpty = false := by
  rw [ByteArray.toList_eq, bs_list]
  cases e : x.t with
  | nil => rw [e] at h; exact absurd rfl h
  | cons c r => exact ⟨rfl, rfl⟩
end Go.Proofs.YtpifchlpakajjaaGreat

namespace Go.Proofs.YtpifchlpakajjaaGreat
open Go.RowKit
set_option linter.unusedVariables false
set_option linter.unusedSimpArgs false
set_option maxRecDepth 100000

theorem idx_none {l : List UInt8} {c : UInt8} (h : c ∉ l) : Lib.indexByte l c = -1 := by
  induction l with
  | nil => rfl
  | cons b l ih =>
    have h1 : b ≠ c := fun e => h (by simp [e])
    have h2 := ih (fun hm => h (List.mem_cons_of_mem _ hm))
    unfold Lib.indexByte
    simp [h1, h2]
theorem idxb_any (s : ByteArray) (c : Int) (w : World) : Calls Tryz.prog 146 #[.string s, .int .u8 c] w fun e w' => e = .returned (.int .i64 (Lib.indexByte s.data.toList c.toNat.toUInt8)) ∧ w = w' :=
  (Tryz.strings_IndexByte s c w).mono fun _ _ ⟨a, b⟩ => ⟨a, b.symm⟩
theorem acc_no {n : Int} (h0 : 0 ≤ n) (h1 : n ≤ 255) (h3 : n ≠ 39) (h4 : n ≠ 94) (h5 : n ≠ 95) : Lib.indexByte (⟨#[95, 94, 39]⟩ : ByteArray).data.toList n.toNat.toUInt8 = -1 := by
  obtain ⟨m, rfl⟩ := Int.eq_ofNat_of_zero_le h0
  refine idx_none fun h => ?_
  have e : ∀ k : Nat, k < 256 → m.toUInt8 = k.toUInt8 → m = k := fun k hk e => by
    have := congrArg UInt8.toNat e
    simp at this
    omega
  have h : m.toUInt8 ∈ [(95 : Nat).toUInt8, (94 : Nat).toUInt8, (39 : Nat).toUInt8] := h
  simp only [List.mem_cons, List.not_mem_nil, or_false] at h
  rcases h with h | h | h
  · have := e 95 (by omega) h; omega
  · have := e 94 (by omega) h; omega
  · have := e 39 (by omega) h; omega
set_option maxHeartbeats 1000000 in
theorem ismark_any (n : Int) (w : World) (h0 : 0 ≤ n) (h1 : n ≤ 255) : Calls Tryz.prog 150 #[.int .u8 n] w fun e w' => e = .returned (.bool (mkI n)) ∧ w = w' := by
  rcases mk_cases h0 h1 with rfl | rfl | rfl | ⟨a, b⟩ | ⟨a, b⟩ | ⟨a, b⟩ | ⟨a, b, c, d⟩ | a
  · have HP := Lib.hid (show mkI 39 = true by decide)
    have HX := Lib.hid (show Lib.indexByte (⟨#[95, 94, 39]⟩ : ByteArray).data.toList (39 : Int).toNat.toUInt8 = 2 by decide)
    go_enter Tryz.func150, Tryz.ntmps150
    go_wp2_with fail
    refine (idxb_any _ _ _).mono ?_
    rintro e w' ⟨rfl, rfl⟩
    rw [HX.out]
    go_wp2_with fail
    go_ret
    exact ⟨ret_bool HP.out.symm, rfl⟩
  · have HP := Lib.hid (show mkI 94 = true by decide)
    have HX := Lib.hid (show Lib.indexByte (⟨#[95, 94, 39]⟩ : ByteArray).data.toList (94 : Int).toNat.toUInt8 = 1 by decide)
    go_enter Tryz.func150, Tryz.ntmps150
    go_wp2_with fail
    refine (idxb_any _ _ _).mono ?_
    rintro e w' ⟨rfl, rfl⟩
    rw [HX.out]
    go_wp2_with fail
    go_ret
    exact ⟨ret_bool HP.out.symm, rfl⟩
  · have HP := Lib.hid (show mkI 95 = true by decide)
    have HX := Lib.hid (show Lib.indexByte (⟨#[95, 94, 39]⟩ : ByteArray).data.toList (95 : Int).toNat.toUInt8 = 0 by decide)
    go_enter Tryz.func150, Tryz.ntmps150
    go_wp2_with fail
    refine (idxb_any _ _ _).mono ?_
    rintro e w' ⟨rfl, rfl⟩
    rw [HX.out]
    go_wp2_with fail
    go_ret
    exact ⟨ret_bool HP.out.symm, rfl⟩
  · have HP := Lib.hid (mk_yes (n := n) (.inl ⟨a, b⟩))
    go_enter Tryz.func150, Tryz.ntmps150
    go_wp2
    go_ret
    exact ⟨ret_bool HP.out.symm, rfl⟩
  · have HP := Lib.hid (mk_yes (n := n) (.inr ⟨a, b⟩))
    go_enter Tryz.func150, Tryz.ntmps150
    go_wp2
    go_ret
    exact ⟨ret_bool HP.out.symm, rfl⟩
  · have HP := Lib.hid (mk_no (n := n) (by omega) (by omega) (by omega) (by omega) (by omega))
    have HX := Lib.hid (acc_no (n := n) h0 h1 (by omega) (by omega) (by omega))
    clear b
    go_enter Tryz.func150, Tryz.ntmps150
    go_wp2_with fail
    refine (idxb_any _ _ _).mono ?_
    rintro e w' ⟨rfl, rfl⟩
    rw [HX.out]
    go_wp2_with fail
    go_ret
    exact ⟨ret_bool HP.out.symm, rfl⟩
  · have HP := Lib.hid (mk_no (n := n) (by omega) (by omega) (by omega) (by omega) (by omega))
    have HX := Lib.hid (acc_no (n := n) h0 h1 (by omega) (by omega) (by omega))
    clear c d
    go_enter Tryz.func150, Tryz.ntmps150
    go_wp2_with fail
    refine (idxb_any _ _ _).mono ?_
    rintro e w' ⟨rfl, rfl⟩
    rw [HX.out]
    go_wp2_with fail
    go_ret
    exact ⟨ret_bool (by rw [HP.out]; simp; omega), rfl⟩
  · have HP := Lib.hid (mk_no (n := n) (by omega) (by omega) (by omega) (by omega) (by omega))
    have HX := Lib.hid (acc_no (n := n) h0 h1 (by omega) (by omega) (by omega))
    go_enter Tryz.func150, Tryz.ntmps150
    go_wp2_with fail
    refine (idxb_any _ _ _).mono ?_
    rintro e w' ⟨rfl, rfl⟩
    rw [HX.out]
    go_wp2_with fail
    go_ret
    exact ⟨ret_bool (by rw [HP.out]; simp; omega), rfl⟩
set_option maxHeartbeats 1000000 in
theorem only_any (s : ByteArray) (w : World) (hs : s.size ≤ 140737488355328) : Calls Tryz.prog 144 #[.string s] w fun e w' => e = .returned (.bool (s.data.toList.all isMk)) ∧ w = w' := by
  go_enter Tryz.func144, Tryz.ntmps144
  go_wp2
  go_loopw [3] (fun i wr => ∃ k : Nat, k ≤ s.size ∧ i = .int .i64 k ∧ (s.data.toList.take k).all isMk = true ∧ w = wr) (fun i _ => s.size - (intOf i).toNat)
  case atStart => exact ⟨0, Nat.zero_le _, rfl, rfl, rfl⟩
  case round =>
    obtain ⟨k, hk, rfl, hall, rfl⟩ := hrel
    have HA := Lib.hid hall
    clear hall
    by_cases hlt : k < s.size
    · obtain ⟨hb0, hb1⟩ := mk_bd s k hlt
      cases hm : mkI (s[k].toNat : Int) with
      | true =>
        have HM := Lib.hid hm
        have HN := Lib.hid (all_step hlt HA.out hm)
        clear hm
        go_wp2_with fail
        refine (ismark_any _ _ hb0 hb1).mono ?_
        rintro e w' ⟨rfl, rfl⟩
        rw [HM.out]
        go_wp2_with fail
        go_roundw
        case rel => exact ⟨k + 1, by omega, by go_num, HN.out, trivial⟩
        case measure => simp [intOf]; omega
      | false =>
        have HM := Lib.hid hm
        have HN := Lib.hid (all_not hlt hm)
        clear hm
        go_wp2_with fail
        refine (ismark_any _ _ hb0 hb1).mono ?_
        rintro e w' ⟨rfl, rfl⟩
        rw [HM.out]
        go_wp2_with fail
        go_ret
        exact ⟨ret_bool HN.out.symm, rfl⟩
    · have HE := Lib.hid (show s.data.toList.all isMk = true by have := HA.out; rwa [takeAll (by omega)] at this)
      go_wp2
      go_ret
      exact ⟨ret_bool HE.out.symm, rfl⟩
set_option maxHeartbeats 2000000 in
theorem valid_any (x : Snd) (w : World) (hx : x.t.length ≤ 140737488355328) : Calls Tryz.prog 131 #[.agg #[.int .i64 x.k, .int .i64 x.q, .string (bs x.t)]] w fun e w' => e = .returned (.int .i64 (vS x)) ∧ Below w.heap.size w w' := by
  have hz : (bs x.t).size = x.t.length := rfl
  obtain ⟨m, hm⟩ : ∃ m, x.t.length = m := ⟨_, rfl⟩
  rw [hm] at hz hx
  obtain ⟨c0, c1, c2⟩ := box_cells w x
  by_cases a : x.k < 1
  · have HV := Lib.hid (vS_inv (x := x) (.inl a))
    clear c1 c2 hm
    go_enter Tryz.func131, Tryz.ntmps131
    go_wp2
    go_ret
    exact ⟨sym_int HV.out, bnew _ _⟩
  · by_cases b : 9 < x.k
    · have HV := Lib.hid (vS_inv (x := x) (.inr b))
      clear c1 c2 hm
      go_enter Tryz.func131, Tryz.ntmps131
      go_wp2
      go_ret
      exact ⟨sym_int HV.out, bnew _ _⟩
    · have hk : ¬ (x.k < 1 ∨ 9 < x.k) := by omega
      cases hq : qOk x.k x.q with
      | false =>
        have HV := Lib.hid (vS_range hk hq)
        have HQ := Lib.hid hq
        clear hk hq hm c1 c2
        go_enter Tryz.func131, Tryz.ntmps131
        go_wp2_with fail
        refine (hasq_any x _).mono ?_
        rintro e w1 ⟨rfl, hb1⟩
        rw [HQ.out]
        have HB := Lib.hid (btwo (bnew _ _) hb1)
        clear hb1
        go_wp2_with fail
        go_ret
        exact ⟨sym_int HV.out, HB.out⟩
      | true =>
        have HQ := Lib.hid hq
        by_cases h0 : m = 0
        · have HV := Lib.hid (vS_empty hk hq (by omega))
          obtain ⟨s1, s2⟩ := bs_empty (x := x) (by omega)
          clear hk hq hm
          go_enter Tryz.func131, Tryz.ntmps131
          go_wp2_with fail
          refine (hasq_any x _).mono ?_
          rintro e w1 ⟨rfl, hb1⟩
          rw [HQ.out]
          have HB := Lib.hid (btwo (bnew _ _) hb1)
          have d2 := (hb1.cell (p := ⟨w.heap.size, 2, none⟩) (by simp)).trans c2
          have hl : w.heap.size < w1.heap.size := by have := hb1.size; simp at this; omega
          clear hb1
          go_wp2_with fail
          go_ret
          exact ⟨sym_int HV.out, HB.out⟩
        · obtain ⟨s1, s2⟩ := bs_full (x := x) (by omega)
          by_cases h8 : 8 < m
          · have HV := Lib.hid (vS_large hk hq (by omega))
            clear hk hq hm
            go_enter Tryz.func131, Tryz.ntmps131
            go_wp2_with fail
            refine (hasq_any x _).mono ?_
            rintro e w1 ⟨rfl, hb1⟩
            rw [HQ.out]
            have HB := Lib.hid (btwo (bnew _ _) hb1)
            have d2 := (hb1.cell (p := ⟨w.heap.size, 2, none⟩) (by simp)).trans c2
            have hl : w.heap.size < w1.heap.size := by have := hb1.size; simp at this; omega
            clear hb1
            go_wp2_with fail
            go_ret
            exact ⟨sym_int HV.out, HB.out⟩
          · cases hmk : (bs x.t).data.toList.all isMk with
            | true =>
              have HV := Lib.hid (vS_ok hk hq (by omega) (by omega) hmk)
              have HM := Lib.hid hmk
              clear hk hq hm hmk
              go_enter Tryz.func131, Tryz.ntmps131
              go_wp2_with fail
              refine (hasq_any x _).mono ?_
              rintro e w1 ⟨rfl, hb1⟩
              rw [HQ.out]
              have HB := Lib.hid (btwo (bnew _ _) hb1)
              have d2 := (hb1.cell (p := ⟨w.heap.size, 2, none⟩) (by simp)).trans c2
              have hl : w.heap.size < w1.heap.size := by have := hb1.size; simp at this; omega
              clear hb1
              go_wp2_with fail
              refine (only_any _ _ (by omega)).mono ?_
              rintro e w2 ⟨rfl, rfl⟩
              rw [HM.out]
              go_wp2_with fail
              go_ret
              exact ⟨sym_int HV.out, HB.out⟩
            | false =>
              have HV := Lib.hid (vS_syn hk hq (by omega) (by omega) hmk)
              have HM := Lib.hid hmk
              clear hk hq hm hmk
              go_enter Tryz.func131, Tryz.ntmps131
              go_wp2_with fail
              refine (hasq_any x _).mono ?_
              rintro e w1 ⟨rfl, hb1⟩
              rw [HQ.out]
              have HB := Lib.hid (btwo (bnew _ _) hb1)
              have d2 := (hb1.cell (p := ⟨w.heap.size, 2, none⟩) (by simp)).trans c2
              have hl : w.heap.size < w1.heap.size := by have := hb1.size; simp at this; omega
              clear hb1
              go_wp2_with fail
              refine (only_any _ _ (by omega)).mono ?_
              rintro e w2 ⟨rfl, rfl⟩
              rw [HM.out]
              go_wp2_with fail
              go_ret
              exact ⟨sym_int HV.out, HB.out⟩
end Go.Proofs.YtpifchlpakajjaaGreat
