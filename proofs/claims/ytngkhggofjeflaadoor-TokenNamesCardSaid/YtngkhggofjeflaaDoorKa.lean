/- Contracts of the small functions of both sides: bytes, runs of bytes, names, quotes. -/
import Derived.Test.YtngkhggofjeflaaDoorRows
import Derived.Test.YtngkhggofjeflaaDoorKMathB
import Derived.Test.YtngkhggofjeflaaDoorShelf
import Derived.WalkKit
import Derived.WalkSpells
import Derived.WalkLawsBesides
import Derived.IntWalk
import Derived.Lib.Hide
import Derived.Outline
namespace Go.Proofs.YtngkhggofjeflaaDoor
open Go.RowKit
set_option linter.unusedVariables false

set_option maxHeartbeats 400000 in
theorem small_any (n : Int) (w : World) (h0 : 0 ≤ n) (h1 : n ≤ 255) :
    Calls Tryd.prog 61 #[.int .u8 n] w fun e w' => e = .returned (.bool (smI n)) ∧ w = w' := by
  by_cases a : 97 ≤ n
  · by_cases b : n ≤ 122
    · have HP := Lib.hid (show smI n = true by simp [smI, a, b])
      go_enter Tryd.func61, Tryd.ntmps61
      go_wp2
      go_ret
      exact ⟨ret_bool (by rw [HP.out]), rfl⟩
    · have HP := Lib.hid (show smI n = false by simp [smI]; omega)
      go_enter Tryd.func61, Tryd.ntmps61
      go_wp2
      go_ret
      exact ⟨ret_bool (by rw [HP.out]), rfl⟩
  · have HP := Lib.hid (show smI n = false by simp [smI]; omega)
    go_enter Tryd.func61, Tryd.ntmps61
    go_wp2
    go_ret
    exact ⟨ret_bool (by rw [HP.out]), rfl⟩

set_option maxHeartbeats 400000 in
theorem digit_any (n : Int) (w : World) (h0 : 0 ≤ n) (h1 : n ≤ 255) :
    Calls Tryd.prog 63 #[.int .u8 n] w fun e w' => e = .returned (.bool (dgI n)) ∧ w = w' := by
  by_cases a : 48 ≤ n
  · by_cases b : n ≤ 57
    · have HP := Lib.hid (show dgI n = true by simp [dgI, a, b])
      go_enter Tryd.func63, Tryd.ntmps63
      go_wp2
      go_ret
      exact ⟨ret_bool (by rw [HP.out]), rfl⟩
    · have HP := Lib.hid (show dgI n = false by simp [dgI]; omega)
      go_enter Tryd.func63, Tryd.ntmps63
      go_wp2
      go_ret
      exact ⟨ret_bool (by rw [HP.out]), rfl⟩
  · have HP := Lib.hid (show dgI n = false by simp [dgI]; omega)
    go_enter Tryd.func63, Tryd.ntmps63
    go_wp2
    go_ret
    exact ⟨ret_bool (by rw [HP.out]), rfl⟩

set_option maxHeartbeats 400000 in
theorem rsmall_any (n : Int) (w : World) (h0 : 0 ≤ n) (h1 : n ≤ 255) :
    Calls Tryd.prog 74 #[.int .u8 n] w fun e w' => e = .returned (.bool (smI n)) ∧ w = w' := by
  by_cases a : 97 ≤ n
  · by_cases b : n ≤ 122
    · have HP := Lib.hid (show smI n = true by simp [smI, a, b])
      go_enter Tryd.func74, Tryd.ntmps74
      go_wp2
      go_ret
      exact ⟨ret_bool (by rw [HP.out]), rfl⟩
    · have HP := Lib.hid (show smI n = false by simp [smI]; omega)
      go_enter Tryd.func74, Tryd.ntmps74
      go_wp2
      go_ret
      exact ⟨ret_bool (by rw [HP.out]), rfl⟩
  · have HP := Lib.hid (show smI n = false by simp [smI]; omega)
    go_enter Tryd.func74, Tryd.ntmps74
    go_wp2
    go_ret
    exact ⟨ret_bool (by rw [HP.out]), rfl⟩

set_option maxHeartbeats 400000 in
theorem rdigit_any (n : Int) (w : World) (h0 : 0 ≤ n) (h1 : n ≤ 255) :
    Calls Tryd.prog 72 #[.int .u8 n] w fun e w' => e = .returned (.bool (dgI n)) ∧ w = w' := by
  by_cases a : 48 ≤ n
  · by_cases b : n ≤ 57
    · have HP := Lib.hid (show dgI n = true by simp [dgI, a, b])
      go_enter Tryd.func72, Tryd.ntmps72
      go_wp2
      go_ret
      exact ⟨ret_bool (by rw [HP.out]), rfl⟩
    · have HP := Lib.hid (show dgI n = false by simp [dgI]; omega)
      go_enter Tryd.func72, Tryd.ntmps72
      go_wp2
      go_ret
      exact ⟨ret_bool (by rw [HP.out]), rfl⟩
  · have HP := Lib.hid (show dgI n = false by simp [dgI]; omega)
    go_enter Tryd.func72, Tryd.ntmps72
    go_wp2
    go_ret
    exact ⟨ret_bool (by rw [HP.out]), rfl⟩

set_option maxHeartbeats 400000 in
theorem quot_any (n : Int) (w : World) (h0 : 0 ≤ n) (h1 : n ≤ 255) :
    Calls Tryd.prog 75 #[.int .u8 n] w fun e w' => e = .returned (.bool (quI n)) ∧ w = w' := by
  by_cases a : 32 ≤ n
  · by_cases b : n ≤ 126
    · by_cases c : n = 34
      · subst c
        go_enter Tryd.func75, Tryd.ntmps75
        go_wp2
        go_ret
        exact ⟨rfl, rfl⟩
      · have HP := Lib.hid (show quI n = true by simp [quI, a, b, c])
        have c1 : (n == 34) = false := by simpa using c
        have c2 : (n != 34) = true := by simpa using c
        have HC := Lib.hid c2
        clear c
        go_enter Tryd.func75, Tryd.ntmps75
        go_wp2
        go_ret
        exact ⟨ret_bool (by rw [HP.out]; try exact HC.out), rfl⟩
    · have HP := Lib.hid (show quI n = false by simp [quI]; omega)
      go_enter Tryd.func75, Tryd.ntmps75
      go_wp2
      go_ret
      exact ⟨ret_bool (by rw [HP.out]), rfl⟩
  · have HP := Lib.hid (show quI n = false by simp [quI]; omega)
    go_enter Tryd.func75, Tryd.ntmps75
    go_wp2
    go_ret
    exact ⟨ret_bool (by rw [HP.out]), rfl⟩

set_option maxHeartbeats 400000 in
theorem rquot_any (n : Int) (w : World) (h0 : 0 ≤ n) (h1 : n ≤ 255) :
    Calls Tryd.prog 51 #[.int .u8 n] w fun e w' => e = .returned (.bool (quI n)) ∧ w = w' := by
  by_cases a : 32 ≤ n
  · by_cases b : n ≤ 126
    · by_cases c : n = 34
      · subst c
        go_enter Tryd.func51, Tryd.ntmps51
        go_wp2
        go_ret
        exact ⟨rfl, rfl⟩
      · have HP := Lib.hid (show quI n = true by simp [quI, a, b, c])
        have c1 : (n == 34) = false := by simpa using c
        have c2 : (n != 34) = true := by simpa using c
        have HC := Lib.hid c2
        clear c
        go_enter Tryd.func51, Tryd.ntmps51
        go_wp2
        go_ret
        exact ⟨ret_bool (by rw [HP.out]; try exact HC.out), rfl⟩
    · have HP := Lib.hid (show quI n = false by simp [quI]; omega)
      go_enter Tryd.func51, Tryd.ntmps51
      go_wp2
      go_ret
      exact ⟨ret_bool (by rw [HP.out]), rfl⟩
  · have HP := Lib.hid (show quI n = false by simp [quI]; omega)
    go_enter Tryd.func51, Tryd.ntmps51
    go_wp2
    go_ret
    exact ⟨ret_bool (by rw [HP.out]), rfl⟩

set_option maxHeartbeats 400000 in
theorem named_any (n : Int) (w : World) (h0 : 0 ≤ n) (h1 : n ≤ 255) :
    Calls Tryd.prog 73 #[.int .u8 n] w fun e w' => e = .returned (.bool (nmI n)) ∧ w = w' := by
  cases a : smI n with
  | true =>
    have HA := Lib.hid a
    have HP := Lib.hid (show nmI n = true by unfold nmI; rw [a]; rfl)
    clear a
    go_enter Tryd.func73, Tryd.ntmps73
    go_wp2_with fail
    refine (small_any _ _ (by omega) (by omega)).mono ?_
    rintro e w' ⟨rfl, rfl⟩
    rw [HA.out]
    go_wp2_with fail
    go_ret
    exact ⟨ret_bool (by rw [HP.out]), rfl⟩
  | false =>
    have HA := Lib.hid a
    have HP := Lib.hid (show nmI n = dgI n by unfold nmI; rw [a]; rfl)
    clear a
    go_enter Tryd.func73, Tryd.ntmps73
    go_wp2_with fail
    refine (small_any _ _ (by omega) (by omega)).mono ?_
    rintro e w' ⟨rfl, rfl⟩
    rw [HA.out]
    go_wp2_with fail
    refine (digit_any _ _ (by omega) (by omega)).mono ?_
    rintro e w' ⟨rfl, rfl⟩
    go_wp2_with fail
    go_ret
    exact ⟨ret_bool (by rw [HP.out]), rfl⟩

theorem idx_none {l : List UInt8} {c : UInt8} (h : c ∉ l) : Lib.indexByte l c = -1 := by
  induction l with
  | nil => rfl
  | cons b l ih =>
    have h1 : b ≠ c := fun e => h (by simp [e])
    have h2 := ih (fun hm => h (List.mem_cons_of_mem _ hm))
    unfold Lib.indexByte
    simp [h1, h2]
theorem idx_some {l : List UInt8} {c : UInt8} (h : c ∈ l) : 0 ≤ Lib.indexByte l c := by
  induction l with
  | nil => cases h
  | cons b l ih =>
    unfold Lib.indexByte
    by_cases h1 : b = c
    · simp [h1]
    · have h2 := ih (by rcases List.mem_cons.1 h with e | e; exact absurd e.symm h1; exact e)
      rw [if_neg (by simpa using h1), if_neg (by simp; omega)]; omega
theorem idxb_any (s : ByteArray) (c : Int) (w : World) : Calls Tryd.prog 60 #[.string s, .int .u8 c] w fun e w' => e = .returned (.int .i64 (Lib.indexByte s.data.toList c.toNat.toUInt8)) ∧ w = w' :=
  (Tryd.strings_IndexByte s c w).mono fun _ _ ⟨a, b⟩ => ⟨a, b.symm⟩
theorem sg_idx (n : Int) : sgI n = decide (0 ≤ Lib.indexByte signL n.toNat.toUInt8) := by
  unfold sgI isSg
  rw [Bool.eq_iff_iff, List.contains_iff_mem, decide_eq_true_eq]
  constructor
  · exact idx_some
  · intro h
    rcases Classical.em (n.toNat.toUInt8 ∈ signL) with h1 | h1
    · exact h1
    · rw [idx_none h1] at h; omega
set_option maxHeartbeats 400000 in
theorem sign_any (n : Int) (w : World) (h0 : 0 ≤ n) (h1 : n ≤ 255) :
    Calls Tryd.prog 66 #[.int .u8 n] w fun e w' => e = .returned (.bool (sgI n)) ∧ w = w' := by
  obtain ⟨x, hx⟩ : ∃ x, x = Lib.indexByte signL n.toNat.toUInt8 := ⟨_, rfl⟩
  have HS := Lib.hid (show sgI n = decide (0 ≤ x) by rw [hx, sg_idx])
  have HX := Lib.hid (show Lib.indexByte (⟨#[123, 125, 40, 41, 91, 93, 47, 59, 58, 126, 64, 61, 94, 44, 46, 124, 43, 42, 60, 62, 45]⟩ : ByteArray).data.toList n.toNat.toUInt8 = x by rw [hx]; rfl)
  clear hx
  go_enter Tryd.func66, Tryd.ntmps66
  go_wp2_with fail
  refine (idxb_any _ _ _).mono ?_
  rintro e w' ⟨rfl, rfl⟩
  rw [HX.out]
  go_wp2_with fail
  go_ret
  exact ⟨ret_bool (by rw [HS.out]), rfl⟩

def SG : ByteArray := ⟨#[123, 125, 40, 41, 91, 93, 47, 59, 58, 126, 64, 61, 94, 44, 46, 124, 43, 42, 60, 62, 45]⟩
theorem SG_at {k : Nat} (h : k < 21) : (SG[k]'h) = signL[k]'h := rfl
theorem sg_yes {k : Nat} {n : Int} (h : k < 21) (hq : (((SG[k]'h).toNat : Int) == n) = true) : sgI n = true := by
  have e : ((SG[k]'h).toNat : Int) = n := by simpa using hq
  rw [← e, sg_int, SG_at h]
  unfold isSg
  exact List.contains_iff_mem.2 (List.getElem_mem h)
theorem sg_not {n : Int} (hn : ∀ j, (hj : j < 21) → ((SG[j]'hj).toNat : Int) ≠ n) (h0 : 0 ≤ n) (h1 : n ≤ 255) : sgI n = false := by
  unfold sgI isSg
  rw [Bool.eq_false_iff]
  intro h
  have hm := List.contains_iff_mem.1 h
  obtain ⟨j, hj, e⟩ := List.mem_iff_getElem.1 hm
  have hj' : j < 21 := hj
  apply hn j hj'
  have e2 : (SG[j]'hj').toNat = (n.toNat.toUInt8).toNat := congrArg UInt8.toNat ((SG_at hj').trans e)
  rw [e2]
  simp
  omega
set_option maxHeartbeats 800000 in
theorem rsign_any (n : Int) (w : World) (h0 : 0 ≤ n) (h1 : n ≤ 255) :
    Calls Tryd.prog 68 #[.int .u8 n] w fun e w' => e = .returned (.bool (sgI n)) ∧ w = w' := by
  go_enter Tryd.func68, Tryd.ntmps68
  go_wp2
  go_loop [3] (fun i => ∃ k : Nat, k ≤ 21 ∧ i = .int .i64 k ∧ ∀ j, (hj : j < 21) → j < k → ((SG[j]'hj).toNat : Int) ≠ n) (fun i => 21 - (intOf i).toNat)
  case atStart => exact ⟨0, Nat.zero_le _, rfl, fun j _ hj => by omega⟩
  case round =>
    obtain ⟨k, hk, rfl, hno⟩ := hrel
    have HNO := Lib.hid hno
    clear hno
    by_cases hlt : k < 21
    · cases hq : ((((⟨#[123, 125, 40, 41, 91, 93, 47, 59, 58, 126, 64, 61, 94, 44, 46, 124, 43, 42, 60, 62, 45]⟩ : ByteArray)[k]'hlt).toNat : Int) == n) with
      | true =>
        have HQ := Lib.hid (sg_yes hlt hq)
        go_wp2
        go_ret
        exact ⟨ret_bool (by rw [HQ.out]), rfl⟩
      | false =>
        have HN := Lib.hid (show ∀ j, (hj : j < 21) → j < k + 1 → ((SG[j]'hj).toNat : Int) ≠ n from fun j hj h => by
          by_cases e : j = k
          · subst e; intro e2; simp at hq; exact hq e2
          · exact HNO.out j hj (by omega))
        go_wp2
        go_round
        case rel => exact ⟨k + 1, by omega, by go_num, HN.out⟩
        case measure => simp [intOf]; omega
    · have HQ := Lib.hid (sg_not (fun j hj => HNO.out j hj (by omega)) h0 h1)
      go_wp2
      go_ret
      exact ⟨ret_bool (by rw [HQ.out]), rfl⟩
end Go.Proofs.YtngkhggofjeflaaDoor
