/- Contracts of both sides: runs of digits and of bytes that may stand in quotes, names, line feeds. -/
import Derived.Test.YtngkhggofjeflaaDoorKa
namespace Go.Proofs.YtngkhggofjeflaaDoor
open Go.RowKit
set_option linter.unusedVariables false

theorem run_stop {p : UInt8 → Bool} {s : ByteArray} {k : Nat} (hk : k < s.size) (h : (s.data.toList.take k).all p = true) (h1 : p s[k] = false) : runL p s.data.toList = k := by
  have e : s.data.toList = s.data.toList.take k ++ s.data.toList.drop k := (List.take_append_drop _ _).symm
  rw [e, runL_cat h, dropS hk, runL, if_neg (by simp [h1]), List.length_take, sizeB]
  omega
theorem run_end {p : UInt8 → Bool} {s : ByteArray} {k : Nat} (hk : s.size ≤ k) (h : (s.data.toList.take k).all p = true) : runL p s.data.toList = s.size := by
  rw [takeAll hk] at h
  rw [runL_all h, sizeB]
theorem run_step {p : UInt8 → Bool} {s : ByteArray} {k : Nat} (hk : k < s.size) (h : (s.data.toList.take k).all p = true) (h1 : p s[k] = true) : (s.data.toList.take (k + 1)).all p = true := by
  rw [takeS hk, List.all_append, h]; simp [h1]

set_option maxHeartbeats 400000 in
theorem dsize_any (s : ByteArray) (w : World) (hs : s.size ≤ maxLen) :
    Calls Tryd.prog 45 #[.string s] w fun e w' => e = .returned (.int .i64 (runL isDg s.data.toList : Nat)) ∧ w = w' := by
  unfold maxLen at hs
  go_enter Tryd.func45, Tryd.ntmps45
  go_wp2
  go_loop [3] (fun i => ∃ k : Nat, k ≤ s.size ∧ i = .int .i64 k ∧ (s.data.toList.take k).all isDg = true) (fun i => s.size - (intOf i).toNat)
  case atStart => exact ⟨0, Nat.zero_le _, rfl, rfl⟩
  case round =>
    obtain ⟨k, hk, rfl, hok⟩ := hrel
    have HOK := Lib.hid hok
    clear hok
    by_cases hlt : k < s.size
    · have hb : (s[k].toNat : Int) ≤ 255 := by have := s[k].toNat_lt; omega
      cases hi : dgI (s[k].toNat : Int) with
      | true =>
        have HI := Lib.hid hi
        clear hi
        go_wp2_with (go_at_call 63; refine (digit_any _ _ (by omega) (by omega)).mono ?_; rintro e w' ⟨rfl, rfl⟩; rw [HI.out])
        go_round
        case rel => exact ⟨k + 1, by omega, by go_num, run_step hlt HOK.out HI.out⟩
        case measure => simp [intOf]; omega
      | false =>
        have HI := Lib.hid hi
        clear hi
        go_wp2_with (go_at_call 63; refine (digit_any _ _ (by omega) (by omega)).mono ?_; rintro e w' ⟨rfl, rfl⟩; rw [HI.out])
        go_ret
        exact ⟨ret_int (by rw [run_stop hlt HOK.out HI.out]), rfl⟩
    · go_wp2
      go_ret
      exact ⟨ret_int (by rw [run_end (by omega) HOK.out]; omega), rfl⟩

set_option maxHeartbeats 400000 in
theorem qsize_any (s : ByteArray) (w : World) (hs : s.size ≤ maxLen) :
    Calls Tryd.prog 50 #[.string s] w fun e w' => e = .returned (.int .i64 (runL isQu s.data.toList : Nat)) ∧ w = w' := by
  unfold maxLen at hs
  go_enter Tryd.func50, Tryd.ntmps50
  go_wp2
  go_loop [3] (fun i => ∃ k : Nat, k ≤ s.size ∧ i = .int .i64 k ∧ (s.data.toList.take k).all isQu = true) (fun i => s.size - (intOf i).toNat)
  case atStart => exact ⟨0, Nat.zero_le _, rfl, rfl⟩
  case round =>
    obtain ⟨k, hk, rfl, hok⟩ := hrel
    have HOK := Lib.hid hok
    clear hok
    by_cases hlt : k < s.size
    · have hb : (s[k].toNat : Int) ≤ 255 := by have := s[k].toNat_lt; omega
      cases hi : quI (s[k].toNat : Int) with
      | true =>
        have HI := Lib.hid hi
        clear hi
        go_wp2_with (go_at_call 75; refine (quot_any _ _ (by omega) (by omega)).mono ?_; rintro e w' ⟨rfl, rfl⟩; rw [HI.out])
        go_round
        case rel => exact ⟨k + 1, by omega, by go_num, run_step hlt HOK.out HI.out⟩
        case measure => simp [intOf]; omega
      | false =>
        have HI := Lib.hid hi
        clear hi
        go_wp2_with (go_at_call 75; refine (quot_any _ _ (by omega) (by omega)).mono ?_; rintro e w' ⟨rfl, rfl⟩; rw [HI.out])
        go_ret
        exact ⟨ret_int (by rw [run_stop hlt HOK.out HI.out]), rfl⟩
    · go_wp2
      go_ret
      exact ⟨ret_int (by rw [run_end (by omega) HOK.out]; omega), rfl⟩

set_option maxHeartbeats 400000 in
theorem rdigits_any (s : ByteArray) (w : World) (hs : s.size ≤ maxLen) :
    Calls Tryd.prog 47 #[.string s] w fun e w' => e = .returned (.int .i64 (runL isDg s.data.toList : Nat)) ∧ w = w' := by
  unfold maxLen at hs
  go_enter Tryd.func47, Tryd.ntmps47
  go_wp2
  go_loop [3] (fun i => ∃ k : Nat, k ≤ s.size ∧ i = .int .i64 k ∧ (s.data.toList.take k).all isDg = true) (fun i => s.size - (intOf i).toNat)
  case atStart => exact ⟨0, Nat.zero_le _, rfl, rfl⟩
  case round =>
    obtain ⟨k, hk, rfl, hok⟩ := hrel
    have HOK := Lib.hid hok
    clear hok
    by_cases hlt : k < s.size
    · have hb : (s[k].toNat : Int) ≤ 255 := by have := s[k].toNat_lt; omega
      cases hi : dgI (s[k].toNat : Int) with
      | true =>
        have HI := Lib.hid hi
        clear hi
        go_wp2_with (go_at_call 72; refine (rdigit_any _ _ (by omega) (by omega)).mono ?_; rintro e w' ⟨rfl, rfl⟩; rw [HI.out])
        go_round
        case rel => exact ⟨k + 1, by omega, by go_num, run_step hlt HOK.out HI.out⟩
        case measure => simp [intOf]; omega
      | false =>
        have HI := Lib.hid hi
        clear hi
        go_wp2_with (go_at_call 72; refine (rdigit_any _ _ (by omega) (by omega)).mono ?_; rintro e w' ⟨rfl, rfl⟩; rw [HI.out])
        go_ret
        exact ⟨ret_int (by rw [run_stop hlt HOK.out HI.out]), rfl⟩
    · go_wp2
      go_ret
      exact ⟨ret_int (by rw [run_end (by omega) HOK.out]; omega), rfl⟩

theorem feeds_step {s : ByteArray} {k : Nat} (hk : k < s.size) : feeds (s.data.toList.take (k + 1)) = feeds (s.data.toList.take k) + (if (s[k].toNat : Int) = 10 then 1 else 0) := by
  unfold feeds
  rw [takeS hk, List.count_append]
  by_cases h : (s[k].toNat : Int) = 10
  · have e : s[k] = 10 := byte_is (n := 10) (by omega) (by decide)
    rw [if_pos h, e]; rfl
  · rw [if_neg h]
    have : s[k] ≠ 10 := byte_ne (n := 10) h (by decide)
    simp [this]
theorem feeds_le {s : ByteArray} {k : Nat} : feeds (s.data.toList.take k) ≤ k := by
  unfold feeds
  have := List.count_le_length (a := (10 : UInt8)) (l := s.data.toList.take k)
  rw [List.length_take] at this; omega
set_option maxHeartbeats 400000 in
theorem rfeeds_any (s : ByteArray) (w : World) (hs : s.size ≤ maxLen) :
    Calls Tryd.prog 36 #[.string s] w fun e w' => e = .returned (.int .i64 (feeds s.data.toList : Nat)) ∧ w = w' := by
  unfold maxLen at hs
  go_enter Tryd.func36, Tryd.ntmps36
  go_wp2
  go_loop [3, 4] (fun v i => ∃ k n : Nat, k ≤ s.size ∧ n ≤ k ∧ i = .int .i64 k ∧ v = .int .i64 n ∧ feeds (s.data.toList.take k) = n) (fun _ i => s.size - (intOf i).toNat)
  case atStart => exact ⟨0, 0, Nat.zero_le _, Nat.le_refl _, rfl, rfl, rfl⟩
  case round =>
    obtain ⟨k, n, hk, hn, rfl, rfl, hok⟩ := hrel
    have HOK := Lib.hid hok
    clear hok
    by_cases hlt : k < s.size
    · by_cases h10 : (s[k].toNat : Int) = 10
      · have HN := Lib.hid (show feeds (s.data.toList.take (k + 1)) = n + 1 by rw [feeds_step hlt, if_pos h10, HOK.out])
        go_wp2
        go_round
        case rel => exact ⟨k + 1, n + 1, by omega, by omega, by go_num, by go_num, HN.out⟩
        case measure => simp [intOf]; omega
      · have HN := Lib.hid (show feeds (s.data.toList.take (k + 1)) = n by rw [feeds_step hlt, if_neg h10, HOK.out]; rfl)
        go_wp2
        go_round
        case rel => exact ⟨k + 1, n, by omega, by omega, by go_num, rfl, HN.out⟩
        case measure => simp [intOf]; omega
    · go_wp2
      go_ret
      exact ⟨ret_int (by rw [← HOK.out, takeAll (by omega)]), rfl⟩

/-- Behind k bytes of a name that begins: nothing is lost. -/
def NmAt (s : ByteArray) (k : Nat) : Prop := nmL s.data.toList = k + nmR (s.data.toList.drop k)
theorem nm_start {s : ByteArray} (h : 0 < s.size) (h1 : isSm s[0] = true) : NmAt s 1 := by
  unfold NmAt
  have := dropS h
  rw [List.drop_zero] at this
  rw [this, nmL_cons, if_pos h1, List.drop_succ_cons, List.drop_zero]; omega
theorem nm_none {s : ByteArray} (h : 0 < s.size) (h1 : isSm s[0] = false) : nmL s.data.toList = 0 := by
  have := dropS h
  rw [List.drop_zero] at this
  rw [this, nmL_cons, if_neg (by simp [h1])]
theorem nm_step {s : ByteArray} {k : Nat} (hk : k < s.size) (h : NmAt s k) (h1 : isNm s[k] = true) : NmAt s (k + 1) := by
  unfold NmAt at *
  rw [h, dropS hk, nmR_nm _ h1]; omega
theorem nm_step2 {s : ByteArray} {k : Nat} (hk : k + 1 < s.size) (h : NmAt s k) (h1 : (s[k].toNat : Int) = 45) (h2 : isNm s[k + 1] = true) : NmAt s (k + 2) := by
  unfold NmAt at *
  have e : s[k] = 45 := byte_is (n := 45) (by omega) (by decide)
  rw [h, dropS (show k < s.size by omega), dropS hk, e, nmR_minus _ h2]
  show k + (nmR (s.data.toList.drop (k + 1 + 1)) + 2) = k + 2 + nmR (s.data.toList.drop (k + 1 + 1))
  omega
theorem nm_stop {s : ByteArray} {k : Nat} (hk : k < s.size) (h : NmAt s k) (h1 : isNm s[k] = false) (h2 : (s[k].toNat : Int) ≠ 45) : nmL s.data.toList = k := by
  unfold NmAt at h
  rw [h, dropS hk, nmR_none h1 (Or.inl (byte_ne (n := 45) h2 (by decide)))]; omega
theorem nm_stop2 {s : ByteArray} {k : Nat} (hk : k < s.size) (h : NmAt s k) (h1 : isNm s[k] = false) (h2 : s.size ≤ k + 1) : nmL s.data.toList = k := by
  unfold NmAt at h
  rw [h, dropS hk, nmR_none h1 (Or.inr (by rw [dropE h2]; simp))]; omega
theorem nm_stop3 {s : ByteArray} {k : Nat} (hk : k + 1 < s.size) (h : NmAt s k) (h1 : isNm s[k] = false) (h2 : isNm s[k + 1] = false) : nmL s.data.toList = k := by
  unfold NmAt at h
  rw [h, dropS (show k < s.size by omega), nmR_none h1 (Or.inr (by rw [dropS hk]; intro d hd; simp at hd; subst hd; exact h2))]; omega
theorem nm_end {s : ByteArray} {k : Nat} (hk : s.size ≤ k) (h : NmAt s k) : nmL s.data.toList = k := by
  unfold NmAt at h
  rw [h, dropE hk]; rfl
theorem nm_empty {s : ByteArray} (h : s.size = 0) : nmL s.data.toList = 0 := by
  rw [List.eq_nil_of_length_eq_zero (show s.data.toList.length = 0 from h)]; rfl
theorem empty_list {s : ByteArray} (h : s.size = 0) : s.toList = [] ∧ s.toList.isEmpty = true := by
  have h1 : s.toList = [] := by
    rw [ByteArray.toList_eq]
    exact List.eq_nil_of_length_eq_zero h
  exact ⟨h1, by rw [h1]; rfl⟩
theorem full_list {s : ByteArray} (h : ¬ s.size = 0) : s.toList.isEmpty = false := by
  rw [ByteArray.toList_eq]
  cases e : s.data.toList with
  | nil => exact absurd (show s.data.toList.length = 0 by rw [e]; rfl) h
  | cons => rfl

set_option maxHeartbeats 1000000 in
theorem nsize_any (s : ByteArray) (w : World) (hs : s.size ≤ maxLen) :
    Calls Tryd.prog 48 #[.string s] w fun e w' => e = .returned (.int .i64 (nmL s.data.toList : Nat)) ∧ w = w' := by
  unfold maxLen at hs
  by_cases h0 : s.size = 0
  · have HE := Lib.hid (nm_empty h0)
    have hx := (empty_list h0).2
    clear h0
    go_enter Tryd.func48, Tryd.ntmps48
    go_wp2
    go_ret
    exact ⟨ret_int (by rw [HE.out]; rfl), rfl⟩
  · have hx := full_list h0
    have hlt0 : 0 < s.size := by omega
    have hb0 : (s[0].toNat : Int) ≤ 255 := by have := s[0].toNat_lt; omega
    cases hsm : smI (s[0].toNat : Int) with
    | false =>
      have HSM := Lib.hid hsm
      have HE := Lib.hid (nm_none hlt0 hsm)
      clear h0 hsm
      go_enter Tryd.func48, Tryd.ntmps48
      go_wp2_with (go_at_call 61; refine (small_any _ _ (by omega) (by omega)).mono ?_; rintro e w' ⟨rfl, rfl⟩; rw [HSM.out])
      go_ret
      exact ⟨ret_int (by rw [HE.out]; rfl), rfl⟩
    | true =>
      have HSM := Lib.hid hsm
      have HS := Lib.hid (nm_start hlt0 hsm)
      clear h0 hsm
      go_enter Tryd.func48, Tryd.ntmps48
      go_wp2_with (go_at_call 61; refine (small_any _ _ (by omega) (by omega)).mono ?_; rintro e w' ⟨rfl, rfl⟩; rw [HSM.out])
      go_loop [3] (fun i => ∃ k : Nat, k ≤ s.size ∧ i = .int .i64 k ∧ NmAt s k) (fun i => s.size - (intOf i).toNat)
      case atStart => exact ⟨1, by omega, rfl, HS.out⟩
      case round =>
        obtain ⟨k, hk, rfl, hat⟩ := hrel
        have HAT := Lib.hid hat
        clear hat
        by_cases hlt : k < s.size
        · have hb : (s[k].toNat : Int) ≤ 255 := by have := s[k].toNat_lt; omega
          cases hi : nmI (s[k].toNat : Int) with
          | true =>
            have HI := Lib.hid hi
            clear hi
            go_wp2_with (go_at_call 73; refine (named_any _ _ (by omega) (by omega)).mono ?_; rintro e w' ⟨rfl, rfl⟩; rw [HI.out])
            go_round
            case rel => exact ⟨k + 1, by omega, by go_num, nm_step hlt HAT.out HI.out⟩
            case measure => simp [intOf]; omega
          | false =>
            have HI := Lib.hid hi
            clear hi
            by_cases h45 : (s[k].toNat : Int) = 45
            · by_cases hl2 : k + 1 < s.size
              · have hb2 : (s[k + 1].toNat : Int) ≤ 255 := by have := s[k + 1].toNat_lt; omega
                cases hi2 : nmI (s[k + 1].toNat : Int) with
                | true =>
                  have HI2 := Lib.hid hi2
                  have H45 := Lib.hid h45
                  clear hi2
                  go_wp2_with fail
                  refine (named_any _ _ (by omega) (by omega)).mono ?_
                  rintro e w' ⟨rfl, rfl⟩
                  rw [show nmI 45 = false from rfl]
                  go_wp2_with fail
                  refine (named_any _ _ (by omega) (by omega)).mono ?_
                  rintro e w' ⟨rfl, rfl⟩
                  rw [HI2.out]
                  go_wp2_with fail
                  go_round
                  case rel => exact ⟨k + 2, by omega, by go_num, nm_step2 hl2 HAT.out H45.out HI2.out⟩
                  case measure => simp [intOf]; omega
                | false =>
                  have HI2 := Lib.hid hi2
                  clear hi2
                  go_wp2_with fail
                  refine (named_any _ _ (by omega) (by omega)).mono ?_
                  rintro e w' ⟨rfl, rfl⟩
                  rw [show nmI 45 = false from rfl]
                  go_wp2_with fail
                  refine (named_any _ _ (by omega) (by omega)).mono ?_
                  rintro e w' ⟨rfl, rfl⟩
                  rw [HI2.out]
                  go_wp2_with fail
                  go_ret
                  exact ⟨ret_int (by rw [nm_stop3 hl2 HAT.out HI.out HI2.out]), rfl⟩
              · go_wp2_with fail
                refine (named_any _ _ (by omega) (by omega)).mono ?_
                rintro e w' ⟨rfl, rfl⟩
                rw [show nmI 45 = false from rfl]
                go_wp2_with fail
                go_ret
                exact ⟨ret_int (by rw [nm_stop2 hlt HAT.out HI.out (by omega)]), rfl⟩
            · have H45 := Lib.hid h45
              go_wp2_with fail
              refine (named_any _ _ (by omega) (by omega)).mono ?_
              rintro e w' ⟨rfl, rfl⟩
              rw [HI.out]
              go_wp2_with fail
              go_ret
              exact ⟨ret_int (by rw [nm_stop hlt HAT.out HI.out H45.out]), rfl⟩
        · go_wp2
          go_ret
          exact ⟨ret_int (by rw [nm_end (by omega) HAT.out]), rfl⟩

theorem nm_no {n : Int} (h : nmI n = false) : smI n = false ∧ dgI n = false := by
  unfold nmI at h
  simpa using h
theorem nm_yes {n : Int} (h : nmI n = true) : smI n = true ∨ (smI n = false ∧ dgI n = true) := by
  unfold nmI at h
  cases hs : smI n with
  | true => exact .inl rfl
  | false => rw [hs] at h; exact .inr ⟨rfl, by simpa using h⟩
set_option maxHeartbeats 1000000 in
theorem rname_any (s : ByteArray) (w : World) (hs : s.size ≤ maxLen) :
    Calls Tryd.prog 49 #[.string s] w fun e w' => e = .returned (.int .i64 (nmL s.data.toList : Nat)) ∧ w = w' := by
  unfold maxLen at hs
  by_cases h0 : s.size = 0
  · have HE := Lib.hid (nm_empty h0)
    have hx := (empty_list h0).2
    clear h0
    go_enter Tryd.func49, Tryd.ntmps49
    go_wp2
    go_ret
    exact ⟨ret_int (by rw [HE.out]; rfl), rfl⟩
  · have hx := full_list h0
    have hlt0 : 0 < s.size := by omega
    have hb0 : (s[0].toNat : Int) ≤ 255 := by have := s[0].toNat_lt; omega
    cases hsm : smI (s[0].toNat : Int) with
    | false =>
      have HSM := Lib.hid hsm
      have HE := Lib.hid (nm_none hlt0 hsm)
      clear h0 hsm
      go_enter Tryd.func49, Tryd.ntmps49
      go_wp2_with (go_at_call 74; refine (rsmall_any _ _ (by omega) (by omega)).mono ?_; rintro e w' ⟨rfl, rfl⟩; rw [HSM.out])
      go_ret
      exact ⟨ret_int (by rw [HE.out]; rfl), rfl⟩
    | true =>
      have HSM := Lib.hid hsm
      have HS := Lib.hid (nm_start hlt0 hsm)
      clear h0 hsm
      go_enter Tryd.func49, Tryd.ntmps49
      go_wp2_with (go_at_call 74; refine (rsmall_any _ _ (by omega) (by omega)).mono ?_; rintro e w' ⟨rfl, rfl⟩; rw [HSM.out])
      go_loop [3] (fun i => ∃ k : Nat, k ≤ s.size ∧ i = .int .i64 k ∧ NmAt s k) (fun i => s.size - (intOf i).toNat)
      case atStart => exact ⟨1, by omega, rfl, HS.out⟩
      case round =>
        obtain ⟨k, hk, rfl, hat⟩ := hrel
        have HAT := Lib.hid hat
        clear hat
        by_cases hlt : k < s.size
        · have hb : (s[k].toNat : Int) ≤ 255 := by have := s[k].toNat_lt; omega
          cases hi : nmI (s[k].toNat : Int) with
          | true =>
            have HNM := Lib.hid hi
            rcases nm_yes hi with h1 | ⟨h1, h2⟩
            · have H1 := Lib.hid h1
              clear hi h1
              go_wp2_with fail
              refine (rsmall_any _ _ (by omega) (by omega)).mono ?_
              rintro e w' ⟨rfl, rfl⟩
              rw [H1.out]
              go_wp2_with fail
              go_round
              case rel => exact ⟨k + 1, by omega, by go_num, nm_step hlt HAT.out HNM.out⟩
              case measure => simp [intOf]; omega
            · have H1 := Lib.hid h1
              have H2 := Lib.hid h2
              clear hi h1 h2
              go_wp2_with fail
              refine (rsmall_any _ _ (by omega) (by omega)).mono ?_
              rintro e w' ⟨rfl, rfl⟩
              rw [H1.out]
              go_wp2_with fail
              refine (rdigit_any _ _ (by omega) (by omega)).mono ?_
              rintro e w' ⟨rfl, rfl⟩
              rw [H2.out]
              go_wp2_with fail
              go_round
              case rel => exact ⟨k + 1, by omega, by go_num, nm_step hlt HAT.out HNM.out⟩
              case measure => simp [intOf]; omega
          | false =>
            have HNM := Lib.hid hi
            have HI := Lib.hid (nm_no hi)
            clear hi
            by_cases h45 : (s[k].toNat : Int) = 45
            · by_cases hl2 : k + 1 < s.size
              · have hb2 : (s[k + 1].toNat : Int) ≤ 255 := by have := s[k + 1].toNat_lt; omega
                have e1 : (((k : Int) + 1) == (s.size : Int)) = false := by simp; omega
                have H45 := Lib.hid h45
                cases hi2 : nmI (s[k + 1].toNat : Int) with
                | true =>
                  have HI2 := Lib.hid hi2
                  rcases nm_yes hi2 with h1 | ⟨h1, h2⟩
                  · have H1 := Lib.hid h1
                    clear hi2 h1
                    go_wp2_with fail
                    refine (rsmall_any _ _ (by omega) (by omega)).mono ?_
                    rintro e w' ⟨rfl, rfl⟩
                    rw [show smI 45 = false from rfl]
                    go_wp2_with fail
                    refine (rdigit_any _ _ (by omega) (by omega)).mono ?_
                    rintro e w' ⟨rfl, rfl⟩
                    rw [show dgI 45 = false from rfl]
                    go_wp2_with fail
                    refine (rsmall_any _ _ (by omega) (by omega)).mono ?_
                    rintro e w' ⟨rfl, rfl⟩
                    rw [H1.out]
                    go_wp2_with fail
                    go_round
                    case rel => exact ⟨k + 2, by omega, by go_num, nm_step2 hl2 HAT.out H45.out HI2.out⟩
                    case measure => simp [intOf]; omega
                  · have H1 := Lib.hid h1
                    have H2 := Lib.hid h2
                    clear hi2 h1 h2
                    go_wp2_with fail
                    refine (rsmall_any _ _ (by omega) (by omega)).mono ?_
                    rintro e w' ⟨rfl, rfl⟩
                    rw [show smI 45 = false from rfl]
                    go_wp2_with fail
                    refine (rdigit_any _ _ (by omega) (by omega)).mono ?_
                    rintro e w' ⟨rfl, rfl⟩
                    rw [show dgI 45 = false from rfl]
                    go_wp2_with fail
                    refine (rsmall_any _ _ (by omega) (by omega)).mono ?_
                    rintro e w' ⟨rfl, rfl⟩
                    rw [H1.out]
                    go_wp2_with fail
                    refine (rdigit_any _ _ (by omega) (by omega)).mono ?_
                    rintro e w' ⟨rfl, rfl⟩
                    rw [H2.out]
                    go_wp2_with fail
                    go_round
                    case rel => exact ⟨k + 2, by omega, by go_num, nm_step2 hl2 HAT.out H45.out HI2.out⟩
                    case measure => simp [intOf]; omega
                | false =>
                  have HI2 := Lib.hid hi2
                  have HI3 := Lib.hid (nm_no hi2)
                  clear hi2
                  go_wp2_with fail
                  refine (rsmall_any _ _ (by omega) (by omega)).mono ?_
                  rintro e w' ⟨rfl, rfl⟩
                  rw [show smI 45 = false from rfl]
                  go_wp2_with fail
                  refine (rdigit_any _ _ (by omega) (by omega)).mono ?_
                  rintro e w' ⟨rfl, rfl⟩
                  rw [show dgI 45 = false from rfl]
                  go_wp2_with fail
                  refine (rsmall_any _ _ (by omega) (by omega)).mono ?_
                  rintro e w' ⟨rfl, rfl⟩
                  rw [HI3.out.1]
                  go_wp2_with fail
                  refine (rdigit_any _ _ (by omega) (by omega)).mono ?_
                  rintro e w' ⟨rfl, rfl⟩
                  rw [HI3.out.2]
                  go_wp2_with fail
                  go_ret
                  exact ⟨ret_int (by rw [nm_stop3 hl2 HAT.out HNM.out HI2.out]), rfl⟩
              · have e1 : (((k : Int) + 1) == (s.size : Int)) = true := by simp; omega
                go_wp2_with fail
                refine (rsmall_any _ _ (by omega) (by omega)).mono ?_
                rintro e w' ⟨rfl, rfl⟩
                rw [show smI 45 = false from rfl]
                go_wp2_with fail
                refine (rdigit_any _ _ (by omega) (by omega)).mono ?_
                rintro e w' ⟨rfl, rfl⟩
                rw [show dgI 45 = false from rfl]
                go_wp2_with fail
                go_ret
                exact ⟨ret_int (by rw [nm_stop2 hlt HAT.out HNM.out (by omega)]), rfl⟩
            · have H45 := Lib.hid h45
              have e1 : ((s[k].toNat : Int) != 45) = true := by simpa using h45
              go_wp2_with fail
              refine (rsmall_any _ _ (by omega) (by omega)).mono ?_
              rintro e w' ⟨rfl, rfl⟩
              rw [HI.out.1]
              go_wp2_with fail
              refine (rdigit_any _ _ (by omega) (by omega)).mono ?_
              rintro e w' ⟨rfl, rfl⟩
              rw [HI.out.2]
              go_wp2_with fail
              go_ret
              exact ⟨ret_int (by rw [nm_stop hlt HAT.out HNM.out H45.out]), rfl⟩
        · go_wp2
          go_ret
          exact ⟨ret_int (by rw [nm_end (by omega) HAT.out]), rfl⟩
end Go.Proofs.YtngkhggofjeflaaDoor
