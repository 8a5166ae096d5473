/- Contracts: firstToken, and the reference's inQuotes and next. -/
import Derived.Test.YtngkhggofjeflaaDoorKe
namespace Go.Proofs.YtngkhggofjeflaaDoor
open Go.RowKit
set_option linter.unusedVariables false

theorem nx_eta (l : List UInt8) : nxV l = ((nxV l).1, (nxV l).2.1, (nxV l).2.2.1, (nxV l).2.2.2) := rfl
/-- The first byte alone. -/
theorem one_size {s : ByteArray} (h : 0 < s.size) : (s.extract 0 1).size = 1 := by rw [ByteArray.size_extract]; omega
theorem one_list {s : ByteArray} (h : 0 < s.size) : (s.extract 0 1).data.toList = [s[0]] := by
  rw [ext_take]
  have := takeS (s := s) (k := 0) h
  simpa using this
theorem one_is {s : ByteArray} (h : 0 < s.size) (h1 : s[0] = 34) : s.extract 0 1 = (⟨#[34]⟩ : ByteArray) := by
  have := of_list (one_list h)
  rw [this, h1]
theorem one_no {s : ByteArray} (h : 0 < s.size) (h1 : s[0] ≠ 34) : ((s.extract 0 1).toList == [34]) = false := by
  rw [ByteArray.toList_eq, one_list h]
  simpa using h1
theorem one_not {s : ByteArray} (h : 0 < s.size) (h1 : s[0] ≠ 34) : s.extract 0 1 ≠ (⟨#[34]⟩ : ByteArray) := by
  intro e
  have := one_list h
  rw [e] at this
  simp at this
  exact h1 this.symm

set_option maxHeartbeats 2000000 in
theorem first_any (s : ByteArray) (w : World) (hs : s.size ≤ maxLen) (h0 : 0 < s.size) :
    Calls Tryd.prog 34 #[.string s] w (NxPost s.data.toList w) := by
  have hb0 : (s[0].toNat : Int) ≤ 255 := by have := s[0].toNat_lt; omega
  have hK := Lib.hid (keptT_new w)
  cases hsm : smI (s[0].toNat : Int) with
  | true =>
    have HSM := Lib.hid hsm
    clear hsm
    go_enter Tryd.func34, Tryd.ntmps34
    go_wp2_with fail
    refine (small_any _ _ (by omega) (by omega)).mono ?_
    rintro e w' ⟨rfl, rfl⟩
    rw [HSM.out]
    go_wp2_with fail
    refine (fname_any _ _ hs h0 HSM.out).mono ?_
    rintro e w1 ⟨rfl, hb1⟩
    have HB1 := Lib.hid (btwo (bnew _ _) hb1)
    obtain ⟨k0, k1, k2, k3, k4, k5, k6⟩ := (hK.out.go hb1).facts
    clear hb1
    go_wp2_with fail
    exact bodyPost_ret (v := .tuple #[.agg #[.int .i64 (nxV s.data.toList).1, .string (bs (nxV s.data.toList).2.1), .int .i64 0], .int .i64 ((nxV s.data.toList).2.2.1 : Nat), .int .i64 (nxV s.data.toList).2.2.2]) (by simp [results, Tryd.results34, go_sem, k0, k1, k2]) rfl ⟨rfl, bset3 HB1.out _ _ _⟩
  | false =>
    have HSM := Lib.hid hsm
    clear hsm
    cases hdg : dgI (s[0].toNat : Int) with
    | true =>
      have HDG := Lib.hid hdg
      clear hdg
      go_enter Tryd.func34, Tryd.ntmps34
      go_wp2_with fail
      refine (small_any _ _ (by omega) (by omega)).mono ?_
      rintro e w' ⟨rfl, rfl⟩
      rw [HSM.out]
      go_wp2_with fail
      refine (digit_any _ _ (by omega) (by omega)).mono ?_
      rintro e w' ⟨rfl, rfl⟩
      rw [HDG.out]
      go_wp2_with fail
      refine (fnum_any _ _ hs h0 HSM.out HDG.out).mono ?_
      rintro e w1 ⟨rfl, hb1⟩
      have HB1 := Lib.hid (btwo (bnew _ _) hb1)
      obtain ⟨k0, k1, k2, k3, k4, k5, k6⟩ := (hK.out.go hb1).facts
      clear hb1
      go_wp2_with fail
      exact bodyPost_ret (v := .tuple #[.agg #[.int .i64 (nxV s.data.toList).1, .string (bs (nxV s.data.toList).2.1), .int .i64 0], .int .i64 ((nxV s.data.toList).2.2.1 : Nat), .int .i64 (nxV s.data.toList).2.2.2]) (by simp [results, Tryd.results34, go_sem, k0, k1, k2]) rfl ⟨rfl, bset3 HB1.out _ _ _⟩
    | false =>
      have HDG := Lib.hid hdg
      clear hdg
      by_cases h34 : s[0] = 34
      · have H34 := Lib.hid h34
        have hone := one_is h0 h34
        clear h34
        go_enter Tryd.func34, Tryd.ntmps34
        go_wp2_with fail
        refine (small_any _ _ (by omega) (by omega)).mono ?_
        rintro e w' ⟨rfl, rfl⟩
        rw [HSM.out]
        go_wp2_with fail
        refine (digit_any _ _ (by omega) (by omega)).mono ?_
        rintro e w' ⟨rfl, rfl⟩
        rw [HDG.out]
        go_wp2_with fail
        refine (fstr_any _ _ hs h0 H34.out).mono ?_
        rintro e w1 ⟨rfl, hb1⟩
        have HB1 := Lib.hid (btwo (bnew _ _) hb1)
        obtain ⟨k0, k1, k2, k3, k4, k5, k6⟩ := (hK.out.go hb1).facts
        clear hb1
        go_wp2_with fail
        exact bodyPost_ret (v := .tuple #[.agg #[.int .i64 (nxV s.data.toList).1, .string (bs (nxV s.data.toList).2.1), .int .i64 0], .int .i64 ((nxV s.data.toList).2.2.1 : Nat), .int .i64 (nxV s.data.toList).2.2.2]) (by simp [results, Tryd.results34, go_sem, k0, k1, k2]) rfl ⟨rfl, bset3 HB1.out _ _ _⟩
      · have H34 := Lib.hid h34
        have e1 : ((s.extract 0 1).toList == [34]) = false := one_no h0 h34
        clear h34
        cases hsg : sgI (s[0].toNat : Int) with
        | true =>
          have HSG := Lib.hid hsg
          have HE := Lib.hid (show nxV s.data.toList = ((4 : Int), [s[0]], (1 : Nat), (0 : Int)) by
            rw [split0 h0]; exact nx_sg HSM.out HDG.out H34.out (by rw [← sg_int]; exact hsg))
          have HT := Lib.hid (one_list h0)
          clear hsg
          go_enter Tryd.func34, Tryd.ntmps34
          go_wp2_with fail
          refine (small_any _ _ (by omega) (by omega)).mono ?_
          rintro e w' ⟨rfl, rfl⟩
          rw [HSM.out]
          go_wp2_with fail
          refine (digit_any _ _ (by omega) (by omega)).mono ?_
          rintro e w' ⟨rfl, rfl⟩
          rw [HDG.out]
          go_wp2_with fail
          refine (sign_any _ _ (by omega) (by omega)).mono ?_
          rintro e w' ⟨rfl, rfl⟩
          rw [HSG.out]
          go_wp2_with fail
          exact bodyPost_ret (v := .tuple #[.agg #[.int .i64 4, .string (s.extract 0 1), .int .i64 0], .int .i64 1, .int .i64 0]) (by simp [results, Tryd.results34, go_sem]) rfl (nx_post HE.out HT.out rfl (bnew _ _))
        | false =>
          have HSG := Lib.hid hsg
          have HE := Lib.hid (show nxV s.data.toList = (0, [], 0, 2) by
            rw [split0 h0]; exact nx_no HSM.out HDG.out H34.out (by rw [← sg_int]; exact hsg))
          clear hsg
          go_enter Tryd.func34, Tryd.ntmps34
          go_wp2_with fail
          refine (small_any _ _ (by omega) (by omega)).mono ?_
          rintro e w' ⟨rfl, rfl⟩
          rw [HSM.out]
          go_wp2_with fail
          refine (digit_any _ _ (by omega) (by omega)).mono ?_
          rintro e w' ⟨rfl, rfl⟩
          rw [HDG.out]
          go_wp2_with fail
          refine (sign_any _ _ (by omega) (by omega)).mono ?_
          rintro e w' ⟨rfl, rfl⟩
          rw [HSG.out]
          go_wp2_with fail
          exact bodyPost_ret (v := .tuple #[.agg #[.int .i64 0, .string ⟨#[]⟩, .int .i64 0], .int .i64 0, .int .i64 2]) (by simp [results, Tryd.results34, go_sem]) rfl (nx_post HE.out rfl rfl (bnew _ _))

def RunAt (p : UInt8 → Bool) (s : ByteArray) (a j : Nat) : Prop := a ≤ j ∧ ((s.data.toList.drop a).take (j - a)).all p = true
theorem runat_start (p : UInt8 → Bool) (s : ByteArray) (a : Nat) : RunAt p s a a := ⟨Nat.le_refl _, by rw [Nat.sub_self]; rfl⟩
theorem runat_step {p : UInt8 → Bool} {s : ByteArray} {a j : Nat} (h : RunAt p s a j) (hj : j < s.size) (h1 : p s[j] = true) : RunAt p s a (j + 1) := by
  have haj := h.1
  refine ⟨by omega, ?_⟩
  have e : j + 1 - a = (j - a) + 1 := by omega
  have hl : j - a < (s.data.toList.drop a).length := by rw [List.length_drop, sizeB]; omega
  rw [e, List.take_succ_eq_append_getElem hl, List.all_append, h.2]
  have : (s.data.toList.drop a)[j - a] = s[j] := by
    rw [List.getElem_drop, getB]
    congr 1
    omega
  rw [this]
  simp [h1]
theorem runat_end {p : UInt8 → Bool} {s : ByteArray} {a j : Nat} (h : RunAt p s a j) (hj : j ≤ s.size) (h1 : (hlt : j < s.size) → p s[j] = false) : runL p (s.data.toList.drop a) = j - a := by
  have haj := h.1
  have e : s.data.toList.drop a = (s.data.toList.drop a).take (j - a) ++ s.data.toList.drop j := by
    conv => lhs; rw [← List.take_append_drop (j - a) (s.data.toList.drop a)]
    rw [List.drop_drop, show a + (j - a) = j by omega]
  rw [e, runL_cat h.2, List.length_take, List.length_drop, sizeB]
  have : runL p (s.data.toList.drop j) = 0 := by
    by_cases hlt : j < s.size
    · rw [dropS hlt, runL, if_neg (by simp [h1 hlt])]
    · rw [dropE (by omega)]; rfl
  rw [this]
  omega
theorem head_drop {s : ByteArray} {k : Nat} (h : 1 ≤ k) (hk : k < s.size) : ((s.data.toList.drop 1).drop (k - 1)).head? = some s[k] := by
  rw [List.drop_drop, show 1 + (k - 1) = k by omega, dropS hk]; rfl
theorem head_drop_none {s : ByteArray} {k : Nat} (h : 1 ≤ k) (hk : s.size ≤ k) : ((s.data.toList.drop 1).drop (k - 1)).head? = none := by
  rw [List.drop_drop, show 1 + (k - 1) = k by omega, dropE hk]; rfl
theorem ext_one (s : ByteArray) (k : Nat) : (s.extract 1 k).data.toList = (s.data.toList.drop 1).take (k - 1) := ext_mid s 1 k

set_option maxHeartbeats 2000000 in
theorem rinq_any (s : ByteArray) (w : World) (hs : s.size ≤ maxLen) (h0 : 0 < s.size) (h1 : s[0] = 34) :
    Calls Tryd.prog 67 #[.string s] w (NxPost s.data.toList w) := by
  unfold maxLen at hs
  have H1 := Lib.hid h1
  have HSP := Lib.hid (split0 h0)
  clear h1
  go_enter Tryd.func67, Tryd.ntmps67
  go_wp2
  go_loop [5] (fun i => ∃ k : Nat, 1 ≤ k ∧ k ≤ s.size ∧ i = .int .i64 k ∧ RunAt isQu s 1 k) (fun i => s.size - (intOf i).toNat)
  case atStart => exact ⟨1, Nat.le_refl _, h0, rfl, runat_start _ _ _⟩
  case round =>
    obtain ⟨k, hk1, hk, rfl, hat⟩ := hrel
    have HAT := Lib.hid hat
    clear hat
    by_cases hlt : k < s.size
    · have hb : (s[k].toNat : Int) ≤ 255 := by have := s[k].toNat_lt; omega
      have e0 : ((k : Int) == (s.size : Int)) = false := by simp; omega
      cases hi : quI (s[k].toNat : Int) with
      | true =>
        have HI := Lib.hid hi
        clear hi
        go_wp2_with (go_at_call 51; refine (rquot_any _ _ (by omega) (by omega)).mono ?_; rintro e w' ⟨rfl, rfl⟩; rw [HI.out])
        go_round
        case rel => exact ⟨k + 1, by omega, by omega, by go_num, runat_step HAT.out hlt HI.out⟩
        case measure => simp [intOf]; omega
      | false =>
        have HI := Lib.hid hi
        have HR := Lib.hid (runat_end HAT.out (by omega) (fun _ => hi))
        have HH := Lib.hid (head_drop hk1 hlt)
        clear hi
        by_cases h34 : (s[k].toNat : Int) = 34
        · have HH2 := Lib.hid (show ((s.data.toList.drop 1).drop (k - 1)).head? = some 34 by rw [HH.out, byte_is (n := 34) h34 (by decide)]; rfl)
          by_cases h60 : 60 < (k : Int) - 1
          · have HE := Lib.hid (show nxV s.data.toList = ((0 : Int), ([] : List UInt8), (0 : Nat), (3 : Int)) by rw [HSP.out]; exact nx_qu_big (n := k - 1) H1.out HR.out HH2.out (by omega))
            have HI34 := Lib.hid (show quI 34 = false from rfl)
            go_wp2_with (go_at_call 51; refine (rquot_any _ _ (by omega) (by omega)).mono ?_; rintro e w' ⟨rfl, rfl⟩; first | rw [HI34.out] | rw [HI.out])
            exact bodyPost_ret (v := .tuple #[.agg #[.int .i64 0, .string ⟨#[]⟩, .int .i64 0], .int .i64 0, .int .i64 3]) (by simp [results, Tryd.results67, go_sem]) rfl (nx_post HE.out rfl rfl (bnew _ _))
          · have HE := Lib.hid (show nxV s.data.toList = ((3 : Int), (s.data.toList.drop 1).take (k - 1), (k - 1 + 2 : Nat), (0 : Int)) by rw [HSP.out]; exact nx_qu (n := k - 1) H1.out HR.out HH2.out (by omega))
            have HI34 := Lib.hid (show quI 34 = false from rfl)
            have HT := Lib.hid (ext_one s k)
            go_wp2_with (go_at_call 51; refine (rquot_any _ _ (by omega) (by omega)).mono ?_; rintro e w' ⟨rfl, rfl⟩; first | rw [HI34.out] | rw [HI.out])
            exact bodyPost_ret (v := .tuple #[.agg #[.int .i64 3, .string (s.extract 1 k), .int .i64 0], .int .i64 ((k : Int) + 1), .int .i64 0]) (by simp [results, Tryd.results67, go_sem]) rfl (nx_post HE.out HT.out (by omega) (bnew _ _))
        · have HE := Lib.hid (show nxV s.data.toList = ((0 : Int), ([] : List UInt8), (0 : Nat), (2 : Int)) by
            rw [HSP.out]
            refine nx_qu_bad (n := k - 1) H1.out HR.out ?_
            rw [HH.out]
            intro e
            exact byte_ne (n := 34) h34 (by decide) (Option.some.inj e))
          have e34 : ((s[k].toNat : Int) != 34) = true := by simpa using h34
          go_wp2_with (go_at_call 51; refine (rquot_any _ _ (by omega) (by omega)).mono ?_; rintro e w' ⟨rfl, rfl⟩; rw [HI.out])
          exact bodyPost_ret (v := .tuple #[.agg #[.int .i64 0, .string ⟨#[]⟩, .int .i64 0], .int .i64 0, .int .i64 2]) (by simp [results, Tryd.results67, go_sem]) rfl (nx_post HE.out rfl rfl (bnew _ _))
    · have HR := Lib.hid (runat_end HAT.out (by omega) (fun h => absurd h hlt))
      have HE := Lib.hid (show nxV s.data.toList = ((0 : Int), ([] : List UInt8), (0 : Nat), (2 : Int)) by
        rw [HSP.out]
        refine nx_qu_bad (n := k - 1) H1.out HR.out ?_
        rw [head_drop_none hk1 (by omega)]; simp)
      have e0 : ((k : Int) == (s.size : Int)) = true := by simp; omega
      go_wp2
      exact bodyPost_ret (v := .tuple #[.agg #[.int .i64 0, .string ⟨#[]⟩, .int .i64 0], .int .i64 0, .int .i64 2]) (by simp [results, Tryd.results67, go_sem]) rfl (nx_post HE.out rfl rfl (bnew _ _))

set_option maxHeartbeats 2000000 in
theorem rnext_any (s : ByteArray) (w : World) (hs : s.size ≤ maxLen) (h0 : 0 < s.size) :
    Calls Tryd.prog 37 #[.string s] w (NxPost s.data.toList w) := by
  have hb0 : (s[0].toNat : Int) ≤ 255 := by have := s[0].toNat_lt; omega
  have hK := Lib.hid (keptT_new w)
  obtain ⟨n, hn⟩ : ∃ n, nmL s.data.toList = n := ⟨_, rfl⟩
  have HN := Lib.hid hn
  have hle : n ≤ s.size := by rw [← hn]; exact nmL_le _
  have HSP := Lib.hid (split0 h0)
  cases hsm : smI (s[0].toNat : Int) with
  | true =>
    have hpos : 0 < n := by rw [← hn, HSP.out, nmL_cons, if_pos (show isSm s[0] = true from hsm)]; omega
    by_cases h20 : 20 < n
    · have HE := Lib.hid (show nxV s.data.toList = ((0 : Int), ([] : List UInt8), (0 : Nat), (3 : Int)) by rw [HSP.out]; exact nx_nm_big (n := n) hsm (by rw [← HSP.out]; exact hn) h20)
      clear hn hsm
      go_enter Tryd.func37, Tryd.ntmps37
      go_wp2_with fail
      refine (rname_any _ _ hs).mono ?_
      rintro e w' ⟨rfl, rfl⟩
      rw [HN.out]
      go_wp2_with fail
      exact bodyPost_ret (v := .tuple #[.agg #[.int .i64 0, .string ⟨#[]⟩, .int .i64 0], .int .i64 0, .int .i64 3]) (by simp [results, Tryd.results37, go_sem]) rfl (nx_post HE.out rfl rfl (bnew _ _))
    · have HE := Lib.hid (show nxV s.data.toList = ((1 : Int), s.data.toList.take n, n, (0 : Int)) by rw [HSP.out]; exact nx_nm (n := n) hsm (by rw [← HSP.out]; exact hn) h20)
      have HT := Lib.hid (ext_take s n)
      clear hn hsm
      go_enter Tryd.func37, Tryd.ntmps37
      go_wp2_with fail
      refine (rname_any _ _ hs).mono ?_
      rintro e w' ⟨rfl, rfl⟩
      rw [HN.out]
      go_wp2_with fail
      exact bodyPost_ret (v := .tuple #[.agg #[.int .i64 1, .string (s.extract 0 n), .int .i64 0], .int .i64 (n : Int), .int .i64 0]) (by simp [results, Tryd.results37, go_sem]) rfl (nx_post HE.out HT.out rfl (bnew _ _))
  | false =>
    have hn0 : n = 0 := by rw [← hn]; exact nm_none h0 hsm
    subst hn0
    obtain ⟨m, hm⟩ : ∃ m, runL isDg s.data.toList = m := ⟨_, rfl⟩
    have HM := Lib.hid hm
    have hlem : m ≤ s.size := by rw [← hm]; exact runL_le _ _
    cases hdg : dgI (s[0].toNat : Int) with
    | true =>
      have hpos : 0 < m := by rw [← hm, HSP.out, runL, if_pos (show isDg s[0] = true from hdg)]; omega
      by_cases h6 : 6 < m
      · have HE := Lib.hid (show nxV s.data.toList = ((0 : Int), ([] : List UInt8), (0 : Nat), (3 : Int)) by rw [HSP.out]; exact nx_dg_big (n := m) hsm hdg (by rw [← HSP.out]; exact hm) h6)
        clear hn hsm hdg hm
        go_enter Tryd.func37, Tryd.ntmps37
        go_wp2_with fail
        refine (rname_any _ _ hs).mono ?_
        rintro e w' ⟨rfl, rfl⟩
        rw [HN.out]
        go_wp2_with fail
        refine (rdigits_any _ _ hs).mono ?_
        rintro e w' ⟨rfl, rfl⟩
        rw [HM.out]
        go_wp2_with fail
        exact bodyPost_ret (v := .tuple #[.agg #[.int .i64 0, .string ⟨#[]⟩, .int .i64 0], .int .i64 0, .int .i64 3]) (by simp [results, Tryd.results37, go_sem]) rfl (nx_post HE.out rfl rfl (bnew _ _))
      · by_cases h48 : (s[0].toNat : Int) = 48
        · have e48 : s[0] = 48 := byte_is (n := 48) h48 (by decide)
          by_cases h1 : 1 < m
          · have HE := Lib.hid (show nxV s.data.toList = ((0 : Int), ([] : List UInt8), (0 : Nat), (2 : Int)) by rw [HSP.out]; exact nx_dg_zero (n := m) hsm hdg (by rw [← HSP.out]; exact hm) h6 e48 h1)
            clear hn hsm hdg hm e48
            go_enter Tryd.func37, Tryd.ntmps37
            go_wp2_with fail
            refine (rname_any _ _ hs).mono ?_
            rintro e w' ⟨rfl, rfl⟩
            rw [HN.out]
            go_wp2_with fail
            refine (rdigits_any _ _ hs).mono ?_
            rintro e w' ⟨rfl, rfl⟩
            rw [HM.out]
            go_wp2_with fail
            exact bodyPost_ret (v := .tuple #[.agg #[.int .i64 0, .string ⟨#[]⟩, .int .i64 0], .int .i64 0, .int .i64 2]) (by simp [results, Tryd.results37, go_sem]) rfl (nx_post HE.out rfl rfl (bnew _ _))
          · have HE := Lib.hid (show nxV s.data.toList = ((2 : Int), s.data.toList.take m, m, (0 : Int)) by rw [HSP.out]; exact nx_dg (n := m) hsm hdg (by rw [← HSP.out]; exact hm) h6 (fun ⟨_, b⟩ => h1 b))
            have HT := Lib.hid (ext_take s m)
            clear hn hsm hdg hm e48
            go_enter Tryd.func37, Tryd.ntmps37
            go_wp2_with fail
            refine (rname_any _ _ hs).mono ?_
            rintro e w' ⟨rfl, rfl⟩
            rw [HN.out]
            go_wp2_with fail
            refine (rdigits_any _ _ hs).mono ?_
            rintro e w' ⟨rfl, rfl⟩
            rw [HM.out]
            go_wp2_with fail
            exact bodyPost_ret (v := .tuple #[.agg #[.int .i64 2, .string (s.extract 0 m), .int .i64 0], .int .i64 (m : Int), .int .i64 0]) (by simp [results, Tryd.results37, go_sem]) rfl (nx_post HE.out HT.out rfl (bnew _ _))
        · have HE := Lib.hid (show nxV s.data.toList = ((2 : Int), s.data.toList.take m, m, (0 : Int)) by rw [HSP.out]; exact nx_dg (n := m) hsm hdg (by rw [← HSP.out]; exact hm) h6 (fun ⟨a, _⟩ => byte_ne (n := 48) h48 (by decide) a))
          have HT := Lib.hid (ext_take s m)
          have e48 : ((s[0].toNat : Int) == 48) = false := by simpa using h48
          clear hn hsm hdg hm
          go_enter Tryd.func37, Tryd.ntmps37
          go_wp2_with fail
          refine (rname_any _ _ hs).mono ?_
          rintro e w' ⟨rfl, rfl⟩
          rw [HN.out]
          go_wp2_with fail
          refine (rdigits_any _ _ hs).mono ?_
          rintro e w' ⟨rfl, rfl⟩
          rw [HM.out]
          go_wp2_with fail
          exact bodyPost_ret (v := .tuple #[.agg #[.int .i64 2, .string (s.extract 0 m), .int .i64 0], .int .i64 (m : Int), .int .i64 0]) (by simp [results, Tryd.results37, go_sem]) rfl (nx_post HE.out HT.out rfl (bnew _ _))
    | false =>
      have hm0 : m = 0 := by rw [← hm, HSP.out, runL, if_neg (by rw [show isDg s[0] = false from hdg]; simp)]
      subst hm0
      have HSM := Lib.hid hsm
      have HDG := Lib.hid hdg
      by_cases h34 : (s[0].toNat : Int) = 34
      · have H34 := Lib.hid (show s[0] = 34 from byte_is (n := 34) h34 (by decide))
        clear hn hsm hdg hm
        go_enter Tryd.func37, Tryd.ntmps37
        go_wp2_with fail
        refine (rname_any _ _ hs).mono ?_
        rintro e w' ⟨rfl, rfl⟩
        rw [HN.out]
        go_wp2_with fail
        refine (rdigits_any _ _ hs).mono ?_
        rintro e w' ⟨rfl, rfl⟩
        rw [HM.out]
        go_wp2_with fail
        refine (rinq_any _ _ hs h0 H34.out).mono ?_
        rintro e w1 ⟨rfl, hb1⟩
        have HB1 := Lib.hid (btwo (bnew _ _) hb1)
        obtain ⟨k0, k1, k2, k3, k4, k5, k6⟩ := (hK.out.go hb1).facts
        clear hb1
        go_wp2_with fail
        exact bodyPost_ret (v := .tuple #[.agg #[.int .i64 (nxV s.data.toList).1, .string (bs (nxV s.data.toList).2.1), .int .i64 0], .int .i64 ((nxV s.data.toList).2.2.1 : Nat), .int .i64 (nxV s.data.toList).2.2.2]) (by simp [results, Tryd.results37, go_sem, k0, k1, k2]) rfl ⟨rfl, bset3 HB1.out _ _ _⟩
      · have H34 := Lib.hid (show s[0] ≠ 34 from byte_ne (n := 34) h34 (by decide))
        have e34 : ((s[0].toNat : Int) == 34) = false := by simpa using h34
        cases hsg : sgI (s[0].toNat : Int) with
        | true =>
          have HSG := Lib.hid hsg
          have HE := Lib.hid (show nxV s.data.toList = ((4 : Int), [s[0]], (1 : Nat), (0 : Int)) by
            rw [HSP.out]; exact nx_sg HSM.out HDG.out H34.out (by rw [← sg_int]; exact hsg))
          have HT := Lib.hid (one_list h0)
          clear hn hsm hdg hm hsg
          go_enter Tryd.func37, Tryd.ntmps37
          go_wp2_with fail
          refine (rname_any _ _ hs).mono ?_
          rintro e w' ⟨rfl, rfl⟩
          rw [HN.out]
          go_wp2_with fail
          refine (rdigits_any _ _ hs).mono ?_
          rintro e w' ⟨rfl, rfl⟩
          rw [HM.out]
          go_wp2_with fail
          refine (rsign_any _ _ (by omega) (by omega)).mono ?_
          rintro e w' ⟨rfl, rfl⟩
          rw [HSG.out]
          go_wp2_with fail
          exact bodyPost_ret (v := .tuple #[.agg #[.int .i64 4, .string (s.extract 0 1), .int .i64 0], .int .i64 1, .int .i64 0]) (by simp [results, Tryd.results37, go_sem]) rfl (nx_post HE.out HT.out rfl (bnew _ _))
        | false =>
          have HSG := Lib.hid hsg
          have HE := Lib.hid (show nxV s.data.toList = ((0 : Int), ([] : List UInt8), (0 : Nat), (2 : Int)) by
            rw [HSP.out]; exact nx_no HSM.out HDG.out H34.out (by rw [← sg_int]; exact hsg))
          clear hn hsm hdg hm hsg
          go_enter Tryd.func37, Tryd.ntmps37
          go_wp2_with fail
          refine (rname_any _ _ hs).mono ?_
          rintro e w' ⟨rfl, rfl⟩
          rw [HN.out]
          go_wp2_with fail
          refine (rdigits_any _ _ hs).mono ?_
          rintro e w' ⟨rfl, rfl⟩
          rw [HM.out]
          go_wp2_with fail
          refine (rsign_any _ _ (by omega) (by omega)).mono ?_
          rintro e w' ⟨rfl, rfl⟩
          rw [HSG.out]
          go_wp2_with fail
          exact bodyPost_ret (v := .tuple #[.agg #[.int .i64 0, .string ⟨#[]⟩, .int .i64 0], .int .i64 0, .int .i64 2]) (by simp [results, Tryd.results37, go_sem]) rfl (nx_post HE.out rfl rfl (bnew _ _))
end Go.Proofs.YtngkhggofjeflaaDoor
