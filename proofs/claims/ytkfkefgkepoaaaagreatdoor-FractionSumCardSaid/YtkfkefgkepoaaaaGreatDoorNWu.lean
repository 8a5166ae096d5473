/- Contracts of Add and Sub of the reference. -/
import Derived.Test.YtkfkefgkepoaaaaGreatDoorNWt
namespace Go.Proofs.YtkfkefgkepoaaaaGreatDoor
open Go.RowKit
set_option linter.unusedVariables false
set_option maxRecDepth 100000
set_option maxHeartbeats 1000000 in
theorem radd_bad1 (L M : List Int) (n c m d : Nat) (A B : Option Addr) (W : World) (hn : L.length = n) (hm : M.length = m) (hnc : n ≤ c) (hmd : m ≤ d) (hn63 : n ≤ maxLen) (hm63 : m ≤ maxLen) (hA : IntsIn W A L) (hB : IntsIn W B M) (h1 : vldB L = false) :
    Calls Tryz.prog 46 #[.agg #[.slice A n c], .agg #[.slice B m d]] W (NatPost (two L M (lim (val L + val M))) W) := by
  have HA := Lib.hid (hA.below (box3_below W (.slice A n c) (.slice B m d)))
  have HB := Lib.hid (hB.below (box3_below W (.slice A n c) (.slice B m d)))
  have HN := Lib.hid hn
  have HM := Lib.hid hm
  have H1 := Lib.hid h1
  clear hA hB hn hm h1
  go_enter Tryz.func46, Tryz.ntmps46
  go_wp2_with fail
  refine (rvalid_any L n c A _ HN.out hn63 HA.out).mono ?_
  rintro e w1 ⟨rfl, hb1⟩
  rw [H1.out]
  have HB1 := Lib.hid hb1
  obtain ⟨hc0, hc1, hc2, hf2, hs2, _, _⟩ := three hb1
  clear hb1
  go_wp2
  exact bodyPost_ret (v := .tuple #[.agg #[.slice none 0 0], .int .i64 1]) (by simp [results, Tryz.results46, go_sem, hc2]) rfl (nat_bad (two_no1 _ H1.out) HB1.out)
set_option maxHeartbeats 1000000 in
theorem radd_bad2 (L M : List Int) (n c m d : Nat) (A B : Option Addr) (W : World) (hn : L.length = n) (hm : M.length = m) (hnc : n ≤ c) (hmd : m ≤ d) (hn63 : n ≤ maxLen) (hm63 : m ≤ maxLen) (hA : IntsIn W A L) (hB : IntsIn W B M) (h1 : vldB L = true) (h2 : vldB M = false) :
    Calls Tryz.prog 46 #[.agg #[.slice A n c], .agg #[.slice B m d]] W (NatPost (two L M (lim (val L + val M))) W) := by
  have HA := Lib.hid (hA.below (box3_below W (.slice A n c) (.slice B m d)))
  have HB := Lib.hid (hB.below (box3_below W (.slice A n c) (.slice B m d)))
  have HN := Lib.hid hn
  have HM := Lib.hid hm
  have H1 := Lib.hid h1
  have H2 := Lib.hid h2
  clear hA hB hn hm h1 h2
  go_enter Tryz.func46, Tryz.ntmps46
  go_wp2_with fail
  refine (rvalid_any L n c A _ HN.out hn63 HA.out).mono ?_
  rintro e w1 ⟨rfl, hb1⟩
  rw [H1.out]
  have HB1 := Lib.hid hb1
  obtain ⟨hc0, hc1, hc2, hf2, hs2, _, _⟩ := three hb1
  clear hb1
  go_wp2_with fail
  refine (rvalid_any M m d B _ HM.out hm63 (HB.out.below HB1.out)).mono ?_
  rintro e w2 ⟨rfl, hb2⟩
  rw [H2.out]
  have HB2 := Lib.hid (box_go HB1.out hb2)
  clear hc0 hc1 hc2 hf2 hs2 hb2
  obtain ⟨hc0, hc1, hc2, hf2, hs2, _, _⟩ := three HB2.out
  go_wp2
  exact bodyPost_ret (v := .tuple #[.agg #[.slice none 0 0], .int .i64 1]) (by simp [results, Tryz.results46, go_sem, hc2]) rfl (nat_bad (two_no2 _ H2.out) HB2.out)
set_option maxHeartbeats 2000000 in
theorem radd_good (L M : List Int) (n c m d : Nat) (A B : Option Addr) (W : World) (hn : L.length = n) (hm : M.length = m) (hnc : n ≤ c) (hmd : m ≤ d) (hn63 : n ≤ maxLen) (hm63 : m ≤ maxLen) (hA : IntsIn W A L) (hB : IntsIn W B M) (h1 : vldB L = true) (h2 : vldB M = true) :
    Calls Tryz.prog 46 #[.agg #[.slice A n c], .agg #[.slice B m d]] W (NatPost (two L M (lim (val L + val M))) W) := by
  rw [two_ok _ h1 h2]
  obtain ⟨l1, d1, e1, p1, q1⟩ := vldB_true h1
  obtain ⟨l2, d2, e2, p2, q2⟩ := vldB_true h2
  have hn2 : n ≤ 200 := by omega
  have hm2 : m ≤ 200 := by omega
  have HA := Lib.hid (hA.below (box3_below W (.slice A n c) (.slice B m d)))
  have HB := Lib.hid (hB.below (box3_below W (.slice A n c) (.slice B m d)))
  have HN := Lib.hid hn
  have HM := Lib.hid hm
  have H1 := Lib.hid h1
  have H2 := Lib.hid h2
  have D1 := Lib.hid d1
  have D2 := Lib.hid d2
  have E1 := Lib.hid e1
  have E2 := Lib.hid e2
  clear hA hB hn hm h1 h2 d1 d2 e1 e2 q1 q2 l1 l2
  go_enter Tryz.func46, Tryz.ntmps46
  go_wp2_with fail
  refine (rvalid_any L n c A _ HN.out hn63 HA.out).mono ?_
  rintro e w1 ⟨rfl, hb1⟩
  rw [H1.out]
  have HB1 := Lib.hid hb1
  obtain ⟨hc0, hc1, hc2, hf2, hs2, _, _⟩ := three hb1
  clear hb1
  go_wp2_with fail
  refine (rvalid_any M m d B _ HM.out hm63 (HB.out.below HB1.out)).mono ?_
  rintro e w2 ⟨rfl, hb2⟩
  rw [H2.out]
  have HB2 := Lib.hid (box_go HB1.out hb2)
  clear hc0 hc1 hc2 hf2 hs2 hb2
  obtain ⟨hc0, hc1, hc2, hf2, hs2, _, _⟩ := three HB2.out
  go_wp2_with fail
  refine (rsum_any n c m d L M A B _ HN.out HM.out (by omega) (by omega) D1.out D2.out (HA.out.below HB2.out) (HB.out.below HB2.out)).mono ?_
  rintro e w3 ⟨A3, c3, rfl, hi3, hl3, hm3, hb3⟩
  obtain ⟨k, hk⟩ : ∃ k, k = (digs (val L + val M)).length := ⟨_, rfl⟩
  rw [← hk] at hl3 ⊢
  have HI3 := Lib.hid hi3
  have HK := Lib.hid hk
  have HB3 := Lib.hid (box_go HB2.out hb3)
  clear hc0 hc1 hc2 hf2 hs2 hb3 hi3 hk
  obtain ⟨hc0, hc1, hc2, hf2, hs2, _, _⟩ := three HB3.out
  go_wp2_with fail
  refine (within_any (val L + val M) k c3 A3 _ HK.out.symm hl3 hm3 HI3.out).mono ?_
  rintro e w4 ⟨A4, c4, rfl, hi4, hl4, hm4, hb4⟩
  have HB4 := Lib.hid (box_go HB3.out hb4)
  obtain ⟨k4, hk4⟩ : ∃ k, k = (digs (lim (val L + val M)).1).length := ⟨_, rfl⟩
  obtain ⟨x4, hx4⟩ : ∃ x, x = (lim (val L + val M)).2 := ⟨_, rfl⟩
  obtain ⟨_, _, _, _, _, h6, h7⟩ := three HB4.out
  have R := Lib.hid (nat_store (W := W) hk4 hi4 hl4 hm4 h6 h7 (by omega))
  rw [← hx4] at R
  rw [← hk4, ← hx4]
  clear hc0 hc1 hc2 hf2 hs2 hb4 hi4 hk4 hx4 hl4 h6 h7
  obtain ⟨hc0, hc1, hc2, hf2, hs2, _, _⟩ := three HB4.out
  go_wp2_with fail
  exact bodyPost_ret (v := .tuple #[.agg #[.slice A4 k4 c4], .int .i64 x4]) (by simp [results, Tryz.results46, go_sem, hc2]) rfl R.out
theorem radd_any (L M : List Int) (n c m d : Nat) (A B : Option Addr) (W : World) (hn : L.length = n) (hm : M.length = m) (hnc : n ≤ c) (hmd : m ≤ d) (hn63 : n ≤ maxLen) (hm63 : m ≤ maxLen) (hA : IntsIn W A L) (hB : IntsIn W B M) :
    Calls Tryz.prog 46 #[.agg #[.slice A n c], .agg #[.slice B m d]] W (NatPost (two L M (lim (val L + val M))) W) := by
  cases h1 : vldB L with
  | false => exact radd_bad1 L M n c m d A B W hn hm hnc hmd hn63 hm63 hA hB h1
  | true =>
    cases h2 : vldB M with
    | false => exact radd_bad2 L M n c m d A B W hn hm hnc hmd hn63 hm63 hA hB h1 h2
    | true => exact radd_good L M n c m d A B W hn hm hnc hmd hn63 hm63 hA hB h1 h2
set_option maxHeartbeats 1000000 in
theorem rsub_bad1 (L M : List Int) (n c m d : Nat) (A B : Option Addr) (W : World) (hn : L.length = n) (hm : M.length = m) (hnc : n ≤ c) (hmd : m ≤ d) (hn63 : n ≤ maxLen) (hm63 : m ≤ maxLen) (hA : IntsIn W A L) (hB : IntsIn W B M) (h1 : vldB L = false) :
    Calls Tryz.prog 49 #[.agg #[.slice A n c], .agg #[.slice B m d]] W (NatPost (two L M (subR (val L) (val M))) W) := by
  have HA := Lib.hid (hA.below (box3_below W (.slice A n c) (.slice B m d)))
  have HB := Lib.hid (hB.below (box3_below W (.slice A n c) (.slice B m d)))
  have HN := Lib.hid hn
  have HM := Lib.hid hm
  have H1 := Lib.hid h1
  clear hA hB hn hm h1
  go_enter Tryz.func49, Tryz.ntmps49
  go_wp2_with fail
  refine (rvalid_any L n c A _ HN.out hn63 HA.out).mono ?_
  rintro e w1 ⟨rfl, hb1⟩
  rw [H1.out]
  have HB1 := Lib.hid hb1
  obtain ⟨hc0, hc1, hc2, hf2, hs2, _, _⟩ := three hb1
  clear hb1
  go_wp2
  exact bodyPost_ret (v := .tuple #[.agg #[.slice none 0 0], .int .i64 1]) (by simp [results, Tryz.results49, go_sem, hc2]) rfl (nat_bad (two_no1 _ H1.out) HB1.out)
set_option maxHeartbeats 1000000 in
theorem rsub_bad2 (L M : List Int) (n c m d : Nat) (A B : Option Addr) (W : World) (hn : L.length = n) (hm : M.length = m) (hnc : n ≤ c) (hmd : m ≤ d) (hn63 : n ≤ maxLen) (hm63 : m ≤ maxLen) (hA : IntsIn W A L) (hB : IntsIn W B M) (h1 : vldB L = true) (h2 : vldB M = false) :
    Calls Tryz.prog 49 #[.agg #[.slice A n c], .agg #[.slice B m d]] W (NatPost (two L M (subR (val L) (val M))) W) := by
  have HA := Lib.hid (hA.below (box3_below W (.slice A n c) (.slice B m d)))
  have HB := Lib.hid (hB.below (box3_below W (.slice A n c) (.slice B m d)))
  have HN := Lib.hid hn
  have HM := Lib.hid hm
  have H1 := Lib.hid h1
  have H2 := Lib.hid h2
  clear hA hB hn hm h1 h2
  go_enter Tryz.func49, Tryz.ntmps49
  go_wp2_with fail
  refine (rvalid_any L n c A _ HN.out hn63 HA.out).mono ?_
  rintro e w1 ⟨rfl, hb1⟩
  rw [H1.out]
  have HB1 := Lib.hid hb1
  obtain ⟨hc0, hc1, hc2, hf2, hs2, _, _⟩ := three hb1
  clear hb1
  go_wp2_with fail
  refine (rvalid_any M m d B _ HM.out hm63 (HB.out.below HB1.out)).mono ?_
  rintro e w2 ⟨rfl, hb2⟩
  rw [H2.out]
  have HB2 := Lib.hid (box_go HB1.out hb2)
  clear hc0 hc1 hc2 hf2 hs2 hb2
  obtain ⟨hc0, hc1, hc2, hf2, hs2, _, _⟩ := three HB2.out
  go_wp2
  exact bodyPost_ret (v := .tuple #[.agg #[.slice none 0 0], .int .i64 1]) (by simp [results, Tryz.results49, go_sem, hc2]) rfl (nat_bad (two_no2 _ H2.out) HB2.out)
set_option maxHeartbeats 2000000 in
theorem rsub_good (L M : List Int) (n c m d : Nat) (A B : Option Addr) (W : World) (hn : L.length = n) (hm : M.length = m) (hnc : n ≤ c) (hmd : m ≤ d) (hn63 : n ≤ maxLen) (hm63 : m ≤ maxLen) (hA : IntsIn W A L) (hB : IntsIn W B M) (h1 : vldB L = true) (h2 : vldB M = true) :
    Calls Tryz.prog 49 #[.agg #[.slice A n c], .agg #[.slice B m d]] W (NatPost (two L M (subR (val L) (val M))) W) := by
  rw [two_ok _ h1 h2]
  obtain ⟨l1, d1, e1, p1, q1⟩ := vldB_true h1
  obtain ⟨l2, d2, e2, p2, q2⟩ := vldB_true h2
  have hn2 : n ≤ 200 := by omega
  have hm2 : m ≤ 200 := by omega
  have HA := Lib.hid (hA.below (box3_below W (.slice A n c) (.slice B m d)))
  have HB := Lib.hid (hB.below (box3_below W (.slice A n c) (.slice B m d)))
  have HN := Lib.hid hn
  have HM := Lib.hid hm
  have H1 := Lib.hid h1
  have H2 := Lib.hid h2
  have D1 := Lib.hid d1
  have D2 := Lib.hid d2
  have E1 := Lib.hid e1
  have E2 := Lib.hid e2
  clear hA hB hn hm h1 h2 d1 d2 e1 e2 q1 q2 l1 l2
  have HCMP := Lib.hid (show cmpL L M = sgn (val L - val M) by
    have := cmpL_digs p1 p2
    rwa [← E1.out, ← E2.out] at this)
  go_enter Tryz.func49, Tryz.ntmps49
  go_wp2_with fail
  refine (rvalid_any L n c A _ HN.out hn63 HA.out).mono ?_
  rintro e w1 ⟨rfl, hb1⟩
  rw [H1.out]
  have HB1 := Lib.hid hb1
  obtain ⟨hc0, hc1, hc2, hf2, hs2, _, _⟩ := three hb1
  clear hb1
  go_wp2_with fail
  refine (rvalid_any M m d B _ HM.out hm63 (HB.out.below HB1.out)).mono ?_
  rintro e w2 ⟨rfl, hb2⟩
  rw [H2.out]
  have HB2 := Lib.hid (box_go HB1.out hb2)
  clear hc0 hc1 hc2 hf2 hs2 hb2
  obtain ⟨hc0, hc1, hc2, hf2, hs2, _, _⟩ := three HB2.out
  go_wp2_with fail
  refine (rCmp_any L M n c m d A B _ HN.out HM.out hn63 hm63 (HA.out.below HB2.out) (HB.out.below HB2.out)).mono ?_
  rintro e w3 ⟨rfl, hb3⟩
  rw [HCMP.out]
  have HB3 := Lib.hid (box_go HB2.out hb3)
  clear hc0 hc1 hc2 hf2 hs2 hb3
  obtain ⟨hc0, hc1, hc2, hf2, hs2, _, _⟩ := three HB3.out
  by_cases hlt : val L < val M
  · have hs : sgn (val L - val M) = -1 := by unfold sgn; rw [if_pos (by omega)]
    have HR := Lib.hid (show subR (val L) (val M) = (0, 6) by unfold subR; rw [if_pos hlt])
    rw [hs]
    clear hs
    go_wp2
    exact bodyPost_ret (v := .tuple #[.agg #[.slice none 0 0], .int .i64 6]) (by simp [results, Tryz.results49, go_sem, hc2]) rfl (nat_bad HR.out HB3.out)
  · have hs : 0 ≤ sgn (val L - val M) := by unfold sgn; split <;> (try split) <;> omega
    have HR := Lib.hid (show subR (val L) (val M) = (val L - val M, 0) by unfold subR; rw [if_neg hlt])
    have hnm : m ≤ n := by
      by_cases c0 : m ≤ n
      · exact c0
      · have : cmpL L M = -1 := cmpL_lt (by rw [HN.out, HM.out]; omega)
        have := HCMP.out
        omega
    obtain ⟨s, hs'⟩ : ∃ s, s = sgn (val L - val M) := ⟨_, rfl⟩
    rw [← hs'] at hs ⊢
    clear hs'
    have hs3 : decide (s < 0) = false := by simp; omega
    go_wp2_with fail
    refine (rless_any n c m d L M A B _ HN.out HM.out (by omega) hnm D1.out D2.out (by omega) (HA.out.below HB3.out) (HB.out.below HB3.out)).mono ?_
    rintro e w4 ⟨A4, c4, rfl, hi4, hl4, hm4, hb4⟩
    have HB4 := Lib.hid (box_go HB3.out hb4)
    obtain ⟨k4, hk4⟩ : ∃ k, k = (digs (val L - val M)).length := ⟨_, rfl⟩
    obtain ⟨_, _, _, _, _, h6, h7⟩ := three HB4.out
    have R := Lib.hid (nat_store (r := (val L - val M, 0)) (W := W) hk4 hi4 hl4 hm4 h6 h7 (by omega))
    rw [← hk4]
    clear hc0 hc1 hc2 hf2 hs2 hb4 hi4 hk4 hl4 h6 h7
    obtain ⟨hc0, hc1, hc2, hf2, hs2, _, _⟩ := three HB4.out
    go_wp2_with fail
    exact bodyPost_ret (v := .tuple #[.agg #[.slice A4 k4 c4], .int .i64 0]) (by simp [results, Tryz.results49, go_sem, hc2]) rfl (by rw [HR.out]; exact R.out)
theorem rsub_any (L M : List Int) (n c m d : Nat) (A B : Option Addr) (W : World) (hn : L.length = n) (hm : M.length = m) (hnc : n ≤ c) (hmd : m ≤ d) (hn63 : n ≤ maxLen) (hm63 : m ≤ maxLen) (hA : IntsIn W A L) (hB : IntsIn W B M) :
    Calls Tryz.prog 49 #[.agg #[.slice A n c], .agg #[.slice B m d]] W (NatPost (two L M (subR (val L) (val M))) W) := by
  cases h1 : vldB L with
  | false => exact rsub_bad1 L M n c m d A B W hn hm hnc hmd hn63 hm63 hA hB h1
  | true =>
    cases h2 : vldB M with
    | false => exact rsub_bad2 L M n c m d A B W hn hm hnc hmd hn63 hm63 hA hB h1 h2
    | true => exact rsub_good L M n c m d A B W hn hm hnc hmd hn63 hm63 hA hB h1 h2
end Go.Proofs.YtkfkefgkepoaaaaGreatDoor
