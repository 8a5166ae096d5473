/- Contracts of Div of the reference. -/
import Derived.Test.YtkfkefgkepoaaaaGreatDoorNRdv
namespace Go.Proofs.YtkfkefgkepoaaaaGreatDoor
open Go.RowKit
set_option linter.unusedVariables false
set_option maxRecDepth 100000
set_option maxHeartbeats 1000000 in
theorem rdiv_bad1 (L M : List Int) (n c m d : Nat) (A B : Option Addr) (W : World) (hn : L.length = n) (hm : M.length = m) (hnc : n ≤ c) (hmd : m ≤ d) (hn63 : n ≤ maxLen) (hm63 : m ≤ maxLen) (hA : IntsIn W A L) (hB : IntsIn W B M) (h1 : vldB L = false) :
    Calls Tryz.prog 79 #[.agg #[.slice A n c], .agg #[.slice B m d]] W (NatPost2 (two2 L M (divR (val L) (val M))) W) := by
  have HA := Lib.hid (hA.below (box4_below W (.slice A n c) (.slice B m d)))
  have HB := Lib.hid (hB.below (box4_below W (.slice A n c) (.slice B m d)))
  have HN := Lib.hid hn
  have HM := Lib.hid hm
  have H1 := Lib.hid h1
  clear hA hB hn hm h1
  go_enter Tryz.func79, Tryz.ntmps79
  go_wp2_with fail
  refine (rvalid_any L n c A _ HN.out hn63 HA.out).mono ?_
  rintro e w1 ⟨rfl, hb1⟩
  rw [H1.out]
  have HB1 := Lib.hid hb1
  obtain ⟨hc0, hc1, hc2, hf2, hc3, hf3, hs2, _, _, _⟩ := four hb1
  clear hb1
  go_wp2
  exact bodyPost_ret (v := .tuple #[.agg #[.slice none 0 0], .agg #[.slice none 0 0], .int .i64 1]) (by simp [results, Tryz.results79, go_sem, hc2, hc3]) rfl (nat2_bad (two2_no1 _ H1.out) HB1.out)
set_option maxHeartbeats 1000000 in
theorem rdiv_bad2 (L M : List Int) (n c m d : Nat) (A B : Option Addr) (W : World) (hn : L.length = n) (hm : M.length = m) (hnc : n ≤ c) (hmd : m ≤ d) (hn63 : n ≤ maxLen) (hm63 : m ≤ maxLen) (hA : IntsIn W A L) (hB : IntsIn W B M) (h1 : vldB L = true) (h2 : vldB M = false) :
    Calls Tryz.prog 79 #[.agg #[.slice A n c], .agg #[.slice B m d]] W (NatPost2 (two2 L M (divR (val L) (val M))) W) := by
  have HA := Lib.hid (hA.below (box4_below W (.slice A n c) (.slice B m d)))
  have HB := Lib.hid (hB.below (box4_below W (.slice A n c) (.slice B m d)))
  have HN := Lib.hid hn
  have HM := Lib.hid hm
  have H1 := Lib.hid h1
  have H2 := Lib.hid h2
  clear hA hB hn hm h1 h2
  go_enter Tryz.func79, Tryz.ntmps79
  go_wp2_with fail
  refine (rvalid_any L n c A _ HN.out hn63 HA.out).mono ?_
  rintro e w1 ⟨rfl, hb1⟩
  rw [H1.out]
  have HB1 := Lib.hid hb1
  obtain ⟨hc0, hc1, hc2, hf2, hc3, hf3, hs2, _, _, _⟩ := four hb1
  clear hb1
  go_wp2_with fail
  refine (rvalid_any M m d B _ HM.out hm63 (HB.out.below HB1.out)).mono ?_
  rintro e w2 ⟨rfl, hb2⟩
  rw [H2.out]
  have HB2 := Lib.hid (box4_go HB1.out hb2)
  clear hc0 hc1 hc2 hf2 hc3 hf3 hs2 hb2
  obtain ⟨hc0, hc1, hc2, hf2, hc3, hf3, hs2, _, _, _⟩ := four HB2.out
  go_wp2
  exact bodyPost_ret (v := .tuple #[.agg #[.slice none 0 0], .agg #[.slice none 0 0], .int .i64 1]) (by simp [results, Tryz.results79, go_sem, hc2, hc3]) rfl (nat2_bad (two2_no2 _ H2.out) HB2.out)
set_option maxHeartbeats 2000000 in
theorem rdiv_good (L M : List Int) (n c m d : Nat) (A B : Option Addr) (W : World) (hn : L.length = n) (hm : M.length = m) (hnc : n ≤ c) (hmd : m ≤ d) (hn63 : n ≤ maxLen) (hm63 : m ≤ maxLen) (hA : IntsIn W A L) (hB : IntsIn W B M) (h1 : vldB L = true) (h2 : vldB M = true) :
    Calls Tryz.prog 79 #[.agg #[.slice A n c], .agg #[.slice B m d]] W (NatPost2 (two2 L M (divR (val L) (val M))) W) := by
  rw [two2_ok _ h1 h2]
  obtain ⟨l1, d1, e1, p1, q1⟩ := vldB_true h1
  obtain ⟨l2, d2, e2, p2, q2⟩ := vldB_true h2
  have hn2 : n ≤ 200 := by omega
  have hm2 : m ≤ 200 := by omega
  have HA := Lib.hid (hA.below (box4_below W (.slice A n c) (.slice B m d)))
  have HB := Lib.hid (hB.below (box4_below W (.slice A n c) (.slice B m d)))
  have HZ := Lib.hid (val_zero_iff e2 p2)
  have HN := Lib.hid hn
  have HM := Lib.hid hm
  have H1 := Lib.hid h1
  have H2 := Lib.hid h2
  have E1 := Lib.hid e1
  have E2 := Lib.hid e2
  clear hA hB hn hm h1 h2 d1 d2 e1 e2 q1 q2 l1 l2
  by_cases h0 : m = 0
  · subst h0
    have HR := Lib.hid (show divR (val L) (val M) = (0, 0, 6) by unfold divR; rw [if_pos (HZ.out.2 HM.out)])
    go_enter Tryz.func79, Tryz.ntmps79
    go_wp2_with fail
    refine (rvalid_any L n c A _ HN.out hn63 HA.out).mono ?_
    rintro e w1 ⟨rfl, hb1⟩
    rw [H1.out]
    have HB1 := Lib.hid hb1
    obtain ⟨hc0, hc1, hc2, hf2, hc3, hf3, hs2, _, _, _⟩ := four hb1
    clear hb1
    go_wp2_with fail
    refine (rvalid_any M 0 d B _ HM.out hm63 (HB.out.below HB1.out)).mono ?_
    rintro e w2 ⟨rfl, hb2⟩
    rw [H2.out]
    have HB2 := Lib.hid (box4_go HB1.out hb2)
    clear hc0 hc1 hc2 hf2 hc3 hf3 hs2 hb2
    obtain ⟨hc0, hc1, hc2, hf2, hc3, hf3, hs2, _, _, _⟩ := four HB2.out
    go_wp2
    exact bodyPost_ret (v := .tuple #[.agg #[.slice none 0 0], .agg #[.slice none 0 0], .int .i64 6]) (by simp [results, Tryz.results79, go_sem, hc2, hc3]) rfl (nat2_bad HR.out HB2.out)
  · have hv0 : 0 < val M := by
      have : val M ≠ 0 := fun e => h0 (by rw [← HM.out]; exact HZ.out.1 e)
      omega
    have HR := Lib.hid (show divR (val L) (val M) = (val L / val M, val L % val M, 0) by unfold divR; rw [if_neg (by omega)])
    have hm0 : ((m : Int) == 0) = false := by simp; omega
    go_enter Tryz.func79, Tryz.ntmps79
    go_wp2_with fail
    refine (rvalid_any L n c A _ HN.out hn63 HA.out).mono ?_
    rintro e w1 ⟨rfl, hb1⟩
    rw [H1.out]
    have HB1 := Lib.hid hb1
    obtain ⟨hc0, hc1, hc2, hf2, hc3, hf3, hs2, _, _, _⟩ := four hb1
    clear hb1
    go_wp2_with fail
    refine (rvalid_any M m d B _ HM.out hm63 (HB.out.below HB1.out)).mono ?_
    rintro e w2 ⟨rfl, hb2⟩
    rw [H2.out]
    have HB2 := Lib.hid (box4_go HB1.out hb2)
    clear hc0 hc1 hc2 hf2 hc3 hf3 hs2 hb2
    obtain ⟨hc0, hc1, hc2, hf2, hc3, hf3, hs2, _, _, _⟩ := four HB2.out
    go_wp2_with fail
    refine (rdivide_any n c m d (val L) (val M) A B _ (by rw [← E1.out]; exact HN.out) (by rw [← E2.out]; exact HM.out) (by omega) (by omega) p1 hv0 (by rw [← E1.out]; exact HA.out.below HB2.out) (by rw [← E2.out]; exact HB.out.below HB2.out)).mono ?_
    rintro e w3 ⟨A3, c3, B3, d3, rfl, hi3, hl3, hm3, hi4, hl4, hm4, hb3⟩
    have HB3 := Lib.hid (box4_go HB2.out hb3)
    obtain ⟨k, hk⟩ : ∃ k, k = (digs (val L / val M)).length := ⟨_, rfl⟩
    obtain ⟨l, hl⟩ : ∃ k, k = (digs (val L % val M)).length := ⟨_, rfl⟩
    have R := Lib.hid (nat2_store (W := W) hk hl hi3 hl3 hm3 hi4 hl4 hm4 HB3.out)
    rw [← hk, ← hl]
    clear hc0 hc1 hc2 hf2 hc3 hf3 hs2 hb3 hi3 hi4 hk hl hl3 hl4
    obtain ⟨hc0, hc1, hc2, hf2, hc3, hf3, hs2, _, _, _⟩ := four HB3.out
    go_wp2_with fail
    exact bodyPost_ret (v := .tuple #[.agg #[.slice A3 k c3], .agg #[.slice B3 l d3], .int .i64 0]) (by simp [results, Tryz.results79, go_sem, hc2, hc3]) rfl (by rw [HR.out]; exact R.out)
theorem rdiv_any (L M : List Int) (n c m d : Nat) (A B : Option Addr) (W : World) (hn : L.length = n) (hm : M.length = m) (hnc : n ≤ c) (hmd : m ≤ d) (hn63 : n ≤ maxLen) (hm63 : m ≤ maxLen) (hA : IntsIn W A L) (hB : IntsIn W B M) :
    Calls Tryz.prog 79 #[.agg #[.slice A n c], .agg #[.slice B m d]] W (NatPost2 (two2 L M (divR (val L) (val M))) W) := by
  cases h1 : vldB L with
  | false => exact rdiv_bad1 L M n c m d A B W hn hm hnc hmd hn63 hm63 hA hB h1
  | true =>
    cases h2 : vldB M with
    | false => exact rdiv_bad2 L M n c m d A B W hn hm hnc hmd hn63 hm63 hA hB h1 h2
    | true => exact rdiv_good L M n c m d A B W hn hm hnc hmd hn63 hm63 hA hB h1 h2
end Go.Proofs.YtkfkefgkepoaaaaGreatDoor
