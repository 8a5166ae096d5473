/- The walk of the statement NaturalText. -/
import Derived.Test.YtiokdfgmamfodaaDoorNRf
namespace Go.Proofs.YtiokdfgmamfodaaDoor
open Go.RowKit
set_option linter.unusedVariables false

theorem one_alloc {w : World} (o : Obj) : Below w.heap.size w (w.alloc o) := (Below.refl _ _).alloc (Nat.le_refl _) _
theorem few_no1 {n : Nat} (h : ¬ n ≤ 420) : decide (([n] : List Nat).sum ≤ 420) = false := by
  rw [show ([n] : List Nat).sum = n by simp]; exact decide_eq_false h
theorem few_yes1 {n : Nat} (h : n ≤ 420) : decide (([n] : List Nat).sum ≤ 420) = true := by
  rw [show ([n] : List Nat).sum = n by simp]; exact decide_eq_true h
theorem parse_fmt {L : List Int} (h : vldB L = true) : parseV (fmt (val L)) = (val L, 0) := by
  obtain ⟨l1, d1, e1, p1, q1⟩ := vldB_true h
  rw [parse_ok ((isTB_iff _).2 (fmt_isT _)), fmt_dec p1]
  have := fmt_len (n := val L) (by rw [← e1]; exact l1)
  omega
theorem fmtV_len (L : List Int) : (⟨(fmtV L).1.toArray⟩ : ByteArray).size ≤ 800 := by
  show (fmtV L).1.toArray.size ≤ 800
  unfold fmtV
  by_cases h : vldB L = true
  · rw [if_pos h]
    obtain ⟨l1, d1, e1, p1, q1⟩ := vldB_true h
    have := fmt_len (n := val L) (by rw [← e1]; exact l1)
    simpa using this
  · rw [if_neg h]; simp
set_option maxHeartbeats 1000000 in
theorem lawtext_big (L0 : List Int) (n0 c0 : Nat) (A0 : Option Addr) (W : World) (hr0 : n0 ≤ 17592186044416) (hT : Tab W) (hbig : ¬ n0 ≤ 420) :
    Calls Tryd.prog 10 #[.agg #[.slice A0 n0 c0]] W fun e w' => e = .returned (.bool true) ∧ Below W.heap.size W w' := by
  have HT := Lib.hid (hT.below ((Below.refl W.heap.size W).alloc (Nat.le_refl _) (.cells #[.slice A0 n0 c0] 24)))
  have HF := Lib.hid (few_no1 hbig)
  have HS := Lib.hid (small1 hr0)
  clear hT hbig hr0
  go_enter Tryd.func10, Tryd.ntmps10
  go_wp2_with fail
  refine (awake_any _ HT.out).mono ?_
  rintro e w1 ⟨rfl, hb1⟩
  obtain ⟨hc1, hs1, hbw1⟩ := keep_box hb1 (Below.refl _ _)
  have HB1 := Lib.hid hb1
  clear hb1 hbw1
  go_wp2_with fail
  refine (few_any [n0] _ 1 1 _ rfl (by omega) HS.out (nats1 _ _ _ _ _ _ (by simp))).mono ?_
  rintro e w2 ⟨rfl, rfl⟩
  rw [HF.out]
  go_wp2_with fail
  refine (awake_any _ ((HT.out.below HB1.out).below ((Below.refl _ _).alloc (Nat.le_refl _) _))).mono ?_
  rintro e w3 ⟨rfl, hb3⟩
  have HB3 := Lib.hid (show Below W.heap.size W w3 from (keep_box HB1.out (((Below.refl _ _).alloc (Nat.le_refl _) _).trans (hb3.mono (by simp)))).2.2)
  clear hb3
  go_wp2_with fail
  go_ret
  exact ⟨rfl, HB3.out⟩
set_option maxHeartbeats 2000000 in
theorem lawtext_small (L0 : List Int) (n0 c0 : Nat) (A0 : Option Addr) (W : World) (hl0 : L0.length = n0) (hc0 : n0 ≤ c0) (hi0 : IntsIn W A0 L0) (hT : Tab W) (hsm : n0 ≤ 420) :
    Calls Tryd.prog 10 #[.agg #[.slice A0 n0 c0]] W fun e w' => e = .returned (.bool true) ∧ Below W.heap.size W w' := by
  have hb0 : Below W.heap.size W (W.alloc (.cells #[.slice A0 n0 c0] 24)) := (Below.refl W.heap.size W).alloc (Nat.le_refl _) _
  have HT := Lib.hid (hT.below hb0)
  have HI := Lib.hid (hi0.below hb0)
  have HF := Lib.hid (few_yes1 hsm)
  have HS := Lib.hid (small1 (n := n0) (by omega))
  have HL := Lib.hid hl0
  have m0 : n0 ≤ maxLen := by unfold maxLen; omega
  have q0 : n0 ≤ 100000 := by omega
  clear hT hi0 hb0 hl0
  obtain ⟨S, hS⟩ : ∃ S, S = (⟨(fmtV L0).1.toArray⟩ : ByteArray) := ⟨_, rfl⟩
  obtain ⟨x, hx⟩ : ∃ x, x = (fmtV L0).2 := ⟨_, rfl⟩
  have HSS := Lib.hid hS
  have HX := Lib.hid hx
  have hS8 : S.size ≤ 800 := by rw [hS]; exact fmtV_len L0
  have hSm : S.size ≤ maxLen := by unfold maxLen; omega
  have HP := Lib.hid (show vldB L0 = true → x = 0 ∧ parseV S.data.toList = (val L0, 0) ∧ digs (val L0) = L0 by
    intro hv
    have e1 : fmtV L0 = (fmt (val L0), 0) := by unfold fmtV; rw [if_pos hv]
    refine ⟨by rw [hx, e1], ?_, (vldB_true hv).2.2.1.symm⟩
    rw [hS, e1]
    show parseV (fmt (val L0)).toArray.toList = _
    rw [show (fmt (val L0)).toArray.toList = fmt (val L0) by simp]
    exact parse_fmt hv)
  have HQ := Lib.hid (show vldB L0 = false → x = 1 by intro hv; rw [hx]; unfold fmtV; rw [if_neg (by rw [hv]; simp)])
  clear hS hx hsm
  have hcase : (vldB L0 = true ∧ x = 0) ∨ x = 1 := by
    cases hv : vldB L0 with
    | true => exact .inl ⟨rfl, (HP.out hv).1⟩
    | false => exact .inr (HQ.out hv)
  go_enter Tryd.func10, Tryd.ntmps10
  go_wp2_with fail
  refine (awake_any _ HT.out).mono ?_
  rintro e w1 ⟨rfl, hb1⟩
  obtain ⟨hc1, hs1, hbw1⟩ := keep_box hb1 (Below.refl _ _)
  have HB1 := Lib.hid hb1
  have HI1 := Lib.hid (HI.out.below hb1)
  have HT1 := Lib.hid (HT.out.below hb1)
  clear hb1 hbw1
  go_wp2_with fail
  refine (few_any [n0] _ 1 1 _ rfl (by omega) HS.out (nats1 _ _ _ _ _ _ (by simp))).mono ?_
  rintro e w2 ⟨rfl, rfl⟩
  rw [HF.out]
  have HB2 := Lib.hid (one_alloc (w := w1) (.cells #[.slice A0 n0 c0] 24))
  obtain ⟨hc2, hs2, _⟩ := keep_box HB1.out HB2.out
  clear hc1 hs1
  go_wp2_with fail
  refine (copied_any L0 n0 c0 A0 _ HL.out q0 (HI1.out.below HB2.out)).mono ?_
  rintro e w3 ⟨A3, c3, rfl, hi3, hl3, hm3, hb3⟩
  have HB3 := Lib.hid (btwo HB2.out hb3)
  have HI3 := Lib.hid hi3
  obtain ⟨hc3, hs3, _⟩ := keep_box HB1.out HB3.out
  clear hc2 hs2 hi3 hb3
  go_wp2_with fail
  refine (format_any L0 n0 c3 A3 _ HL.out m0 HI3.out (HT1.out.below HB3.out)).mono ?_
  rintro e w4 ⟨rfl, hb4⟩
  have HB4 := Lib.hid (btwo HB3.out hb4)
  obtain ⟨hc4, hs4, _⟩ := keep_box HB1.out HB4.out
  rw [← HSS.out, ← HX.out]
  clear hc3 hs3 hb4
  go_wp2_with fail
  refine (rformat_any L0 n0 c0 A0 _ HL.out m0 (HI1.out.below HB4.out)).mono ?_
  rintro e w5 ⟨rfl, hb5⟩
  have HB5 := Lib.hid (btwo HB4.out hb5)
  obtain ⟨hc5, hs5, hbw5⟩ := keep_box HB1.out HB5.out
  have HBW5 := Lib.hid hbw5
  rw [← HSS.out, ← HX.out]
  clear hc4 hs4 hb5 hbw5
  rcases hcase with ⟨hv, rfl⟩ | rfl
  · obtain ⟨_, hp, hd⟩ := HP.out hv
    have HPP := Lib.hid hp
    have HDD := Lib.hid hd
    clear hp hd hv
    go_wp2_with fail
    refine (parse_any S _ hSm).mono ?_
    rintro e w6 ⟨A6, c6, rfl, hi6, hl6, hm6, hb6⟩
    rw [HPP.out] at hi6 hl6
    rw [HPP.out]
    simp only [HDD.out] at hi6 hl6
    have e6 : (digs (val L0, (0 : Int)).1).length = n0 := by show (digs (val L0)).length = n0; rw [HDD.out]; exact HL.out
    rw [e6]
    have HI6 := Lib.hid hi6
    have HB6 := Lib.hid (btwo HB5.out hb6)
    obtain ⟨hc6, hs6, hbw6⟩ := keep_box HB1.out HB6.out
    have HBW6 := Lib.hid hbw6
    have hal : Below w6.heap.size w6 (w6.alloc (.cells #[.slice A6 n0 c6] 24)) := (Below.refl _ _).alloc (Nat.le_refl _) _
    obtain ⟨hc7, hs7⟩ := cell_old hc6 hs6 hal
    clear hc5 hs5 hi6 hb6 hbw6 e6
    go_wp2_with fail
    refine (same_true L0 n0 c0 n0 c6 A0 A6 _ HL.out HL.out m0 m0 ((HI1.out.below HB6.out).below hal) (HI6.out.below hal)).mono ?_
    rintro e w7 ⟨rfl, hb7⟩
    have HB7 := Lib.hid (show Below W.heap.size W w7 from (keep_box HB1.out (btwo HB6.out (hal.trans (hb7.mono (by simp))))).2.2)
    clear hb7
    go_wp2_with fail
    go_ret
    exact ⟨rfl, HB7.out⟩
  · go_wp2_with fail
    go_ret
    exact ⟨rfl, HBW5.out⟩
theorem lawtext_any (L0 : List Int) (n0 c0 : Nat) (A0 : Option Addr) (W : World) (hl0 : L0.length = n0) (hc0 : n0 ≤ c0) (hr0 : c0 ≤ 17592186044416) (hi0 : IntsIn W A0 L0) (hT : Tab W) :
    Calls Tryd.prog 10 #[.agg #[.slice A0 n0 c0]] W fun e w' => e = .returned (.bool true) ∧ Below W.heap.size W w' := by
  by_cases h : n0 ≤ 420
  · exact lawtext_small L0 n0 c0 A0 W hl0 hc0 hi0 hT h
  · exact lawtext_big L0 n0 c0 A0 W (Nat.le_trans hc0 hr0) hT h
end Go.Proofs.YtiokdfgmamfodaaDoor
