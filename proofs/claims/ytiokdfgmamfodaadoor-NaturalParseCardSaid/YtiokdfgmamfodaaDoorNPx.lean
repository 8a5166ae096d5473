/- The walk of the statement NaturalParse. -/
import Derived.Test.YtiokdfgmamfodaaDoorNTx
import Derived.Test.YtiokdfgmamfodaaDoorNRp
namespace Go.Proofs.YtiokdfgmamfodaaDoor
open Go.RowKit
set_option linter.unusedVariables false

theorem parse_fmtV {s : ByteArray} {D : List Int} (hD : D = digs (parseV s.data.toList).1) (hx : (parseV s.data.toList).2 = 0) : fmtV D = (s.data.toList, 0) := by
  unfold parseV at hD hx
  by_cases h : isTB s.data.toList = true
  · rw [if_pos h] at hD hx
    by_cases h8 : 800 < s.data.toList.length
    · rw [if_pos h8] at hx; simp at hx
    · rw [if_neg h8] at hD
      have ht := (isTB_iff _).1 h
      have hb := decV_bound ht.2.1 (by omega)
      have h0 := decV_nonneg ht.2.1
      have hv := vldB_digs hb
      subst hD
      unfold fmtV
      rw [if_pos hv, val_digs h0, ← fmt_of ht rfl]
  · rw [if_neg h] at hx; simp at hx
theorem parse_codes (l : List UInt8) : (parseV l).2 = 0 ∨ (parseV l).2 = 2 ∨ (parseV l).2 = 3 := by
  unfold parseV
  split
  · split
    · exact .inr (.inr rfl)
    · exact .inl rfl
  · exact .inr (.inl rfl)
set_option maxHeartbeats 1000000 in
theorem lawparse_big (s : ByteArray) (W : World) (hs : s.size ≤ maxLen) (hT : Tab W) (hbig : 900 < s.size) :
    Calls Tryd.prog 11 #[.string s] W fun e w' => e = .returned (.bool true) ∧ Below W.heap.size W w' := by
  have HT := Lib.hid hT
  clear hT
  have hs63 := hs
  unfold maxLen at hs63
  go_enter Tryd.func11, Tryd.ntmps11
  go_wp2_with fail
  refine (awake_any _ HT.out).mono ?_
  rintro e w1 ⟨rfl, hb1⟩
  have HB1 := Lib.hid hb1
  have HT1 := Lib.hid (HT.out.below hb1)
  clear hb1
  go_wp2_with fail
  refine (awake_any _ HT1.out).mono ?_
  rintro e w3 ⟨rfl, hb3⟩
  have HB3 := Lib.hid (btwo HB1.out hb3)
  clear hb3
  go_wp2_with fail
  go_ret
  exact ⟨rfl, HB3.out⟩
set_option maxHeartbeats 2000000 in
theorem lawparse_small (s : ByteArray) (W : World) (hT : Tab W) (hsm : ¬ 900 < s.size) :
    Calls Tryd.prog 11 #[.string s] W fun e w' => e = .returned (.bool true) ∧ Below W.heap.size W w' := by
  have HT := Lib.hid hT
  have hs8 : s.size ≤ 900 := by omega
  have hsm2 : s.size ≤ maxLen := by unfold maxLen; omega
  clear hT hsm
  obtain ⟨D, hD⟩ : ∃ D, D = digs (parseV s.data.toList).1 := ⟨_, rfl⟩
  obtain ⟨x, hx⟩ : ∃ x, x = (parseV s.data.toList).2 := ⟨_, rfl⟩
  have hcase : x = 0 ∧ fmtV D = (s.data.toList, 0) ∨ x = 2 ∨ x = 3 := by
    rcases parse_codes s.data.toList with h | h
    · exact .inl ⟨hx.trans h, parse_fmtV hD h⟩
    · rw [← hx] at h; exact .inr h
  obtain ⟨n, hn⟩ : ∃ n, D.length = n := ⟨_, rfl⟩
  have HN := Lib.hid hn
  have HD := Lib.hid hD
  have HX := Lib.hid hx
  clear hD hx hn
  go_enter Tryd.func11, Tryd.ntmps11
  go_wp2_with fail
  refine (awake_any _ HT.out).mono ?_
  rintro e w1 ⟨rfl, hb1⟩
  have HB1 := Lib.hid hb1
  have HT1 := Lib.hid (HT.out.below hb1)
  clear hb1
  go_wp2_with fail
  refine (parse_any s _ hsm2).mono ?_
  rintro e w2 ⟨A2, c2, rfl, hi2, hl2, hm2, hb2⟩
  simp only [← HD.out, HN.out] at hi2 hl2 ⊢
  rw [← HX.out]
  have HI2 := Lib.hid hi2
  have HB2 := Lib.hid (btwo HB1.out hb2)
  have HT2 := Lib.hid (HT1.out.below hb2)
  have m0 : n ≤ maxLen := Nat.le_trans hl2 hm2
  clear hi2 hb2
  have HAL := Lib.hid (one_alloc (w := w2) (.cells #[.slice A2 n c2] 24))
  have HT2' := Lib.hid (HT2.out.below HAL.out)
  go_wp2_with fail
  refine (rparse_any s _ hsm2).mono ?_
  rintro e w3 ⟨A3, c3, rfl, hi3, hl3, hm3, hb3⟩
  simp only [← HD.out, HN.out] at hi3 hl3 ⊢
  rw [← HX.out]
  obtain ⟨hc3, hs3, hb3'⟩ := cell_new hb3
  have HAL3 := Lib.hid (one_alloc (w := w3) (.cells #[.slice A3 n c3] 24))
  have HI3 := Lib.hid (hi3.below HAL3.out)
  have HI23 := Lib.hid ((HI2.out.below hb3').below HAL3.out)
  have HB3 := Lib.hid (btwo (btwo HB2.out hb3') HAL3.out)
  have HT3 := Lib.hid ((HT2.out.below hb3').below HAL3.out)
  clear hi3 hb3 hb3'
  go_wp2_with fail
  refine (same_true D n c2 n c3 A2 A3 _ HN.out HN.out m0 m0 HI23.out HI3.out).mono ?_
  rintro e w4 ⟨rfl, hb4⟩
  obtain ⟨hc43, hs43, _⟩ := cell_new hb4
  obtain ⟨hc4, hs4⟩ := cell_old hc3 hs3 (btwo HAL3.out hb4)
  have HI4 := Lib.hid (HI23.out.below hb4)
  have HI5 := Lib.hid (HI3.out.below hb4)
  have HB4 := Lib.hid (btwo HB3.out hb4)
  have HT4 := Lib.hid (HT3.out.below hb4)
  clear hb4 hc3 hs3
  rcases hcase with ⟨rfl, hf⟩ | rfl | rfl
  · have HF := Lib.hid hf
    clear hf
    go_wp2_with fail
    refine (format_any D n c2 A2 _ HN.out m0 HI4.out HT4.out).mono ?_
    rintro e w5 ⟨rfl, hb5⟩
    have HB5 := Lib.hid (btwo HB4.out hb5)
    rw [HF.out]
    clear hb5
    go_wp2_with fail
    go_ret
    exact ⟨by simp, HB5.out⟩
  all_goals
    go_wp2_with fail
    refine (same_true D n c2 n c3 A2 A3 _ HN.out HN.out m0 m0 HI4.out HI5.out).mono ?_
    rintro e w5 ⟨rfl, hb5⟩
    have HB5 := Lib.hid (btwo HB4.out hb5)
    clear hb5
    go_wp2_with fail
    go_ret
    exact ⟨rfl, HB5.out⟩
theorem lawparse_any (s : ByteArray) (W : World) (hs : s.size ≤ maxLen) (hT : Tab W) :
    Calls Tryd.prog 11 #[.string s] W fun e w' => e = .returned (.bool true) ∧ Below W.heap.size W w' := by
  by_cases h : 900 < s.size
  · exact lawparse_big s W hs hT h
  · exact lawparse_small s W hT h
end Go.Proofs.YtiokdfgmamfodaaDoor
