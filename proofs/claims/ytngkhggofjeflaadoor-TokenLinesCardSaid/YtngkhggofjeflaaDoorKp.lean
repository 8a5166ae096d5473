/- What the statements about texts, strings in quotes and lines answer: true, whatever the input. -/
import Derived.Test.YtngkhggofjeflaaDoorKo
namespace Go.Proofs.YtngkhggofjeflaaDoor
open Go.RowKit
set_option linter.unusedVariables false
set_option maxRecDepth 100000

theorem tok_lenS {s : ByteArray} {L : List Tok} {ln er : Int} (h : tokV s.data.toList = (L, ln, er)) : L.length ≤ s.size := by
  have := tok_len s.data.toList
  rw [h, sizeB] at this; exact this
theorem writeV_set (ln : Int) (L : List Tok) : writeV (L.map (setL ln)) = writeV L := by
  have h1 : (L.map (setL ln)).all tokR = L.all tokR := by rw [List.all_map]; rfl
  have h2 : joinW (L.map (setL ln)) = joinW L := by unfold joinW; rw [List.map_map]; rfl
  unfold writeV
  rw [h1, h2]
theorem write_is {L : List Tok} {l : List UInt8} {x : Int} (h : writeV L = (l, x)) (n c : Nat) (A : Option Addr) (w : World) (hl : n = L.length) (hn : n ≤ 1000000) (hsz : ∀ x ∈ L, x.t.length ≤ 1000000) (hA : ToksIn w A L) :
    Calls Tryd.prog 17 #[.slice A n c] w fun e w' => e = .returned (.tuple #[.string (bs l), .int .i64 x]) ∧ Below w.heap.size w w' := by
  have := write_any L n c A w hl hn hsz hA
  unfold TwPost at this
  rw [h] at this; exact this
theorem rwrite_is {L : List Tok} {l : List UInt8} {x : Int} (h : writeV L = (l, x)) (n c : Nat) (A : Option Addr) (w : World) (hl : n = L.length) (hn : n ≤ 1000000) (hsz : ∀ x ∈ L, x.t.length ≤ 1000000) (hA : ToksIn w A L) :
    Calls Tryd.prog 19 #[.slice A n c] w fun e w' => e = .returned (.tuple #[.string (bs l), .int .i64 x]) ∧ Below w.heap.size w w' := by
  have := rwrite_any L n c A w hl hn hsz hA
  unfold TwPost at this
  rw [h] at this; exact this
theorem below_of_drewN {w w' : World} (h : ∃ q, w' = w.drewN q) : Below w.heap.size w w' := by
  obtain ⟨q, rfl⟩ := h; exact below_drewN (Below.refl _ _) q

set_option maxHeartbeats 4000000 in
theorem lawtokens_any (s : ByteArray) (w : World) (hs : s.size ≤ maxLen) :
    Calls Tryd.prog 3 #[.string s] w fun e w' => e = .returned (.bool true) ∧ Below w.heap.size w w' := by
  by_cases hbig : 2000 < s.size
  · go_enter Tryd.func3, Tryd.ntmps3
    go_wp2_with fail
    refine (awake_any _).mono ?_
    rintro e w1 ⟨rfl, hb1⟩
    go_wp2_with fail
    refine (awake_any _).mono ?_
    rintro e w2 ⟨rfl, hb2⟩
    go_wp2_with fail
    go_ret
    exact ⟨rfl, btwo hb1 hb2⟩
  · obtain ⟨L, ln, er, hv⟩ : ∃ L ln er, tokV s.data.toList = (L, ln, er) := ⟨_, _, _, rfl⟩
    have HV := Lib.hid hv
    have hL := tok_lenS hv
    obtain ⟨n, hn⟩ : ∃ n, n = L.length := ⟨_, rfl⟩
    have HN := Lib.hid hn
    have hn2 : n ≤ 2000 := by omega
    clear hv hL hn
    go_enter Tryd.func3, Tryd.ntmps3
    go_wp2_with fail
    refine (awake_any _).mono ?_
    rintro e w1 ⟨rfl, hb1⟩
    have HB1 := Lib.hid hb1
    clear hb1
    go_wp2_with fail
    refine (tokens_is HV.out _ hs).mono ?_
    rintro e w2 ⟨A1, n1, c1, rfl, hn1, hc1, ht1, hb2⟩
    obtain rfl : n1 = n := by rw [hn1, HN.out]
    have HT1 := Lib.hid ht1
    have HB2 := Lib.hid (btwo HB1.out hb2)
    clear ht1 hb2 hn1
    go_wp2_with fail
    refine (rtokens_is HV.out _ hs).mono ?_
    rintro e w3 ⟨A2, n2, c2, rfl, hn2', hc2, ht2, hb3⟩
    obtain rfl : n2 = n1 := by rw [hn2', HN.out]
    have HT2 := Lib.hid ht2
    have HT1b := Lib.hid (HT1.out.below hb3)
    have HB3 := Lib.hid (btwo HB2.out hb3)
    clear ht2 hb3 hn2'
    go_wp2_with fail
    refine (eqt_refl L n2 c1 c2 A1 A2 _ HN.out (by omega) HT1b.out HT2.out).mono ?_
    rintro e w4 ⟨rfl, q, rfl⟩
    go_wp2_with fail
    go_ret
    exact ⟨rfl, below_drewN HB3.out _⟩

theorem again_none {s : ByteArray} {L : List Tok} {ln er : Int} (h : tokV s.data.toList = (L, ln, er)) (h0 : er ≠ 0) : L.length = 0 := by
  have := tok_none (l := s.data.toList) (by rw [h]; exact h0)
  rw [h] at this
  rw [show L = [] from this]; rfl
theorem again_write {s : ByteArray} {L : List Tok} {ln : Int} (h : tokV s.data.toList = (L, ln, 0)) (hs : s.size ≤ 2000) : writeV L = (joinW L, 0) ∧ L.all tokR = true ∧ (joinW L).length ≤ 4000 := by
  have h1 := tok_right (l := s.data.toList) (by rw [h])
  rw [h, sizeB] at h1
  have h2 : (joinW L).length ≤ 2 * s.size := h1.2.1
  exact ⟨write_ok h1.1 (by omega), h1.1, by omega⟩
theorem again_tok {L : List Tok} (h : writeV L = (joinW L, 0)) : tokV (bs (joinW L)).data.toList = (L.map (setL 1), 0, 0) := by
  have := tok_write (L := L) (by rw [h])
  rw [h] at this
  exact this
theorem right_small {L : List Tok} (h : L.all tokR = true) : ∀ x ∈ L, x.t.length ≤ 1000000 := fun x hx => by
  have := (wr_size (show rightT x.k x.t = true from List.all_eq_true.1 h x hx)).2
  omega
theorem set_right {L : List Tok} (h : L.all tokR = true) : (L.map (setL 1)).all tokR = true := by rw [List.all_map]; exact h
set_option maxHeartbeats 4000000 in
theorem lawagain_any (s : ByteArray) (w : World) (hs : s.size ≤ maxLen) :
    Calls Tryd.prog 5 #[.string s] w fun e w' => e = .returned (.bool true) ∧ Below w.heap.size w w' := by
  by_cases hbig : 2000 < s.size
  · go_enter Tryd.func5, Tryd.ntmps5
    go_wp2_with fail
    refine (awake_any _).mono ?_
    rintro e w1 ⟨rfl, hb1⟩
    go_wp2_with fail
    refine (awake_any _).mono ?_
    rintro e w2 ⟨rfl, hb2⟩
    go_wp2_with fail
    go_ret
    exact ⟨rfl, btwo hb1 hb2⟩
  · obtain ⟨L, ln, er, hv⟩ : ∃ L ln er, tokV s.data.toList = (L, ln, er) := ⟨_, _, _, rfl⟩
    have HV := Lib.hid hv
    have hL := tok_lenS hv
    obtain ⟨n, hn⟩ : ∃ n, n = L.length := ⟨_, rfl⟩
    have HN := Lib.hid hn
    have hn2 : n ≤ 2000 := by omega
    by_cases her : er = 0
    · subst her
      obtain ⟨hw, hall, hjl⟩ := again_write hv (by omega)
      have HW := Lib.hid hw
      have HA := Lib.hid hall
      obtain ⟨t, ht⟩ : ∃ t, bs (joinW L) = t := ⟨_, rfl⟩
      have HTS := Lib.hid ht
      have hts : t.size ≤ 4000 := by rw [← ht]; exact hjl
      have HV2 := Lib.hid (show tokV t.data.toList = (L.map (setL 1), 0, 0) by rw [← ht]; exact again_tok hw)
      have HW2 := Lib.hid (show writeV (L.map (setL 1)) = (joinW L, 0) by rw [writeV_set]; exact hw)
      have HN2 := Lib.hid (show n = (L.map (setL 1)).length by rw [List.length_map]; exact hn)
      clear hv hL hn hw hall ht hjl
      go_enter Tryd.func5, Tryd.ntmps5
      go_wp2_with fail
      refine (awake_any _).mono ?_
      rintro e w1 ⟨rfl, hb1⟩
      have HB1 := Lib.hid hb1
      clear hb1
      go_wp2_with fail
      refine (tokens_is HV.out _ hs).mono ?_
      rintro e w2 ⟨A1, n1, c1, rfl, hn1, hc1, ht1, hb2⟩
      obtain rfl : n1 = n := by rw [hn1, HN.out]
      have HT1 := Lib.hid ht1
      have HB2 := Lib.hid (btwo HB1.out hb2)
      clear ht1 hb2 hn1
      go_wp2_with fail
      refine (write_is HW.out n1 c1 A1 _ HN.out (by omega) (right_small HA.out) HT1.out).mono ?_
      rintro e w3 ⟨rfl, hb3⟩
      rw [HTS.out]
      have HT1b := Lib.hid (HT1.out.below hb3)
      have HB3 := Lib.hid (btwo HB2.out hb3)
      clear hb3
      go_wp2_with fail
      refine (tokens_is HV2.out _ (by unfold maxLen; omega)).mono ?_
      rintro e w4 ⟨A2, n2, c2, rfl, hn2', hc2, ht2, hb4⟩
      obtain rfl : n2 = n1 := by rw [hn2', HN2.out]
      have HT2 := Lib.hid ht2
      have HT1c := Lib.hid (HT1b.out.below hb4)
      have HB4 := Lib.hid (btwo HB3.out hb4)
      clear ht2 hb4 hn2'
      go_wp2_with fail
      refine (write_is HW2.out n2 c2 A2 _ HN2.out (by omega) (right_small (set_right HA.out)) HT2.out).mono ?_
      rintro e w5 ⟨rfl, hb5⟩
      rw [HTS.out]
      have HT1d := Lib.hid (HT1c.out.below hb5)
      have HT2d := Lib.hid (HT2.out.below hb5)
      have HB5 := Lib.hid (btwo HB4.out hb5)
      clear hb5
      have e9 : (t.toList == t.toList) = true := by simp
      go_wp2_with fail
      refine (same_any L (L.map (setL 1)) n2 n2 c1 c2 A1 A2 _ HN.out HN2.out (by omega) (by omega) HT1d.out HT2d.out).mono ?_
      rintro e w6 ⟨rfl, q, rfl⟩
      rw [sameL_set]
      go_wp2_with fail
      go_ret
      exact ⟨rfl, below_drewN HB5.out _⟩
    · have e1 : (er == 0) = false := by simpa using her
      have e2 : (er != 0) = true := by simpa using her
      have hn0 : n = 0 := by rw [hn]; exact again_none hv her
      subst hn0
      clear hv hL hn her
      go_enter Tryd.func5, Tryd.ntmps5
      go_wp2_with fail
      refine (awake_any _).mono ?_
      rintro e w1 ⟨rfl, hb1⟩
      have HB1 := Lib.hid hb1
      clear hb1
      go_wp2_with fail
      refine (tokens_is HV.out _ hs).mono ?_
      rintro e w2 ⟨A1, n1, c1, rfl, hn1, hc1, ht1, hb2⟩
      obtain rfl : n1 = 0 := by rw [hn1, ← HN.out]
      have HB2 := Lib.hid (btwo HB1.out hb2)
      clear ht1 hb2 hn1
      go_wp2_with fail
      go_ret
      exact ⟨rfl, HB2.out⟩

theorem bs_self (s : ByteArray) : bs s.data.toList = s := (bs_of rfl).symm
theorem tok_one_text {k : Int} {t : List UInt8} (h : rightT k t = true) : tokV (wrT k t) = ([⟨k, t, 1⟩], 0, 0) := by
  have h1 := (wr_size h).1
  rw [tok_ok (by omega)]
  have := lex_back (r := []) 1 h ws_nil
  rw [List.append_nil, lex_nil] at this
  rw [this]; rfl
set_option maxHeartbeats 4000000 in
theorem lawquote_any (s : ByteArray) (w : World) (hs : s.size ≤ maxLen) :
    Calls Tryd.prog 8 #[.string s] w fun e w' => e = .returned (.bool true) ∧ Below w.heap.size w w' := by
  by_cases hbig : 100 < s.size
  · go_enter Tryd.func8, Tryd.ntmps8
    go_wp2_with fail
    refine (awake_any _).mono ?_
    rintro e w1 ⟨rfl, hb1⟩
    go_wp2_with fail
    refine (awake_any _).mono ?_
    rintro e w2 ⟨rfl, hb2⟩
    go_wp2_with fail
    go_ret
    exact ⟨rfl, btwo hb1 hb2⟩
  · obtain ⟨t, x, hv⟩ : ∃ t x, quoV s.data.toList = (t, x) := ⟨_, _, rfl⟩
    have HQ := Lib.hid (show ∀ w : World, Calls Tryd.prog 27 #[.string s] w fun e w' => e = .returned (.tuple #[.string (bs t), .int .i64 x]) ∧ w = w' from fun w => by
      have := quote_any s w hs
      unfold QuoPost at this
      rw [hv] at this; exact this)
    have HR := Lib.hid (show ∀ w : World, Calls Tryd.prog 28 #[.string s] w fun e w' => e = .returned (.tuple #[.string (bs t), .int .i64 x]) ∧ w = w' from fun w => by
      have := rquote_any s w hs
      unfold QuoPost at this
      rw [hv] at this; exact this)
    obtain ⟨q, hq⟩ : ∃ q, bs t = q := ⟨_, rfl⟩
    have HQS := Lib.hid hq
    have e9 : (q.toList == q.toList) = true := by simp
    by_cases hx : x = 0
    · subst hx
      have hright : rightT 3 s.data.toList = true ∧ t = wrT 3 s.data.toList := by
        unfold quoV at hv
        by_cases h60 : 60 < s.data.toList.length
        · rw [if_pos h60] at hv; simp at hv
        · rw [if_neg h60] at hv
          by_cases hall : s.data.toList.all isQu = true
          · rw [if_pos hall] at hv
            injection hv with h1 _
            refine ⟨?_, h1.symm⟩
            rw [right_3]; unfold quoB
            rw [hall, decide_eq_true (show s.data.toList.length ≤ 60 by omega)]; rfl
          · rw [if_neg hall] at hv; simp at hv
      have HT := Lib.hid (show tokV q.data.toList = ([⟨3, s.data.toList, 1⟩], 0, 0) by rw [← hq, bs_list, hright.2]; exact tok_one_text hright.1)
      have hqs : q.size ≤ 62 := by rw [← hq, bs_size, hright.2]; exact (wr_size hright.1).1
      have HSS := Lib.hid (bs_self s)
      clear hv hq hright
      go_enter Tryd.func8, Tryd.ntmps8
      go_wp2_with fail
      refine (awake_any _).mono ?_
      rintro e w1 ⟨rfl, hb1⟩
      have HB1 := Lib.hid hb1
      clear hb1
      go_wp2_with fail
      refine (HQ.out _).mono ?_
      rintro e w' ⟨rfl, rfl⟩
      rw [HQS.out]
      go_wp2_with fail
      refine (HR.out _).mono ?_
      rintro e w' ⟨rfl, rfl⟩
      rw [HQS.out]
      go_wp2_with fail
      refine (tokens_is HT.out _ (by unfold maxLen; omega)).mono ?_
      rintro e w2 ⟨A1, n1, c1, rfl, hn1, hc1, ht1, hb2⟩
      obtain rfl : n1 = 1 := hn1
      obtain ⟨b1, o1, rfl, hl1, hr1⟩ := ht1 (by simp)
      obtain ⟨x1, x2, x3⟩ := hr1 0 _ rfl
      simp only [Nat.zero_mul, Nat.add_zero, HSS.out] at x1 x2 x3
      have HB2 := Lib.hid (btwo HB1.out hb2)
      clear ht1 hb2 hr1
      have e8 : (s.toList == s.toList) = true := by simp
      go_wp2_with fail
      go_ret
      exact ⟨rfl, HB2.out⟩
    · have e1 : (x == 0) = false := by simpa using hx
      have e2 : (x != 0) = true := by simpa using hx
      clear hv hq hx
      go_enter Tryd.func8, Tryd.ntmps8
      go_wp2_with fail
      refine (awake_any _).mono ?_
      rintro e w1 ⟨rfl, hb1⟩
      have HB1 := Lib.hid hb1
      clear hb1
      go_wp2_with fail
      refine (HQ.out _).mono ?_
      rintro e w' ⟨rfl, rfl⟩
      rw [HQS.out]
      go_wp2_with fail
      refine (HR.out _).mono ?_
      rintro e w' ⟨rfl, rfl⟩
      rw [HQS.out]
      go_wp2_with fail
      go_ret
      exact ⟨rfl, HB1.out⟩
set_option maxHeartbeats 4000000 in
theorem lawlines_any (s : ByteArray) (w : World) (hs : s.size ≤ maxLen) (hm : MaxAt w) :
    Calls Tryd.prog 9 #[.string s] w fun e w' => e = .returned (.bool true) ∧ Below w.heap.size w w' := by
  have HM := Lib.hid hm
  clear hm
  by_cases hbig : 2000 < s.size
  · go_enter Tryd.func9, Tryd.ntmps9
    go_wp2_with fail
    refine (awake_any _).mono ?_
    rintro e w1 ⟨rfl, hb1⟩
    go_wp2_with fail
    refine (awake_any _).mono ?_
    rintro e w2 ⟨rfl, hb2⟩
    go_wp2_with fail
    go_ret
    exact ⟨rfl, btwo hb1 hb2⟩
  · obtain ⟨L, hv⟩ : ∃ L, linesV s.data.toList = L := ⟨_, rfl⟩
    have HV := Lib.hid hv
    have hL : L.length ≤ s.size := by have := lines_len s.data.toList; rw [hv, sizeB] at this; exact this
    obtain ⟨n, hn⟩ : ∃ n, n = L.length := ⟨_, rfl⟩
    have HN := Lib.hid hn
    have hn2 : n ≤ 2000 := by omega
    have hs2 : s.size ≤ 2000 := by omega
    clear hv hL hn
    go_enter Tryd.func9, Tryd.ntmps9
    go_wp2_with fail
    refine (awake_any _).mono ?_
    rintro e w1 ⟨rfl, hb1⟩
    have HB1 := Lib.hid hb1
    clear hb1
    go_wp2_with fail
    refine (lines_any s _ hs2 (HM.out.below HB1.out)).mono ?_
    rw [HV.out]
    rintro e w2 ⟨A1, n1, c1, rfl, hn1, hc1, ht1, hb2⟩
    obtain rfl : n1 = n := by rw [hn1, HN.out]
    have HT1 := Lib.hid ht1
    have HB2 := Lib.hid (btwo HB1.out hb2)
    clear ht1 hb2 hn1
    go_wp2_with fail
    refine (rlines_any s _ hs2).mono ?_
    rw [HV.out]
    rintro e w3 ⟨A2, n2, c2, rfl, hn2', hc2, ht2, hb3⟩
    obtain rfl : n2 = n1 := by rw [hn2', HN.out]
    have HT2 := Lib.hid ht2
    have HT1b := Lib.hid (HT1.out.below hb3)
    have HB3 := Lib.hid (btwo HB2.out hb3)
    clear ht2 hb3 hn2'
    go_wp2_with fail
    refine (reqs_refl L n2 c1 c2 A1 A2 _ HN.out (by omega) HT1b.out HT2.out).mono ?_
    rintro e w4 ⟨rfl, q, rfl⟩
    go_wp2_with fail
    go_ret
    exact ⟨rfl, below_drewN HB3.out _⟩
end Go.Proofs.YtngkhggofjeflaaDoor
