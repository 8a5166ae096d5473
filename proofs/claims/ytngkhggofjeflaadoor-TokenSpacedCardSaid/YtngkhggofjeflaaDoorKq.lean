/- What the statements about names, numbers, equal lists and long texts answer: true, whatever the input. -/
import Derived.Test.YtngkhggofjeflaaDoorKp
namespace Go.Proofs.YtngkhggofjeflaaDoor
open Go.RowKit
set_option linter.unusedVariables false
set_option maxRecDepth 100000

theorem number_is {s : ByteArray} {x : Int} {b : Bool} (h : numV s.data.toList = (x, b)) (w : World) (hs : s.size ≤ maxLen) :
    Calls Tryd.prog 23 #[.string s] w fun e w' => e = .returned (.tuple #[.int .i64 x, .bool b]) ∧ Below w.heap.size w w' := by
  have := number_any s w hs
  unfold NumPost at this
  rw [h] at this; exact this
theorem rnumber_is {s : ByteArray} {x : Int} {b : Bool} (h : numV s.data.toList = (x, b)) (w : World) (hs : s.size ≤ maxLen) :
    Calls Tryd.prog 24 #[.string s] w fun e w' => e = .returned (.tuple #[.int .i64 x, .bool b]) ∧ Below w.heap.size w w' := by
  have := rnumber_any s w hs
  unfold NumPost at this
  rw [h] at this; exact this

set_option maxHeartbeats 8000000 in
theorem lawnames_any (s : ByteArray) (w : World) (hs : s.size ≤ maxLen) :
    Calls Tryd.prog 7 #[.string s] w fun e w' => e = .returned (.bool true) ∧ Below w.heap.size w w' := by
  by_cases hbig : 100 < s.size
  · go_enter Tryd.func7, Tryd.ntmps7
    go_wp2_with fail
    refine (awake_any _).mono ?_
    rintro e w1 ⟨rfl, hb1⟩
    go_wp2_with fail
    refine (awake_any _).mono ?_
    rintro e w2 ⟨rfl, hb2⟩
    go_wp2_with fail
    go_ret
    exact ⟨rfl, btwo hb1 hb2⟩
  · obtain ⟨x, b, hnv⟩ : ∃ x b, numV s.data.toList = (x, b) := ⟨_, _, rfl⟩
    have HNV := Lib.hid hnv
    have e7 : (x == x) = true := by simp
    have e6 : (b == b) = true := by simp
    cases hnb : nameB s.data.toList with
    | true =>
      have HNB := Lib.hid hnb
      have HV := Lib.hid (show tokV s.data.toList = ([⟨1, s.data.toList, 1⟩], 0, 0) from tok_one_text (k := 1) hnb)
      have HSS := Lib.hid (bs_self s)
      have e8 : (s.toList == s.toList) = true := by simp
      clear hnv hnb
      go_enter Tryd.func7, Tryd.ntmps7
      go_wp2_with fail
      refine (awake_any _).mono ?_
      rintro e w1 ⟨rfl, hb1⟩
      have HB1 := Lib.hid hb1
      clear hb1
      go_wp2_with fail
      refine (number_is HNV.out _ hs).mono ?_
      rintro e w2 ⟨rfl, hb2⟩
      have HB2 := Lib.hid (btwo HB1.out hb2)
      clear hb2
      go_wp2_with fail
      refine (rnumber_is HNV.out _ hs).mono ?_
      rintro e w3 ⟨rfl, hb3⟩
      have HB3 := Lib.hid (btwo HB2.out hb3)
      clear hb3
      go_wp2_with fail
      refine (isname_any _ _ hs).mono ?_
      rintro e w' ⟨rfl, rfl⟩
      rw [HNB.out]
      go_wp2_with fail
      refine (risname_any _ _ hs).mono ?_
      rintro e w' ⟨rfl, rfl⟩
      rw [HNB.out]
      go_wp2_with fail
      refine (tokens_is HV.out _ hs).mono ?_
      rintro e w4 ⟨A1, n1, c1, rfl, hn1, hc1, ht1, hb4⟩
      have HB4 := Lib.hid (btwo HB3.out hb4)
      clear hb4
      obtain rfl : n1 = 1 := hn1
      obtain ⟨b1, o1, rfl, hl1, hr1⟩ := ht1 (by simp)
      obtain ⟨x1, x2, x3⟩ := hr1 0 _ rfl
      simp only [Nat.zero_mul, Nat.add_zero, HSS.out] at x1 x2 x3
      clear ht1 hr1
      go_wp2_with fail
      refine (risname_any _ _ hs).mono ?_
      rintro e w' ⟨rfl, rfl⟩
      rw [HNB.out]
      go_wp2_with fail
      go_ret
      exact ⟨rfl, HB4.out⟩
    | false =>
      have HNB := Lib.hid hnb
      obtain ⟨L, ln, er, hv⟩ : ∃ L ln er, tokV s.data.toList = (L, ln, er) := ⟨_, _, _, rfl⟩
      have HV := Lib.hid hv
      have hL := tok_lenS hv
      obtain ⟨n, hn⟩ : ∃ n, n = L.length := ⟨_, rfl⟩
      have HN := Lib.hid hn
      have hn2 : n ≤ 100 := by omega
      clear hnv hnb hv hL hn
      by_cases her : er = 0
      · subst her
        by_cases h1 : n = 1
        · subst h1
          obtain ⟨y, hy⟩ : ∃ y, L[0]? = some y := ⟨L[0]'(by have := HN.out; omega), List.getElem?_eq_getElem (by have := HN.out; omega)⟩
          cases hq : (bs y.t).toList == s.toList
          all_goals
            go_enter Tryd.func7, Tryd.ntmps7
            go_wp2_with fail
            refine (awake_any _).mono ?_
            rintro e w1 ⟨rfl, hb1⟩
            have HB1 := Lib.hid hb1
            clear hb1
            go_wp2_with fail
            refine (number_is HNV.out _ hs).mono ?_
            rintro e w2 ⟨rfl, hb2⟩
            have HB2 := Lib.hid (btwo HB1.out hb2)
            clear hb2
            go_wp2_with fail
            refine (rnumber_is HNV.out _ hs).mono ?_
            rintro e w3 ⟨rfl, hb3⟩
            have HB3 := Lib.hid (btwo HB2.out hb3)
            clear hb3
            go_wp2_with fail
            refine (isname_any _ _ hs).mono ?_
            rintro e w' ⟨rfl, rfl⟩
            rw [HNB.out]
            go_wp2_with fail
            refine (risname_any _ _ hs).mono ?_
            rintro e w' ⟨rfl, rfl⟩
            rw [HNB.out]
            go_wp2_with fail
            refine (tokens_is HV.out _ hs).mono ?_
            rintro e w4 ⟨A1, n1, c1, rfl, hn1, hc1, ht1, hb4⟩
            have HB4 := Lib.hid (btwo HB3.out hb4)
            clear hb4
            obtain rfl : n1 = 1 := by rw [hn1, ← HN.out]
            obtain ⟨b1, o1, rfl, hl1, hr1⟩ := ht1 (by rw [← hn1]; decide)
            obtain ⟨x1, x2, x3⟩ := hr1 0 y hy
            simp only [Nat.zero_mul, Nat.add_zero] at x1 x2 x3
            clear ht1 hr1 hn1
            go_wp2_with fail
            refine (risname_any _ _ hs).mono ?_
            rintro e w' ⟨rfl, rfl⟩
            rw [HNB.out]
            go_wp2_with fail
            go_ret
            exact ⟨rfl, HB4.out⟩
        · have e1 : ((n : Int) == 1) = false := by simp; omega
          go_enter Tryd.func7, Tryd.ntmps7
          go_wp2_with fail
          refine (awake_any _).mono ?_
          rintro e w1 ⟨rfl, hb1⟩
          have HB1 := Lib.hid hb1
          clear hb1
          go_wp2_with fail
          refine (number_is HNV.out _ hs).mono ?_
          rintro e w2 ⟨rfl, hb2⟩
          have HB2 := Lib.hid (btwo HB1.out hb2)
          clear hb2
          go_wp2_with fail
          refine (rnumber_is HNV.out _ hs).mono ?_
          rintro e w3 ⟨rfl, hb3⟩
          have HB3 := Lib.hid (btwo HB2.out hb3)
          clear hb3
          go_wp2_with fail
          refine (isname_any _ _ hs).mono ?_
          rintro e w' ⟨rfl, rfl⟩
          rw [HNB.out]
          go_wp2_with fail
          refine (risname_any _ _ hs).mono ?_
          rintro e w' ⟨rfl, rfl⟩
          rw [HNB.out]
          go_wp2_with fail
          refine (tokens_is HV.out _ hs).mono ?_
          rintro e w4 ⟨A1, n1, c1, rfl, hn1, hc1, ht1, hb4⟩
          have HB4 := Lib.hid (btwo HB3.out hb4)
          clear hb4
          obtain rfl : n1 = n := by rw [hn1, ← HN.out]
          clear ht1 hn1
          go_wp2_with fail
          refine (risname_any _ _ hs).mono ?_
          rintro e w' ⟨rfl, rfl⟩
          rw [HNB.out]
          go_wp2_with fail
          go_ret
          exact ⟨rfl, HB4.out⟩
      · have e1 : (er == 0) = false := by simpa using her
        have e2 : (er != 0) = true := by simpa using her
        clear her
        go_enter Tryd.func7, Tryd.ntmps7
        go_wp2_with fail
        refine (awake_any _).mono ?_
        rintro e w1 ⟨rfl, hb1⟩
        have HB1 := Lib.hid hb1
        clear hb1
        go_wp2_with fail
        refine (number_is HNV.out _ hs).mono ?_
        rintro e w2 ⟨rfl, hb2⟩
        have HB2 := Lib.hid (btwo HB1.out hb2)
        clear hb2
        go_wp2_with fail
        refine (rnumber_is HNV.out _ hs).mono ?_
        rintro e w3 ⟨rfl, hb3⟩
        have HB3 := Lib.hid (btwo HB2.out hb3)
        clear hb3
        go_wp2_with fail
        refine (isname_any _ _ hs).mono ?_
        rintro e w' ⟨rfl, rfl⟩
        rw [HNB.out]
        go_wp2_with fail
        refine (risname_any _ _ hs).mono ?_
        rintro e w' ⟨rfl, rfl⟩
        rw [HNB.out]
        go_wp2_with fail
        refine (tokens_is HV.out _ hs).mono ?_
        rintro e w4 ⟨A1, n1, c1, rfl, hn1, hc1, ht1, hb4⟩
        have HB4 := Lib.hid (btwo HB3.out hb4)
        clear hb4
        obtain rfl : n1 = n := by rw [hn1, ← HN.out]
        clear ht1 hn1
        go_wp2_with fail
        refine (risname_any _ _ hs).mono ?_
        rintro e w' ⟨rfl, rfl⟩
        rw [HNB.out]
        go_wp2_with fail
        go_ret
        exact ⟨rfl, HB4.out⟩

set_option maxHeartbeats 8000000 in
theorem lawlong_any (s : ByteArray) (N : Nat) (w : World) (hs : s.size ≤ maxLen) (hN : N ≤ 65535) :
    Calls Tryd.prog 11 #[.string s, .int .u16 (N : Int)] w fun e w' => e = .returned (.bool true) ∧ Below w.heap.size w w' := by
  obtain ⟨t, ht⟩ : ∃ t : Nat, t = N % 25001 := ⟨_, rfl⟩
  have ht2 : t ≤ 25000 := by omega
  have HTM := Lib.hid (show ((N : Int) % 25001) = (t : Int) by omega)
  have h0N : 0 ≤ (N : Int) := by omega
  have h1N : (N : Int) ≤ 65535 := by omega
  clear ht
  by_cases h0 : s.size = 0
  · have hx := (empty_list h0).2
    clear h0
    go_enter Tryd.func11, Tryd.ntmps11
    go_wp2_with fail
    refine (awake_any _).mono ?_
    rintro e w1 ⟨rfl, hb1⟩
    go_wp2_with fail
    refine (awake_any _).mono ?_
    rintro e w2 ⟨rfl, hb2⟩
    go_wp2_with fail
    go_ret
    exact ⟨rfl, btwo hb1 hb2⟩
  · have hx := full_list h0
    by_cases h40 : 40 < s.size
    · clear h0
      go_enter Tryd.func11, Tryd.ntmps11
      go_wp2_with fail
      refine (awake_any _).mono ?_
      rintro e w1 ⟨rfl, hb1⟩
      go_wp2_with fail
      refine (awake_any _).mono ?_
      rintro e w2 ⟨rfl, hb2⟩
      go_wp2_with fail
      go_ret
      exact ⟨rfl, btwo hb1 hb2⟩
    · obtain ⟨p, hp⟩ : ∃ p : Nat, p = s.size * t := ⟨_, rfl⟩
      have HP := Lib.hid hp
      have hp1 : p ≤ 1000000 := by
        have : s.size * t ≤ 40 * 25000 := Nat.mul_le_mul (by omega) ht2
        omega
      have htm : (N : Int) % 25001 = (t : Int) := HTM.out
      have hw : (s.size : Int) * (t : Int) = (p : Int) := by rw [hp]; exact (Int.natCast_mul _ _).symm
      clear hp
      by_cases hbig : 25000 < p
      · clear h0
        go_enter Tryd.func11, Tryd.ntmps11
        go_wp2_with fail
        refine (awake_any _).mono ?_
        rintro e w1 ⟨rfl, hb1⟩
        go_wp2_with fail
        refine (awake_any _).mono ?_
        rintro e w2 ⟨rfl, hb2⟩
        go_wp2_with fail
        go_ret
        exact ⟨rfl, btwo hb1 hb2⟩
      · have hlong : (Lib.repeatL s.data.toList t).length = p := by rw [Lib.repeatL_length, sizeB, HP.out, Nat.mul_comm]
        obtain ⟨g, hg⟩ : ∃ g : ByteArray, (⟨(Lib.repeatL s.data.toList t).toArray⟩ : ByteArray) = g := ⟨_, rfl⟩
        have HG := Lib.hid hg
        have hgs : g.size ≤ 25000 := by
          have : g.size = (Lib.repeatL s.data.toList t).length := by rw [← hg]; rfl
          omega
        obtain ⟨L, ln, er, hv⟩ : ∃ L ln er, tokV g.data.toList = (L, ln, er) := ⟨_, _, _, rfl⟩
        have HV := Lib.hid hv
        have hL := tok_lenS hv
        obtain ⟨n, hn⟩ : ∃ n, n = L.length := ⟨_, rfl⟩
        have HN := Lib.hid hn
        have hn2 : n ≤ 25000 := by omega
        have hmul : s.size * t ≤ 140737488355328 := by rw [← HP.out]; omega
        clear hv hL hn hg hlong
        go_enter Tryd.func11, Tryd.ntmps11
        go_wp2_with fail
        refine (awake_any _).mono ?_
        rintro e w1 ⟨rfl, hb1⟩
        have HB1 := Lib.hid hb1
        clear hb1
        go_wp2_with fail
        refine (Tryd.strings_Repeat s t _ (by omega) hmul).mono ?_
        rintro e w2 ⟨rfl, hb2⟩
        rw [HG.out]
        have HB2 := Lib.hid (btwo HB1.out hb2)
        clear hb2
        go_wp2_with fail
        refine (tokens_is HV.out _ (by unfold maxLen; omega)).mono ?_
        rintro e w3 ⟨A1, n1, c1, rfl, hn1, hc1, ht1, hb3⟩
        obtain rfl : n1 = n := by rw [hn1, HN.out]
        have HT1 := Lib.hid ht1
        have HB3 := Lib.hid (btwo HB2.out hb3)
        clear ht1 hb3 hn1
        go_wp2_with fail
        refine (rtokens_is HV.out _ (by unfold maxLen; omega)).mono ?_
        rintro e w4 ⟨A2, n2, c2, rfl, hn2', hc2, ht2', hb4⟩
        obtain rfl : n2 = n1 := by rw [hn2', HN.out]
        have HT2 := Lib.hid ht2'
        have HT1b := Lib.hid (HT1.out.below hb4)
        have HB4 := Lib.hid (btwo HB3.out hb4)
        clear ht2' hb4 hn2'
        go_wp2_with fail
        refine (eqt_refl L n2 c1 c2 A1 A2 _ HN.out (by omega) HT1b.out HT2.out).mono ?_
        rintro e w5 ⟨rfl, q, rfl⟩
        go_wp2_with fail
        go_ret
        exact ⟨rfl, below_drewN HB4.out _⟩
end Go.Proofs.YtngkhggofjeflaaDoor
