/- What the statement about what patterns have in common answers: true, whatever the input. -/
import Derived.Test.YtlkigmlgbnlkaaaDoorPo
import Derived.Test.YtlkigmlgbnlkaaaDoorPh
namespace Go.Proofs.YtlkigmlgbnlkaaaDoor
open Go.RowKit
set_option linter.unusedVariables false

theorem agB_join {a b c : UInt8} (h : agB a c = true ∨ agB b c = true) : agB (joinB a b) c = true := by
  unfold agB joinB at *
  by_cases e : a = b
  · subst e; rw [if_pos rfl]; rcases h with h | h <;> exact h
  · rw [if_neg e]; simp
theorem agB_both {a b c : UInt8} (hc : c ≠ 120) (h1 : agB a c = true) (h2 : agB b c = true) : agB a b = true := by
  unfold agB at *
  simp [hc] at h1 h2
  rcases h1 with rfl | rfl
  · rcases h2 with rfl | rfl <;> simp
  · simp
theorem agB_meet {a b c : UInt8} (hc : c ≠ 120) (h : agB a b = true) : agB (meetB a b) c = (agB a c && agB b c) := by
  unfold meetB
  by_cases e : a = 120
  · subst e; rw [if_pos rfl]; simp [agB]
  · rw [if_neg e]
    unfold agB at *
    simp [e] at h
    rcases h with rfl | rfl
    · simp
    · simp
theorem agL_join : ∀ p q s : List UInt8, (agL p s = true ∨ agL q s = true) → agL (List.zipWith joinB p q) s = true
  | [], _, _, _ => rfl
  | _ :: _, [], _, _ => by simp [agL]
  | _ :: _, _ :: _, [], _ => by simp [agL]
  | a :: p, b :: q, c :: s, h => by
    rw [List.zipWith_cons_cons]
    simp only [agL, Bool.and_eq_true] at h ⊢
    rcases h with h | h
    · exact ⟨agB_join (.inl h.1), agL_join p q s (.inl h.2)⟩
    · exact ⟨agB_join (.inr h.1), agL_join p q s (.inr h.2)⟩
theorem agL_both : ∀ p q s : List UInt8, p.length = q.length → q.length = s.length → (120 : UInt8) ∉ s → agL p s = true → agL q s = true → agL p q = true
  | [], _, _, _, _, _, _, _ => rfl
  | _ :: _, [], _, h, _, _, _, _ => by simp at h
  | _ :: _, _ :: _, [], _, h, _, _, _ => by simp at h
  | a :: p, b :: q, c :: s, h1, h2, hs, h3, h4 => by
    simp only [agL, Bool.and_eq_true] at h3 h4 ⊢
    simp only [List.mem_cons, not_or] at hs
    exact ⟨agB_both (fun e => hs.1 e.symm) h3.1 h4.1, agL_both p q s (by simpa using h1) (by simpa using h2) hs.2 h3.2 h4.2⟩
theorem agL_meet : ∀ p q s : List UInt8, p.length = q.length → q.length = s.length → (120 : UInt8) ∉ s → agL p q = true → agL (List.zipWith meetB p q) s = (agL p s && agL q s)
  | [], [], [], _, _, _, _ => rfl
  | [], _ :: _, _, h, _, _, _ => by simp at h
  | [], [], _ :: _, _, h, _, _ => by simp at h
  | _ :: _, [], _, h, _, _, _ => by simp at h
  | _ :: _, _ :: _, [], _, h, _, _ => by simp at h
  | a :: p, b :: q, c :: s, h1, h2, hs, h => by
    simp only [agL, Bool.and_eq_true] at h
    simp only [List.mem_cons, not_or] at hs
    rw [List.zipWith_cons_cons]
    simp only [agL]
    rw [agB_meet (fun e => hs.1 e.symm) h.1, agL_meet p q s (by simpa using h1) (by simpa using h2) hs.2 h.2]
    cases agB a c <;> cases agB b c <;> cases agL p s <;> cases agL q s <;> rfl

set_option maxRecDepth 100000 in
set_option maxHeartbeats 16000000 in
theorem lawcommon_any (p q s : ByteArray) (w : World) (hp : p.size ≤ maxLen) (hq : q.size ≤ maxLen) (hs : s.size ≤ maxLen) (hm : MaxAt w) :
    Calls Tryd.prog 10 #[.string p, .string q, .string s] w fun e w' => e = .returned (.bool true) ∧ Below w.heap.size w w' := by
  have HM := Lib.hid hm
  clear hm
  obtain ⟨x, hx⟩ : ∃ x, x = pErr p.data.toList := ⟨_, rfl⟩
  obtain ⟨y, hy⟩ : ∃ y, y = pErr q.data.toList := ⟨_, rfl⟩
  obtain ⟨z, hz⟩ : ∃ z, z = pErr s.data.toList := ⟨_, rfl⟩
  have HX := Lib.hid hx
  have HY := Lib.hid hy
  have HZ := Lib.hid hz
  clear hx hy hz
  by_cases h0 : x ≠ 0
  · have hf1 : (x == 0) = false := by simp [h0]
    have hf2 : (x != 0) = true := by simp [h0]
    clear h0
    go_enter Tryd.func10, Tryd.ntmps10
    go_wp2_with fail
    refine (awake_any _ HM.out).mono ?_
    rintro e w1 ⟨rfl, hb1⟩
    go_wp2_with fail
    refine (rvalid_is _ hp HX.out).mono ?_
    rintro e w' ⟨rfl, rfl⟩
    go_wp2_with fail
    refine (awake_any _ (HM.out.below hb1)).mono ?_
    rintro e w2 ⟨rfl, hb2⟩
    go_wp2_with fail
    go_ret
    exact ⟨rfl, btwo hb1 hb2⟩
  have hx0 : x = 0 := by omega
  subst hx0
  clear h0
  by_cases h0 : y ≠ 0
  · have hf1 : (y == 0) = false := by simp [h0]
    have hf2 : (y != 0) = true := by simp [h0]
    clear h0
    go_enter Tryd.func10, Tryd.ntmps10
    go_wp2_with fail
    refine (awake_any _ HM.out).mono ?_
    rintro e w1 ⟨rfl, hb1⟩
    go_wp2_with fail
    refine (rvalid_is _ hp HX.out).mono ?_
    rintro e w' ⟨rfl, rfl⟩
    go_wp2_with fail
    refine (rvalid_is _ hq HY.out).mono ?_
    rintro e w' ⟨rfl, rfl⟩
    go_wp2_with fail
    refine (awake_any _ (HM.out.below hb1)).mono ?_
    rintro e w2 ⟨rfl, hb2⟩
    go_wp2_with fail
    go_ret
    exact ⟨rfl, btwo hb1 hb2⟩
  have hy0 : y = 0 := by omega
  subst hy0
  clear h0
  by_cases h0 : z ≠ 0
  · have hf1 : (z == 0) = false := by simp [h0]
    have hf2 : (z != 0) = true := by simp [h0]
    clear h0
    go_enter Tryd.func10, Tryd.ntmps10
    go_wp2_with fail
    refine (awake_any _ HM.out).mono ?_
    rintro e w1 ⟨rfl, hb1⟩
    go_wp2_with fail
    refine (rvalid_is _ hp HX.out).mono ?_
    rintro e w' ⟨rfl, rfl⟩
    go_wp2_with fail
    refine (rvalid_is _ hq HY.out).mono ?_
    rintro e w' ⟨rfl, rfl⟩
    go_wp2_with fail
    refine (rvalid_is _ hs HZ.out).mono ?_
    rintro e w' ⟨rfl, rfl⟩
    go_wp2_with fail
    refine (awake_any _ (HM.out.below hb1)).mono ?_
    rintro e w2 ⟨rfl, hb2⟩
    go_wp2_with fail
    go_ret
    exact ⟨rfl, btwo hb1 hb2⟩
  have hz0 : z = 0 := by omega
  subst hz0
  clear h0
  by_cases h0 : p.size ≠ q.size
  · have hf1 : ((p.size : Int) == (q.size : Int)) = false := by simp; omega
    have hf2 : ((p.size : Int) != (q.size : Int)) = true := by simp; omega
    clear h0
    go_enter Tryd.func10, Tryd.ntmps10
    go_wp2_with fail
    refine (awake_any _ HM.out).mono ?_
    rintro e w1 ⟨rfl, hb1⟩
    go_wp2_with fail
    refine (rvalid_is _ hp HX.out).mono ?_
    rintro e w' ⟨rfl, rfl⟩
    go_wp2_with fail
    refine (rvalid_is _ hq HY.out).mono ?_
    rintro e w' ⟨rfl, rfl⟩
    go_wp2_with fail
    refine (rvalid_is _ hs HZ.out).mono ?_
    rintro e w' ⟨rfl, rfl⟩
    go_wp2_with fail
    refine (awake_any _ (HM.out.below hb1)).mono ?_
    rintro e w2 ⟨rfl, hb2⟩
    go_wp2_with fail
    go_ret
    exact ⟨rfl, btwo hb1 hb2⟩
  have hpq : p.size = q.size := by omega
  have HPQ := Lib.hid hpq
  have g1 : ((p.size : Int) == (q.size : Int)) = true := by simp; omega
  have g2 : ((p.size : Int) != (q.size : Int)) = false := by simp; omega
  clear h0 hpq
  by_cases h0 : q.size ≠ s.size
  · have hf1 : ((q.size : Int) == (s.size : Int)) = false := by simp; omega
    have hf2 : ((q.size : Int) != (s.size : Int)) = true := by simp; omega
    clear h0
    go_enter Tryd.func10, Tryd.ntmps10
    go_wp2_with fail
    refine (awake_any _ HM.out).mono ?_
    rintro e w1 ⟨rfl, hb1⟩
    go_wp2_with fail
    refine (rvalid_is _ hp HX.out).mono ?_
    rintro e w' ⟨rfl, rfl⟩
    go_wp2_with fail
    refine (rvalid_is _ hq HY.out).mono ?_
    rintro e w' ⟨rfl, rfl⟩
    go_wp2_with fail
    refine (rvalid_is _ hs HZ.out).mono ?_
    rintro e w' ⟨rfl, rfl⟩
    go_wp2_with fail
    refine (awake_any _ (HM.out.below hb1)).mono ?_
    rintro e w2 ⟨rfl, hb2⟩
    go_wp2_with fail
    go_ret
    exact ⟨rfl, btwo hb1 hb2⟩
  have hqr : q.size = s.size := by omega
  have HQR := Lib.hid hqr
  have g3 : ((q.size : Int) == (s.size : Int)) = true := by simp; omega
  have g4 : ((q.size : Int) != (s.size : Int)) = false := by simp; omega
  clear h0 hqr
  have vp : pErr p.data.toList = 0 := HX.out.symm
  have vq : pErr q.data.toList = 0 := HY.out.symm
  have vs : pErr s.data.toList = 0 := HZ.out.symm
  have lpq : p.data.toList.length = q.data.toList.length := HPQ.out
  have lqs : q.data.toList.length = s.data.toList.length := HQR.out
  have s60 : s.size ≤ 60 := size_max vs
  obtain ⟨j, hj⟩ : ∃ j : ByteArray, j.data.toList = List.zipWith joinB p.data.toList q.data.toList := ⟨⟨(List.zipWith joinB p.data.toList q.data.toList).toArray⟩, rfl⟩
  obtain ⟨vj, lj⟩ := join_valid vp vq lpq
  have hjm : j.size ≤ maxLen := by
    have h : j.size = j.data.toList.length := rfl
    rw [h, hj, lj]; exact hp
  have VP := Lib.hid vp
  have VQ := Lib.hid vq
  have VS := Lib.hid vs
  have LPQ := Lib.hid lpq
  have LQS := Lib.hid lqs
  have HJ := Lib.hid hj
  have VJ := Lib.hid vj
  have LJ := Lib.hid lj
  have C2 := Lib.hid (show joinVal p.data.toList q.data.toList = (j.data.toList, 0) by rw [hj]; exact join_is vp vq lpq)
  clear hj vj lj vp vq vs lpq lqs
  go_enter Tryd.func10, Tryd.ntmps10
  go_wp2_with fail
  refine (awake_any _ HM.out).mono ?_
  rintro e w1 ⟨rfl, hb1⟩
  have HB1 := Lib.hid hb1
  clear hb1
  go_wp2_with fail
  refine (rvalid_is _ hp HX.out).mono ?_
  rintro e w' ⟨rfl, rfl⟩
  go_wp2_with fail
  refine (rvalid_is _ hq HY.out).mono ?_
  rintro e w' ⟨rfl, rfl⟩
  go_wp2_with fail
  refine (rvalid_is _ hs HZ.out).mono ?_
  rintro e w' ⟨rfl, rfl⟩
  go_wp2_with fail
  go_loop [48] (fun i => ∃ k : Nat, k ≤ s.size ∧ i = .int .i64 (k : Int) ∧ (120 : UInt8) ∉ s.data.toList.take k) (fun i => s.size - (intOf i).toNat)
  case atStart => exact ⟨0, Nat.zero_le _, rfl, by simp⟩
  case round =>
    obtain ⟨k, hk, rfl, hnx⟩ := hrel
    have HNX := Lib.hid hnx
    clear hnx
    by_cases hlt : k < s.size
    · by_cases h120 : (s[k].toNat : Int) = 120
      · go_wp2
        go_ret
        exact ⟨rfl, HB1.out⟩
      · have HNX2 := Lib.hid (show (120 : UInt8) ∉ s.data.toList.take (k + 1) from new_x hlt HNX.out (fun e => h120 (int_120.2 e)))
        go_wp2
        go_round
        case rel => exact ⟨k + 1, by omega, by go_num, HNX2.out⟩
        case measure => simp [intOf]; omega
    · have HS := Lib.hid (show (120 : UInt8) ∉ s.data.toList by rw [← takeAll (s := s) (k := k) (by omega)]; exact HNX.out)
      obtain ⟨one, h1⟩ : ∃ one, one = agL p.data.toList s.data.toList := ⟨_, rfl⟩
      obtain ⟨two, h2⟩ : ∃ two, two = agL q.data.toList s.data.toList := ⟨_, rfl⟩
      have C3 := Lib.hid (show matchV p.data.toList s.data.toList = one by rw [h1]; exact match_is VP.out VS.out (LPQ.out.trans LQS.out))
      have C4 := Lib.hid (show matchV q.data.toList s.data.toList = two by rw [h2]; exact match_is VQ.out VS.out LQS.out)
      have C5 := Lib.hid (show one = true ∨ two = true → matchV j.data.toList s.data.toList = true from fun h => by
        rw [HJ.out, match_is VJ.out VS.out (by rw [LJ.out]; exact LPQ.out.trans LQS.out)]
        exact agL_join _ _ _ (by rw [← h1, ← h2]; exact h))
      cases hg : agL p.data.toList q.data.toList with
      | false =>
        have C1 := Lib.hid (show meetVal p.data.toList q.data.toList = ((⟨#[]⟩ : ByteArray).data.toList, 12) from meet_no (pair_ok VP.out VQ.out LPQ.out) hg)
        have C6 := Lib.hid (show ¬ (one = true ∧ two = true) from fun ⟨e1, e2⟩ => by
          have := agL_both _ _ _ LPQ.out LQS.out HS.out (h1.symm.trans e1) (h2.symm.trans e2)
          rw [hg] at this; cases this)
        clear hg h1 h2
        cases one <;> cases two
        · go_wp2_with fail
          refine (pmeet_is (j := ⟨#[]⟩) _ hp hq C1.out).mono ?_
          rintro e w2 ⟨rfl, hb2⟩
          have HB2 := Lib.hid (btwo HB1.out hb2)
          clear hb2
          go_wp2_with fail
          refine (pjoin_is _ hp hq C2.out).mono ?_
          rintro e w3 ⟨rfl, hb3⟩
          have HB3 := Lib.hid (btwo HB2.out hb3)
          clear hb3
          go_wp2_with fail
          refine (pmatch_is _ hp hs C3.out).mono ?_
          rintro e w4 ⟨rfl, hb4⟩
          have HB4 := Lib.hid (btwo HB3.out hb4)
          clear hb4
          go_wp2_with fail
          refine (pmatch_is _ hq hs C4.out).mono ?_
          rintro e w5 ⟨rfl, hb5⟩
          have HB5 := Lib.hid (btwo HB4.out hb5)
          clear hb5
          go_wp2_with fail
          go_ret
          exact ⟨by first | rfl | exact ret_bool (by simp), HB5.out⟩
        · go_wp2_with fail
          refine (pmeet_is (j := ⟨#[]⟩) _ hp hq C1.out).mono ?_
          rintro e w2 ⟨rfl, hb2⟩
          have HB2 := Lib.hid (btwo HB1.out hb2)
          clear hb2
          go_wp2_with fail
          refine (pjoin_is _ hp hq C2.out).mono ?_
          rintro e w3 ⟨rfl, hb3⟩
          have HB3 := Lib.hid (btwo HB2.out hb3)
          clear hb3
          go_wp2_with fail
          refine (pmatch_is _ hp hs C3.out).mono ?_
          rintro e w4 ⟨rfl, hb4⟩
          have HB4 := Lib.hid (btwo HB3.out hb4)
          clear hb4
          go_wp2_with fail
          refine (pmatch_is _ hq hs C4.out).mono ?_
          rintro e w5 ⟨rfl, hb5⟩
          have HB5 := Lib.hid (btwo HB4.out hb5)
          clear hb5
          go_wp2_with fail
          refine (pmatch_is _ hjm hs (C5.out (by simp))).mono ?_
          rintro e w6 ⟨rfl, hb6⟩
          have HB6 := Lib.hid (btwo HB5.out hb6)
          clear hb6
          go_wp2_with fail
          go_ret
          exact ⟨by first | rfl | exact ret_bool (by simp), HB6.out⟩
        · go_wp2_with fail
          refine (pmeet_is (j := ⟨#[]⟩) _ hp hq C1.out).mono ?_
          rintro e w2 ⟨rfl, hb2⟩
          have HB2 := Lib.hid (btwo HB1.out hb2)
          clear hb2
          go_wp2_with fail
          refine (pjoin_is _ hp hq C2.out).mono ?_
          rintro e w3 ⟨rfl, hb3⟩
          have HB3 := Lib.hid (btwo HB2.out hb3)
          clear hb3
          go_wp2_with fail
          refine (pmatch_is _ hp hs C3.out).mono ?_
          rintro e w4 ⟨rfl, hb4⟩
          have HB4 := Lib.hid (btwo HB3.out hb4)
          clear hb4
          go_wp2_with fail
          refine (pmatch_is _ hq hs C4.out).mono ?_
          rintro e w5 ⟨rfl, hb5⟩
          have HB5 := Lib.hid (btwo HB4.out hb5)
          clear hb5
          go_wp2_with fail
          refine (pmatch_is _ hjm hs (C5.out (by simp))).mono ?_
          rintro e w6 ⟨rfl, hb6⟩
          have HB6 := Lib.hid (btwo HB5.out hb6)
          clear hb6
          go_wp2_with fail
          go_ret
          exact ⟨by first | rfl | exact ret_bool (by simp), HB6.out⟩
        · exact absurd ⟨rfl, rfl⟩ C6.out
      | true =>
        obtain ⟨a, ha⟩ : ∃ j : ByteArray, j.data.toList = List.zipWith meetB p.data.toList q.data.toList := ⟨⟨(List.zipWith meetB p.data.toList q.data.toList).toArray⟩, rfl⟩
        obtain ⟨va, la⟩ := meet_valid VP.out VQ.out LPQ.out
        have ham : a.size ≤ maxLen := by
          have h : a.size = a.data.toList.length := rfl
          rw [h, ha, la]; exact hp
        have C1 := Lib.hid (show meetVal p.data.toList q.data.toList = (a.data.toList, 0) by rw [ha]; exact meet_ok (pair_ok VP.out VQ.out LPQ.out) hg)
        have C6 := Lib.hid (show matchV a.data.toList s.data.toList = (one && two) by
          rw [ha, match_is va VS.out (by rw [la]; exact LPQ.out.trans LQS.out), agL_meet _ _ _ LPQ.out LQS.out HS.out hg, h1, h2])
        clear ha va la hg h1 h2
        cases one <;> cases two
        · go_wp2_with fail
          refine (pmeet_is _ hp hq C1.out).mono ?_
          rintro e w2 ⟨rfl, hb2⟩
          have HB2 := Lib.hid (btwo HB1.out hb2)
          clear hb2
          go_wp2_with fail
          refine (pjoin_is _ hp hq C2.out).mono ?_
          rintro e w3 ⟨rfl, hb3⟩
          have HB3 := Lib.hid (btwo HB2.out hb3)
          clear hb3
          go_wp2_with fail
          refine (pmatch_is _ hp hs C3.out).mono ?_
          rintro e w4 ⟨rfl, hb4⟩
          have HB4 := Lib.hid (btwo HB3.out hb4)
          clear hb4
          go_wp2_with fail
          refine (pmatch_is _ hq hs C4.out).mono ?_
          rintro e w5 ⟨rfl, hb5⟩
          have HB5 := Lib.hid (btwo HB4.out hb5)
          clear hb5
          go_wp2_with fail
          refine (pmatch_is _ ham hs C6.out).mono ?_
          rintro e w6 ⟨rfl, hb6⟩
          have HB6 := Lib.hid (btwo HB5.out hb6)
          clear hb6
          go_wp2_with fail
          go_ret
          exact ⟨by first | rfl | exact ret_bool (by simp), HB6.out⟩
        · go_wp2_with fail
          refine (pmeet_is _ hp hq C1.out).mono ?_
          rintro e w2 ⟨rfl, hb2⟩
          have HB2 := Lib.hid (btwo HB1.out hb2)
          clear hb2
          go_wp2_with fail
          refine (pjoin_is _ hp hq C2.out).mono ?_
          rintro e w3 ⟨rfl, hb3⟩
          have HB3 := Lib.hid (btwo HB2.out hb3)
          clear hb3
          go_wp2_with fail
          refine (pmatch_is _ hp hs C3.out).mono ?_
          rintro e w4 ⟨rfl, hb4⟩
          have HB4 := Lib.hid (btwo HB3.out hb4)
          clear hb4
          go_wp2_with fail
          refine (pmatch_is _ hq hs C4.out).mono ?_
          rintro e w5 ⟨rfl, hb5⟩
          have HB5 := Lib.hid (btwo HB4.out hb5)
          clear hb5
          go_wp2_with fail
          refine (pmatch_is _ hjm hs (C5.out (by simp))).mono ?_
          rintro e w6 ⟨rfl, hb6⟩
          have HB6 := Lib.hid (btwo HB5.out hb6)
          clear hb6
          go_wp2_with fail
          refine (pmatch_is _ ham hs C6.out).mono ?_
          rintro e w7 ⟨rfl, hb7⟩
          have HB7 := Lib.hid (btwo HB6.out hb7)
          clear hb7
          go_wp2_with fail
          go_ret
          exact ⟨by first | rfl | exact ret_bool (by simp), HB7.out⟩
        · go_wp2_with fail
          refine (pmeet_is _ hp hq C1.out).mono ?_
          rintro e w2 ⟨rfl, hb2⟩
          have HB2 := Lib.hid (btwo HB1.out hb2)
          clear hb2
          go_wp2_with fail
          refine (pjoin_is _ hp hq C2.out).mono ?_
          rintro e w3 ⟨rfl, hb3⟩
          have HB3 := Lib.hid (btwo HB2.out hb3)
          clear hb3
          go_wp2_with fail
          refine (pmatch_is _ hp hs C3.out).mono ?_
          rintro e w4 ⟨rfl, hb4⟩
          have HB4 := Lib.hid (btwo HB3.out hb4)
          clear hb4
          go_wp2_with fail
          refine (pmatch_is _ hq hs C4.out).mono ?_
          rintro e w5 ⟨rfl, hb5⟩
          have HB5 := Lib.hid (btwo HB4.out hb5)
          clear hb5
          go_wp2_with fail
          refine (pmatch_is _ hjm hs (C5.out (by simp))).mono ?_
          rintro e w6 ⟨rfl, hb6⟩
          have HB6 := Lib.hid (btwo HB5.out hb6)
          clear hb6
          go_wp2_with fail
          refine (pmatch_is _ ham hs C6.out).mono ?_
          rintro e w7 ⟨rfl, hb7⟩
          have HB7 := Lib.hid (btwo HB6.out hb7)
          clear hb7
          go_wp2_with fail
          go_ret
          exact ⟨by first | rfl | exact ret_bool (by simp), HB7.out⟩
        · go_wp2_with fail
          refine (pmeet_is _ hp hq C1.out).mono ?_
          rintro e w2 ⟨rfl, hb2⟩
          have HB2 := Lib.hid (btwo HB1.out hb2)
          clear hb2
          go_wp2_with fail
          refine (pjoin_is _ hp hq C2.out).mono ?_
          rintro e w3 ⟨rfl, hb3⟩
          have HB3 := Lib.hid (btwo HB2.out hb3)
          clear hb3
          go_wp2_with fail
          refine (pmatch_is _ hp hs C3.out).mono ?_
          rintro e w4 ⟨rfl, hb4⟩
          have HB4 := Lib.hid (btwo HB3.out hb4)
          clear hb4
          go_wp2_with fail
          refine (pmatch_is _ hq hs C4.out).mono ?_
          rintro e w5 ⟨rfl, hb5⟩
          have HB5 := Lib.hid (btwo HB4.out hb5)
          clear hb5
          go_wp2_with fail
          refine (pmatch_is _ hjm hs (C5.out (by simp))).mono ?_
          rintro e w6 ⟨rfl, hb6⟩
          have HB6 := Lib.hid (btwo HB5.out hb6)
          clear hb6
          go_wp2_with fail
          refine (pmatch_is _ ham hs C6.out).mono ?_
          rintro e w7 ⟨rfl, hb7⟩
          have HB7 := Lib.hid (btwo HB6.out hb7)
          clear hb7
          go_wp2_with fail
          go_ret
          exact ⟨by first | rfl | exact ret_bool (by simp), HB7.out⟩
end Go.Proofs.YtlkigmlgbnlkaaaDoor
