/- The walk of the statement NaturalRing. -/
import Derived.Test.YtjmndidbhickdaaDoorNNum
import Derived.Test.YtjmndidbhickdaaDoorNWq
namespace Go.Proofs.YtjmndidbhickdaaDoor
open Go.RowKit
set_option linter.unusedVariables false
set_option maxRecDepth 100000

set_option maxHeartbeats 2000000 in
theorem lawring_big (L0 : List Int) (n0 c0 : Nat) (A0 : Option Addr) (L1 : List Int) (n1 c1 : Nat) (A1 : Option Addr) (L2 : List Int) (n2 c2 : Nat) (A2 : Option Addr) (W : World) (h0 : n0 ≤ 17592186044416000) (h1 : n1 ≤ 17592186044416000) (h2 : n2 ≤ 17592186044416000) (hT : Tab W) (hbig : 60 < n0 ∨ 60 < n1 ∨ 60 < n2) :
    Calls Tryd.prog 4 #[.slice A0 n0 c0, .slice A1 n1 c1, .slice A2 n2 c2] W fun e w' => e = .returned (.bool true) ∧ Below W.heap.size W w' := by
  have V0 := Lib.hid (LiveN.start W)
  have HT := Lib.hid hT
  clear hT
  by_cases c0 : 60 < n0
  · clear hbig
    go_enter Tryd.func4, Tryd.ntmps4
    go_wp2_with fail
    refine (awake_any _ HT.out).mono ?_
    rintro e w1 ⟨rfl, b1⟩
    have V1 := Lib.hid (V0.out.go b1)
    clear b1
    go_wp2_with fail
    refine (awake_any _ (HT.out.below V1.out.2.2)).mono ?_
    rintro e w2 ⟨rfl, b2⟩
    have V2 := Lib.hid (V1.out.go b2)
    clear b2
    go_wp2_with fail
    go_ret
    exact ⟨rfl, V2.out.2.2⟩
  · by_cases c1 : 60 < n1
    · clear hbig
      go_enter Tryd.func4, Tryd.ntmps4
      go_wp2_with fail
      refine (awake_any _ HT.out).mono ?_
      rintro e w1 ⟨rfl, b1⟩
      have V1 := Lib.hid (V0.out.go b1)
      clear b1
      go_wp2_with fail
      refine (awake_any _ (HT.out.below V1.out.2.2)).mono ?_
      rintro e w2 ⟨rfl, b2⟩
      have V2 := Lib.hid (V1.out.go b2)
      clear b2
      go_wp2_with fail
      go_ret
      exact ⟨rfl, V2.out.2.2⟩
    · have c2 : 60 < n2 := by omega
      clear hbig
      go_enter Tryd.func4, Tryd.ntmps4
      go_wp2_with fail
      refine (awake_any _ HT.out).mono ?_
      rintro e w1 ⟨rfl, b1⟩
      have V1 := Lib.hid (V0.out.go b1)
      clear b1
      go_wp2_with fail
      refine (awake_any _ (HT.out.below V1.out.2.2)).mono ?_
      rintro e w2 ⟨rfl, b2⟩
      have V2 := Lib.hid (V1.out.go b2)
      clear b2
      go_wp2_with fail
      go_ret
      exact ⟨rfl, V2.out.2.2⟩
theorem num_bd {L : List Int} (h : L.length ≤ 60) : 0 ≤ val (wordD L) ∧ val (wordD L) < pw 60 := by
  have h1 := val_lt (wordD_dig L)
  have h2 := pw_mono (show (wordD L).length ≤ 60 by rw [wordD_len]; exact h)
  exact ⟨val_nonneg (wordD_dig L), by omega⟩
theorem nine_cell (w : World) (j : Nat) (h : j < 9) : (w.alloc (.cells #[.int .i64 0, .int .i64 0, .int .i64 0, .int .i64 0, .int .i64 0, .int .i64 0, .int .i64 0, .int .i64 0, .int .i64 0] 28)).cell? ⟨w.heap.size, j, none⟩ = some (.int .i64 0) := by
  rw [cell_of_row _ w.heap.size j _ _ _ (heap_alloc_new w _)]
  match j, h with
  | 0, _ | 1, _ | 2, _ | 3, _ | 4, _ | 5, _ | 6, _ | 7, _ | 8, _ => rfl
set_option maxHeartbeats 8000000 in
theorem lawring_small (L0 : List Int) (n0 c0 : Nat) (A0 : Option Addr) (L1 : List Int) (n1 c1 : Nat) (A1 : Option Addr) (L2 : List Int) (n2 c2 : Nat) (A2 : Option Addr) (W : World) (hl0 : L0.length = n0) (hi0 : WordsIn W A0 L0) (hw0 : ∀ j, 0 ≤ L0.getD j 0 ∧ L0.getD j 0 ≤ 65535) (hs0 : n0 ≤ 60) (hl1 : L1.length = n1) (hi1 : WordsIn W A1 L1) (hw1 : ∀ j, 0 ≤ L1.getD j 0 ∧ L1.getD j 0 ≤ 65535) (hs1 : n1 ≤ 60) (hl2 : L2.length = n2) (hi2 : WordsIn W A2 L2) (hw2 : ∀ j, 0 ≤ L2.getD j 0 ∧ L2.getD j 0 ≤ 65535) (hs2 : n2 ≤ 60) (hT : Tab W) :
    Calls Tryd.prog 4 #[.slice A0 n0 c0, .slice A1 n1 c1, .slice A2 n2 c2] W fun e w' => e = .returned (.bool true) ∧ Below W.heap.size W w' := by
  have V0 := Lib.hid (LiveN.start W)
  obtain ⟨x0, hx0⟩ : ∃ x, x = val (wordD L0) := ⟨_, rfl⟩
  obtain ⟨p0, q0⟩ : 0 ≤ x0 ∧ x0 < pw 60 := by rw [hx0]; exact num_bd (by omega)
  have HP0 := Lib.hid p0
  have HQ0 := Lib.hid q0
  have HM0 := Lib.hid (fun (w : World) (hb : Below W.heap.size W w) => (show Calls Tryd.prog 18 #[.slice A0 n0 c0] w (MadeNum x0 w) by rw [hx0]; exact made_num L0 n0 c0 A0 w hl0 hs0 (hi0.below hb) (fun j => (hw0 j).1) (fun j => (hw0 j).2)))
  obtain ⟨x1, hx1⟩ : ∃ x, x = val (wordD L1) := ⟨_, rfl⟩
  obtain ⟨p1, q1⟩ : 0 ≤ x1 ∧ x1 < pw 60 := by rw [hx1]; exact num_bd (by omega)
  have HP1 := Lib.hid p1
  have HQ1 := Lib.hid q1
  have HM1 := Lib.hid (fun (w : World) (hb : Below W.heap.size W w) => (show Calls Tryd.prog 18 #[.slice A1 n1 c1] w (MadeNum x1 w) by rw [hx1]; exact made_num L1 n1 c1 A1 w hl1 hs1 (hi1.below hb) (fun j => (hw1 j).1) (fun j => (hw1 j).2)))
  obtain ⟨x2, hx2⟩ : ∃ x, x = val (wordD L2) := ⟨_, rfl⟩
  obtain ⟨p2, q2⟩ : 0 ≤ x2 ∧ x2 < pw 60 := by rw [hx2]; exact num_bd (by omega)
  have HP2 := Lib.hid p2
  have HQ2 := Lib.hid q2
  have HM2 := Lib.hid (fun (w : World) (hb : Below W.heap.size W w) => (show Calls Tryd.prog 18 #[.slice A2 n2 c2] w (MadeNum x2 w) by rw [hx2]; exact made_num L2 n2 c2 A2 w hl2 hs2 (hi2.below hb) (fun j => (hw2 j).1) (fun j => (hw2 j).2)))
  clear hx0 p0 q0 hl0 hi0 hw0 hx1 p1 q1 hl1 hi1 hw1 hx2 p2 q2 hl2 hi2 hw2
  go_enter Tryd.func4, Tryd.ntmps4
  go_wp2_with fail
  refine (awake_any _ hT).mono ?_
  rintro e w1 ⟨rfl, b1⟩
  have V1 := Lib.hid (V0.out.go b1)
  clear b1
  go_wp2_with fail
  refine (HM0.out _ V1.out.2.2).mono ?_
  rintro e w2 ⟨Aa, ca, ka, rfl, n2, b2⟩
  have U2 := Lib.hid ((V1.out.go b2).num n2)
  clear n2 b2
  go_wp2_with fail
  refine (HM1.out _ U2.out.2.2).mono ?_
  rintro e w3 ⟨Ab, cb, kb, rfl, n3, b3⟩
  have U3 := Lib.hid ((U2.out.go b3).num n3)
  clear n3 b3
  go_wp2_with fail
  refine (HM2.out _ U3.out.2.2).mono ?_
  rintro e w4 ⟨Ac, cc, kc, rfl, n4, b4⟩
  have U4 := Lib.hid ((U3.out.go b4).num n4)
  clear n4 b4
  have V4 := Lib.hid (U4.out.new3 (.slice Aa ka ca) (.slice Ab kb cb) (.slice Ac kc cc) 24)
  have Bab := Lib.hid (show x0 + x1 < pw 61 from (add_bd (k := 60) (Int.lt_of_lt_of_le HQ0.out (pw_mono (by omega))) (Int.lt_of_lt_of_le HQ1.out (pw_mono (by omega)))))
  have Nab := Lib.hid (show 0 ≤ x0 + x1 from (Int.add_nonneg HP0.out HP1.out))
  go_wp2_with fail
  refine (add_num ka ca kb cb _ _ Aa Ab _ (V4.out.at (.tail _ (.tail _ (.head _)))) (V4.out.at (.tail _ (.head _))) (len_of Bab.out (by omega))).mono ?_
  rintro e w5 ⟨Aab, cab, kab, rfl, n5, b5⟩
  have U5 := Lib.hid ((V4.out.go b5).num n5)
  clear n5 b5
  obtain ⟨x5_a, y5_a⟩ := U5.out.box (.tail _ (.tail _ (.head _)))
  obtain ⟨x5_b, y5_b⟩ := U5.out.box (.tail _ (.head _))
  have V5 := Lib.hid (U5.out.new (.slice Aab kab cab) 24)
  have Bba := Lib.hid (show x1 + x0 < pw 61 from (add_bd (k := 60) (Int.lt_of_lt_of_le HQ1.out (pw_mono (by omega))) (Int.lt_of_lt_of_le HQ0.out (pw_mono (by omega)))))
  have Nba := Lib.hid (show 0 ≤ x1 + x0 from (Int.add_nonneg HP1.out HP0.out))
  go_wp2_with fail
  refine (add_num kb cb ka ca _ _ Ab Aa _ (V5.out.at (.tail _ (.tail _ (.head _)))) (V5.out.at (.tail _ (.tail _ (.tail _ (.head _))))) (len_of Bba.out (by omega))).mono ?_
  rintro e w6 ⟨Aba, cba, kba, rfl, n6, b6⟩
  clear x5_a y5_a x5_b y5_b
  have U6 := Lib.hid ((V5.out.go b6).num n6)
  clear n6 b6
  obtain ⟨x6_b, y6_b⟩ := U6.out.box (.tail _ (.tail _ (.head _)))
  obtain ⟨x6_c, y6_c⟩ := U6.out.box (.tail _ (.head _))
  have V6 := Lib.hid (U6.out.new (.slice Aba kba cba) 24)
  have Bbc := Lib.hid (show x1 + x2 < pw 61 from (add_bd (k := 60) (Int.lt_of_lt_of_le HQ1.out (pw_mono (by omega))) (Int.lt_of_lt_of_le HQ2.out (pw_mono (by omega)))))
  have Nbc := Lib.hid (show 0 ≤ x1 + x2 from (Int.add_nonneg HP1.out HP2.out))
  go_wp2_with fail
  refine (add_num kb cb kc cc _ _ Ab Ac _ (V6.out.at (.tail _ (.tail _ (.tail _ (.head _))))) (V6.out.at (.tail _ (.tail _ (.head _)))) (len_of Bbc.out (by omega))).mono ?_
  rintro e w7 ⟨Abc, cbc, kbc, rfl, n7, b7⟩
  clear x6_b y6_b x6_c y6_c
  have U7 := Lib.hid ((V6.out.go b7).num n7)
  clear n7 b7
  obtain ⟨x7_ab, y7_ab⟩ := U7.out.box (.tail _ (.head _))
  obtain ⟨x7_c, y7_c⟩ := U7.out.box (.tail _ (.tail _ (.head _)))
  have V7 := Lib.hid (U7.out.new (.slice Abc kbc cbc) 24)
  have Bleft := Lib.hid (show x0 + x1 + x2 < pw 62 from (add_bd (k := 61) (Int.lt_of_lt_of_le Bab.out (pw_mono (by omega))) (Int.lt_of_lt_of_le HQ2.out (pw_mono (by omega)))))
  have Nleft := Lib.hid (show 0 ≤ x0 + x1 + x2 from (Int.add_nonneg Nab.out HP2.out))
  go_wp2_with fail
  refine (add_num kab cab kc cc _ _ Aab Ac _ (V7.out.at (.tail _ (.tail _ (.head _)))) (V7.out.at (.tail _ (.tail _ (.tail _ (.head _))))) (len_of Bleft.out (by omega))).mono ?_
  rintro e w8 ⟨Aleft, cleft, kleft, rfl, n8, b8⟩
  clear x7_ab y7_ab x7_c y7_c
  have U8 := Lib.hid ((V7.out.go b8).num n8)
  clear n8 b8
  obtain ⟨x8_a, y8_a⟩ := U8.out.box (.tail _ (.tail _ (.tail _ (.tail _ (.tail _ (.head _))))))
  obtain ⟨x8_bc, y8_bc⟩ := U8.out.box (.head _)
  have V8 := Lib.hid (U8.out.new (.slice Aleft kleft cleft) 24)
  have Bright := Lib.hid (show x0 + (x1 + x2) < pw 62 from (add_bd (k := 61) (Int.lt_of_lt_of_le HQ0.out (pw_mono (by omega))) (Int.lt_of_lt_of_le Bbc.out (pw_mono (by omega)))))
  have Nright := Lib.hid (show 0 ≤ x0 + (x1 + x2) from (Int.add_nonneg HP0.out Nbc.out))
  go_wp2_with fail
  refine (add_num ka ca kbc cbc _ _ Aa Abc _ (V8.out.at (.tail _ (.tail _ (.tail _ (.tail _ (.tail _ (.tail _ (.head _)))))))) (V8.out.at (.tail _ (.head _))) (len_of Bright.out (by omega))).mono ?_
  rintro e w9 ⟨Aright, cright, kright, rfl, n9, b9⟩
  clear x8_a y8_a x8_bc y8_bc
  have U9 := Lib.hid ((V8.out.go b9).num n9)
  clear n9 b9
  obtain ⟨x9_ab, y9_ab⟩ := U9.out.box (.tail _ (.tail _ (.tail _ (.head _))))
  obtain ⟨x9_ba, y9_ba⟩ := U9.out.box (.tail _ (.tail _ (.head _)))
  have V9 := Lib.hid (U9.out.new (.slice Aright kright cright) 24)
  go_wp2_with fail
  refine (same_num kab cab kba cba _ _ Aab Aba _ (V9.out.at (.tail _ (.tail _ (.tail _ (.tail _ (.head _)))))) (V9.out.at (.tail _ (.tail _ (.tail _ (.head _))))) (Int.add_comm _ _)).mono ?_
  rintro e w10 ⟨rfl, b10⟩
  clear x9_ab y9_ab x9_ba y9_ba
  have V10 := Lib.hid (V9.out.go b10)
  clear b10
  obtain ⟨x10_left, y10_left⟩ := V10.out.box (.tail _ (.head _))
  obtain ⟨x10_right, y10_right⟩ := V10.out.box (.head _)
  go_wp2_with fail
  refine (same_num kleft cleft kright cright _ _ Aleft Aright _ (V10.out.at (.tail _ (.head _))) (V10.out.at (.head _)) (Int.add_assoc _ _ _)).mono ?_
  rintro e w11 ⟨rfl, b11⟩
  clear x10_left y10_left x10_right y10_right
  have V11 := Lib.hid (V10.out.go b11)
  clear b11
  obtain ⟨x11_ab, y11_ab⟩ := V11.out.box (.tail _ (.tail _ (.tail _ (.tail _ (.head _)))))
  obtain ⟨x11_b, y11_b⟩ := V11.out.box (.tail _ (.tail _ (.tail _ (.tail _ (.tail _ (.tail _ (.head _)))))))
  go_wp2_with fail
  refine (sub_num kab cab kb cb _ _ Aab Ab _ (V11.out.at (.tail _ (.tail _ (.tail _ (.tail _ (.head _)))))) (V11.out.at (.tail _ (.tail _ (.tail _ (.tail _ (.tail _ (.tail _ (.head _)))))))) (by have := HP0.out; omega)).mono ?_
  rintro e w12 ⟨Ad, cd, kd, rfl, n12, b12⟩
  clear x11_ab y11_ab x11_b y11_b
  have U12 := Lib.hid ((V11.out.go b12).num n12)
  clear n12 b12
  obtain ⟨x12_a, y12_a⟩ := U12.out.box (.tail _ (.tail _ (.tail _ (.tail _ (.tail _ (.tail _ (.tail _ (.head _))))))))
  obtain ⟨x12_b, y12_b⟩ := U12.out.box (.tail _ (.tail _ (.tail _ (.tail _ (.tail _ (.tail _ (.head _)))))))
  have V12 := Lib.hid (U12.out.new (.slice Ad kd cd) 24)
  have Bpb := Lib.hid (show x0 * x1 < pw 120 from (mul_bd (j := 60) (k := 60) HQ0.out HQ1.out HP1.out))
  have Npb := Lib.hid (show 0 ≤ x0 * x1 from (Int.mul_nonneg HP0.out HP1.out))
  go_wp2_with fail
  refine (mul_num ka ca kb cb _ _ Aa Ab _ (V12.out.at (.tail _ (.tail _ (.tail _ (.tail _ (.tail _ (.tail _ (.tail _ (.tail _ (.head _)))))))))) (V12.out.at (.tail _ (.tail _ (.tail _ (.tail _ (.tail _ (.tail _ (.tail _ (.head _))))))))) (len_of Bpb.out (by omega))).mono ?_
  rintro e w13 ⟨Apb, cpb, kpb, rfl, n13, b13⟩
  clear x12_a y12_a x12_b y12_b
  have U13 := Lib.hid ((V12.out.go b13).num n13)
  clear n13 b13
  obtain ⟨x13_a, y13_a⟩ := U13.out.box (.tail _ (.tail _ (.tail _ (.tail _ (.tail _ (.tail _ (.tail _ (.tail _ (.head _)))))))))
  obtain ⟨x13_c, y13_c⟩ := U13.out.box (.tail _ (.tail _ (.tail _ (.tail _ (.tail _ (.tail _ (.head _)))))))
  have V13 := Lib.hid (U13.out.new (.slice Apb kpb cpb) 24)
  have Bpc := Lib.hid (show x0 * x2 < pw 120 from (mul_bd (j := 60) (k := 60) HQ0.out HQ2.out HP2.out))
  have Npc := Lib.hid (show 0 ≤ x0 * x2 from (Int.mul_nonneg HP0.out HP2.out))
  go_wp2_with fail
  refine (mul_num ka ca kc cc _ _ Aa Ac _ (V13.out.at (.tail _ (.tail _ (.tail _ (.tail _ (.tail _ (.tail _ (.tail _ (.tail _ (.tail _ (.head _))))))))))) (V13.out.at (.tail _ (.tail _ (.tail _ (.tail _ (.tail _ (.tail _ (.tail _ (.head _))))))))) (len_of Bpc.out (by omega))).mono ?_
  rintro e w14 ⟨Apc, cpc, kpc, rfl, n14, b14⟩
  clear x13_a y13_a x13_c y13_c
  have U14 := Lib.hid ((V13.out.go b14).num n14)
  clear n14 b14
  obtain ⟨x14_b, y14_b⟩ := U14.out.box (.tail _ (.tail _ (.tail _ (.tail _ (.tail _ (.tail _ (.tail _ (.tail _ (.head _)))))))))
  obtain ⟨x14_a, y14_a⟩ := U14.out.box (.tail _ (.tail _ (.tail _ (.tail _ (.tail _ (.tail _ (.tail _ (.tail _ (.tail _ (.head _))))))))))
  have V14 := Lib.hid (U14.out.new (.slice Apc kpc cpc) 24)
  have Bbp := Lib.hid (show x1 * x0 < pw 120 from (mul_bd (j := 60) (k := 60) HQ1.out HQ0.out HP0.out))
  have Nbp := Lib.hid (show 0 ≤ x1 * x0 from (Int.mul_nonneg HP1.out HP0.out))
  go_wp2_with fail
  refine (mul_num kb cb ka ca _ _ Ab Aa _ (V14.out.at (.tail _ (.tail _ (.tail _ (.tail _ (.tail _ (.tail _ (.tail _ (.tail _ (.tail _ (.head _))))))))))) (V14.out.at (.tail _ (.tail _ (.tail _ (.tail _ (.tail _ (.tail _ (.tail _ (.tail _ (.tail _ (.tail _ (.head _)))))))))))) (len_of Bbp.out (by omega))).mono ?_
  rintro e w15 ⟨Abp, cbp, kbp, rfl, n15, b15⟩
  clear x14_b y14_b x14_a y14_a
  have U15 := Lib.hid ((V14.out.go b15).num n15)
  clear n15 b15
  obtain ⟨x15_a, y15_a⟩ := U15.out.box (.tail _ (.tail _ (.tail _ (.tail _ (.tail _ (.tail _ (.tail _ (.tail _ (.tail _ (.tail _ (.head _)))))))))))
  obtain ⟨x15_bc, y15_bc⟩ := U15.out.box (.tail _ (.tail _ (.tail _ (.tail _ (.tail _ (.head _))))))
  have V15 := Lib.hid (U15.out.new (.slice Abp kbp cbp) 24)
  have Bp := Lib.hid (show x0 * (x1 + x2) < pw 121 from (mul_bd (j := 60) (k := 61) HQ0.out Bbc.out Nbc.out))
  have Np := Lib.hid (show 0 ≤ x0 * (x1 + x2) from (Int.mul_nonneg HP0.out Nbc.out))
  go_wp2_with fail
  refine (mul_num ka ca kbc cbc _ _ Aa Abc _ (V15.out.at (.tail _ (.tail _ (.tail _ (.tail _ (.tail _ (.tail _ (.tail _ (.tail _ (.tail _ (.tail _ (.tail _ (.head _))))))))))))) (V15.out.at (.tail _ (.tail _ (.tail _ (.tail _ (.tail _ (.tail _ (.head _)))))))) (len_of Bp.out (by omega))).mono ?_
  rintro e w16 ⟨Ap, cp, kp, rfl, n16, b16⟩
  clear x15_a y15_a x15_bc y15_bc
  have U16 := Lib.hid ((V15.out.go b16).num n16)
  clear n16 b16
  obtain ⟨x16_pb, y16_pb⟩ := U16.out.box (.tail _ (.tail _ (.head _)))
  obtain ⟨x16_pc, y16_pc⟩ := U16.out.box (.tail _ (.head _))
  have V16 := Lib.hid (U16.out.new (.slice Ap kp cp) 24)
  have Bq := Lib.hid (show x0 * x1 + (x0 * x2) < pw 121 from (add_bd (k := 120) (Int.lt_of_lt_of_le Bpb.out (pw_mono (by omega))) (Int.lt_of_lt_of_le Bpc.out (pw_mono (by omega)))))
  have Nq := Lib.hid (show 0 ≤ x0 * x1 + (x0 * x2) from (Int.add_nonneg Npb.out Npc.out))
  go_wp2_with fail
  refine (add_num kpb cpb kpc cpc _ _ Apb Apc _ (V16.out.at (.tail _ (.tail _ (.tail _ (.head _))))) (V16.out.at (.tail _ (.tail _ (.head _)))) (len_of Bq.out (by omega))).mono ?_
  rintro e w17 ⟨Aq, cq, kq, rfl, n17, b17⟩
  clear x16_pb y16_pb x16_pc y16_pc
  have U17 := Lib.hid ((V16.out.go b17).num n17)
  clear n17 b17
  obtain ⟨x17_pb, y17_pb⟩ := U17.out.box (.tail _ (.tail _ (.tail _ (.head _))))
  obtain ⟨x17_c, y17_c⟩ := U17.out.box (.tail _ (.tail _ (.tail _ (.tail _ (.tail _ (.tail _ (.tail _ (.tail _ (.tail _ (.tail _ (.head _)))))))))))
  have V17 := Lib.hid (U17.out.new (.slice Aq kq cq) 24)
  have Bu := Lib.hid (show (x0 * x1) * x2 < pw 180 from (mul_bd (j := 120) (k := 60) Bpb.out HQ2.out HP2.out))
  have Nu := Lib.hid (show 0 ≤ (x0 * x1) * x2 from (Int.mul_nonneg Npb.out HP2.out))
  go_wp2_with fail
  refine (mul_num kpb cpb kc cc _ _ Apb Ac _ (V17.out.at (.tail _ (.tail _ (.tail _ (.tail _ (.head _)))))) (V17.out.at (.tail _ (.tail _ (.tail _ (.tail _ (.tail _ (.tail _ (.tail _ (.tail _ (.tail _ (.tail _ (.tail _ (.head _))))))))))))) (len_of Bu.out (by omega))).mono ?_
  rintro e w18 ⟨Au, cu, ku, rfl, n18, b18⟩
  clear x17_pb y17_pb x17_c y17_c
  have U18 := Lib.hid ((V17.out.go b18).num n18)
  clear n18 b18
  obtain ⟨x18_b, y18_b⟩ := U18.out.box (.tail _ (.tail _ (.tail _ (.tail _ (.tail _ (.tail _ (.tail _ (.tail _ (.tail _ (.tail _ (.tail _ (.tail _ (.head _)))))))))))))
  obtain ⟨x18_c, y18_c⟩ := U18.out.box (.tail _ (.tail _ (.tail _ (.tail _ (.tail _ (.tail _ (.tail _ (.tail _ (.tail _ (.tail _ (.tail _ (.head _))))))))))))
  have V18 := Lib.hid (U18.out.new (.slice Au ku cu) 24)
  have Bbcp := Lib.hid (show x1 * x2 < pw 120 from (mul_bd (j := 60) (k := 60) HQ1.out HQ2.out HP2.out))
  have Nbcp := Lib.hid (show 0 ≤ x1 * x2 from (Int.mul_nonneg HP1.out HP2.out))
  go_wp2_with fail
  refine (mul_num kb cb kc cc _ _ Ab Ac _ (V18.out.at (.tail _ (.tail _ (.tail _ (.tail _ (.tail _ (.tail _ (.tail _ (.tail _ (.tail _ (.tail _ (.tail _ (.tail _ (.tail _ (.head _))))))))))))))) (V18.out.at (.tail _ (.tail _ (.tail _ (.tail _ (.tail _ (.tail _ (.tail _ (.tail _ (.tail _ (.tail _ (.tail _ (.tail _ (.head _)))))))))))))) (len_of Bbcp.out (by omega))).mono ?_
  rintro e w19 ⟨Abcp, cbcp, kbcp, rfl, n19, b19⟩
  clear x18_b y18_b x18_c y18_c
  have U19 := Lib.hid ((V18.out.go b19).num n19)
  clear n19 b19
  obtain ⟨x19_a, y19_a⟩ := U19.out.box (.tail _ (.tail _ (.tail _ (.tail _ (.tail _ (.tail _ (.tail _ (.tail _ (.tail _ (.tail _ (.tail _ (.tail _ (.tail _ (.tail _ (.head _)))))))))))))))
  have V19 := Lib.hid (U19.out.new (.slice Abcp kbcp cbcp) 24)
  have Bv := Lib.hid (show x0 * (x1 * x2) < pw 180 from (mul_bd (j := 60) (k := 120) HQ0.out Bbcp.out Nbcp.out))
  have Nv := Lib.hid (show 0 ≤ x0 * (x1 * x2) from (Int.mul_nonneg HP0.out Nbcp.out))
  go_wp2_with fail
  refine (mul_num ka ca kbcp cbcp _ _ Aa Abcp _ (V19.out.at (.tail _ (.tail _ (.tail _ (.tail _ (.tail _ (.tail _ (.tail _ (.tail _ (.tail _ (.tail _ (.tail _ (.tail _ (.tail _ (.tail _ (.tail _ (.head _))))))))))))))))) (V19.out.at (.head _)) (len_of Bv.out (by omega))).mono ?_
  rintro e w20 ⟨Av, cv, kv, rfl, n20, b20⟩
  clear x19_a y19_a
  have U20 := Lib.hid ((V19.out.go b20).num n20)
  clear n20 b20
  obtain ⟨x20_d, y20_d⟩ := U20.out.box (.tail _ (.tail _ (.tail _ (.tail _ (.tail _ (.tail _ (.tail _ (.head _))))))))
  obtain ⟨x20_a, y20_a⟩ := U20.out.box (.tail _ (.tail _ (.tail _ (.tail _ (.tail _ (.tail _ (.tail _ (.tail _ (.tail _ (.tail _ (.tail _ (.tail _ (.tail _ (.tail _ (.tail _ (.head _))))))))))))))))
  have V20 := Lib.hid (U20.out.new (.slice Av kv cv) 24)
  clear x20_d y20_d x20_a y20_a
  go_wp2
  go_loop [189] (fun i => ∃ k : Nat, k ≤ 9 ∧ i = .int .i64 (k : Int)) (fun i => 9 - (intOf i).toNat)
  case atStart => exact ⟨0, by omega, rfl⟩
  case round =>
    obtain ⟨j, hj, rfl⟩ := hrel
    by_cases hlt : j < 9
    · have hcell := nine_cell (w20.alloc (.cells #[.slice Av kv cv] 24)) j hlt
      rw [show (w20.alloc (.cells #[.slice Av kv cv] 24)).heap.size = w20.heap.size + 1 by simp] at hcell
      have hj9 : (j : Int) < 9 := by omega
      go_wp2
      go_round
      case rel => exact ⟨j + 1, by omega, by go_num⟩
      case measure => simp [intOf]; omega
    · have hj9 : ¬ (j : Int) < 9 := by omega
      have V21 := Lib.hid (V20.out.go (w' := (w20.alloc (.cells #[.slice Av kv cv] 24)).alloc (.cells (Array.replicate 9 (.int .i64 0)) 28)) ((Below.refl _ _).alloc (Nat.le_refl _) _))
      obtain ⟨x21_d, y21_d⟩ := U20.out.box (.tail _ (.tail _ (.tail _ (.tail _ (.tail _ (.tail _ (.tail _ (.head _))))))))
      obtain ⟨x21_a, y21_a⟩ := U20.out.box (.tail _ (.tail _ (.tail _ (.tail _ (.tail _ (.tail _ (.tail _ (.tail _ (.tail _ (.tail _ (.tail _ (.tail _ (.tail _ (.tail _ (.tail _ (.head _))))))))))))))))
      go_wp2_with fail
      refine (same_num kd cd ka ca _ _ Ad Aa _ (V21.out.at (.tail _ (.tail _ (.tail _ (.tail _ (.tail _ (.tail _ (.tail _ (.tail _ (.head _)))))))))) (V21.out.at (.tail _ (.tail _ (.tail _ (.tail _ (.tail _ (.tail _ (.tail _ (.tail _ (.tail _ (.tail _ (.tail _ (.tail _ (.tail _ (.tail _ (.tail _ (.tail _ (.head _)))))))))))))))))) (by omega)).mono ?_
      rintro e w22 ⟨rfl, b22⟩
      clear x21_d y21_d x21_a y21_a
      have V22 := Lib.hid (V21.out.go b22)
      clear b22
      obtain ⟨x22_pb, y22_pb⟩ := V22.out.box (.tail _ (.tail _ (.tail _ (.tail _ (.tail _ (.tail _ (.tail _ (.head _))))))))
      obtain ⟨x22_bp, y22_bp⟩ := V22.out.box (.tail _ (.tail _ (.tail _ (.tail _ (.tail _ (.head _))))))
      go_wp2_with fail
      refine (same_num kpb cpb kbp cbp _ _ Apb Abp _ (V22.out.at (.tail _ (.tail _ (.tail _ (.tail _ (.tail _ (.tail _ (.tail _ (.head _))))))))) (V22.out.at (.tail _ (.tail _ (.tail _ (.tail _ (.tail _ (.head _))))))) (Int.mul_comm _ _)).mono ?_
      rintro e w23 ⟨rfl, b23⟩
      clear x22_pb y22_pb x22_bp y22_bp
      have V23 := Lib.hid (V22.out.go b23)
      clear b23
      obtain ⟨x23_p, y23_p⟩ := V23.out.box (.tail _ (.tail _ (.tail _ (.tail _ (.head _)))))
      obtain ⟨x23_q, y23_q⟩ := V23.out.box (.tail _ (.tail _ (.tail _ (.head _))))
      go_wp2_with fail
      refine (same_num kp cp kq cq _ _ Ap Aq _ (V23.out.at (.tail _ (.tail _ (.tail _ (.tail _ (.head _)))))) (V23.out.at (.tail _ (.tail _ (.tail _ (.head _))))) (Int.mul_add _ _ _)).mono ?_
      rintro e w24 ⟨rfl, b24⟩
      clear x23_p y23_p x23_q y23_q
      have V24 := Lib.hid (V23.out.go b24)
      clear b24
      obtain ⟨x24_u, y24_u⟩ := V24.out.box (.tail _ (.tail _ (.head _)))
      obtain ⟨x24_v, y24_v⟩ := V24.out.box (.head _)
      go_wp2_with fail
      refine (same_num ku cu kv cv _ _ Au Av _ (V24.out.at (.tail _ (.tail _ (.head _)))) (V24.out.at (.head _)) (Int.mul_assoc _ _ _)).mono ?_
      rintro e w25 ⟨rfl, b25⟩
      clear x24_u y24_u x24_v y24_v
      have V25 := Lib.hid (V24.out.go b25)
      clear b25
      go_wp2_with fail
      go_ret
      exact ⟨rfl, V25.out.2.2⟩
theorem lawring_any (L0 : List Int) (n0 c0 : Nat) (A0 : Option Addr) (L1 : List Int) (n1 c1 : Nat) (A1 : Option Addr) (L2 : List Int) (n2 c2 : Nat) (A2 : Option Addr) (W : World) (hl0 : L0.length = n0) (hc0 : n0 ≤ c0) (hr0 : c0 ≤ 70368744177664) (hi0 : WordsIn W A0 L0) (hw0 : ∀ j, 0 ≤ L0.getD j 0 ∧ L0.getD j 0 ≤ 65535) (hl1 : L1.length = n1) (hc1 : n1 ≤ c1) (hr1 : c1 ≤ 70368744177664) (hi1 : WordsIn W A1 L1) (hw1 : ∀ j, 0 ≤ L1.getD j 0 ∧ L1.getD j 0 ≤ 65535) (hl2 : L2.length = n2) (hc2 : n2 ≤ c2) (hr2 : c2 ≤ 70368744177664) (hi2 : WordsIn W A2 L2) (hw2 : ∀ j, 0 ≤ L2.getD j 0 ∧ L2.getD j 0 ≤ 65535) (hT : Tab W) :
    Calls Tryd.prog 4 #[.slice A0 n0 c0, .slice A1 n1 c1, .slice A2 n2 c2] W fun e w' => e = .returned (.bool true) ∧ Below W.heap.size W w' := by
  by_cases h : n0 ≤ 60 ∧ n1 ≤ 60 ∧ n2 ≤ 60
  · exact lawring_small L0 n0 c0 A0 L1 n1 c1 A1 L2 n2 c2 A2 W hl0 hi0 hw0 h.1 hl1 hi1 hw1 h.2.1 hl2 hi2 hw2 h.2.2 hT
  · exact lawring_big L0 n0 c0 A0 L1 n1 c1 A1 L2 n2 c2 A2 W (by omega) (by omega) (by omega) hT (by omega)
end Go.Proofs.YtjmndidbhickdaaDoor
