/- The walk of the statement NaturalBinomial. -/
import Derived.Test.YtjmndidbhickdaaDoorNNum
import Derived.Test.YtjmndidbhickdaaDoorNWq
namespace Go.Proofs.YtjmndidbhickdaaDoor
open Go.RowKit
set_option linter.unusedVariables false
set_option maxRecDepth 100000

theorem binV_ok {N K : Nat} (h : N ≤ 400) (hk : K ≤ N) : binV (N : Int) (K : Int) = (binom N K, 0) := by unfold binV; rw [if_neg (by omega)]; simp
theorem binV_bad {n k : Int} (h : n < 0 ∨ 400 < n ∨ k < 0 ∨ n < k) : binV n k = (0, 6) := by unfold binV; rw [if_pos h]
theorem bin200 {N : Nat} (k : Nat) (h : N ≤ 400) : (digs (binom N k)).length ≤ 200 := by have := len_binom k h; omega
theorem bin_num (N K : Nat) (W : World) (h : N ≤ 400) (hk : K ≤ N) : Calls Tryd.prog 23 #[.int .i64 (N : Int), .int .i64 (K : Int)] W (ValPost (binom N K) W) :=
  (binomial_any (N : Int) (K : Int) W (by omega) (by omega) (by omega) (by omega)).mono fun e w' hp => val_post hp (binV_ok h hk) (binom_nonneg _ _) (bin200 K h)
theorem bin_num' (N K : Nat) (n k : Int) (W : World) (hn : n = (N : Int)) (hkk : k = (K : Int)) (h : N ≤ 400) (hk : K ≤ N) : Calls Tryd.prog 23 #[.int .i64 n, .int .i64 k] W (ValPost (binom N K) W) := by
  subst hn; subst hkk; exact bin_num N K W h hk
theorem rbin_num (N K : Nat) (W : World) (h : N ≤ 400) (hk : K ≤ N) : Calls Tryd.prog 24 #[.int .i64 (N : Int), .int .i64 (K : Int)] W (ValPost (binom N K) W) :=
  (rbinomial_any (N : Int) (K : Int) W (by omega) (by omega) (by omega) (by omega)).mono fun e w' hp => val_post hp (binV_ok h hk) (binom_nonneg _ _) (bin200 K h)
set_option maxHeartbeats 2000000 in
theorem lawbin_bad (n k : Int) (W : World) (hn0 : -9223372036854775808 ≤ n) (hn1 : n ≤ 9223372036854775807) (hk0 : -9223372036854775808 ≤ k) (hk1 : k ≤ 9223372036854775807) (hT : Tab W) (hbad : n < 0 ∨ 400 < n ∨ k < 0 ∨ n < k) :
    Calls Tryd.prog 6 #[.int .i64 n, .int .i64 k] W fun e w' => e = .returned (.bool true) ∧ Below W.heap.size W w' := by
  have HB := Lib.hid (binV_bad hbad)
  have V0 := Lib.hid (LiveN.start W)
  clear hbad
  go_enter Tryd.func6, Tryd.ntmps6
  go_wp2_with fail
  refine (awake_any _ hT).mono ?_
  rintro e w1 ⟨rfl, b1⟩
  have V1 := Lib.hid (V0.out.go b1)
  clear b1
  go_wp2_with fail
  refine ((binomial_any n k _ hn0 hn1 hk0 hk1).mono fun e w' h => err_post h HB.out).mono ?_
  rintro e w2 ⟨A2, c2, rfl, n2, b2⟩
  have U2 := Lib.hid ((V1.out.go b2).num n2)
  clear n2 b2
  have V2 := Lib.hid (U2.out.new (.slice A2 0 c2) 24)
  go_wp2_with fail
  refine ((rbinomial_any n k _ hn0 hn1 hk0 hk1).mono fun e w' h => err_post h HB.out).mono ?_
  rintro e w3 ⟨A3, c3, rfl, n3, b3⟩
  have U3 := Lib.hid ((V2.out.go b3).num n3)
  clear n3 b3
  obtain ⟨x3_2, y3_2⟩ := U3.out.box (.head _)
  have V3 := Lib.hid (U3.out.new (.slice A3 0 c3) 24)
  go_wp2_with fail
  refine (same_num 0 c2 0 c3 0 0 A2 A3 _ (V3.out.at (.tail _ (.head _))) (V3.out.at (.head _)) rfl).mono ?_
  rintro e w4 ⟨rfl, b4⟩
  clear x3_2 y3_2
  have V4 := Lib.hid (V3.out.go b4)
  clear b4
  obtain ⟨x4_2, y4_2⟩ := V4.out.box (.tail _ (.head _))
  obtain ⟨x4_3, y4_3⟩ := V4.out.box (.head _)
  go_wp2_with fail
  refine (same_num 0 c2 0 c3 0 0 A2 A3 _ (V4.out.at (.tail _ (.head _))) (V4.out.at (.head _)) rfl).mono ?_
  rintro e w5 ⟨rfl, b5⟩
  clear x4_2 y4_2 x4_3 y4_3
  have V5 := Lib.hid (V4.out.go b5)
  clear b5
  obtain ⟨x5_2, y5_2⟩ := V5.out.box (.tail _ (.head _))
  obtain ⟨x5_3, y5_3⟩ := V5.out.box (.head _)
  go_wp2_with fail
  go_ret
  exact ⟨rfl, V5.out.2.2⟩
theorem pascal {N K : Nat} (hK : 0 < K) (hKN : K < N) : binom (N - 1) (K - 1) + binom (N - 1) K = binom N K := by
  obtain ⟨M, rfl⟩ : ∃ M, N = M + 1 := ⟨N - 1, by omega⟩
  obtain ⟨J, rfl⟩ : ∃ J, K = J + 1 := ⟨K - 1, by omega⟩
  rfl
set_option maxHeartbeats 4000000 in
theorem lawbin_good (N K : Nat) (W : World) (hN : N ≤ 400) (hKN : K ≤ N) (hT : Tab W) :
    Calls Tryd.prog 6 #[.int .i64 (N : Int), .int .i64 (K : Int)] W fun e w' => e = .returned (.bool true) ∧ Below W.heap.size W w' := by
  have V0 := Lib.hid (LiveN.start W)
  go_enter Tryd.func6, Tryd.ntmps6
  go_wp2_with fail
  refine (awake_any _ hT).mono ?_
  rintro e w1 ⟨rfl, b1⟩
  have V1 := Lib.hid (V0.out.go b1)
  clear b1
  go_wp2_with fail
  refine (bin_num N K _ hN hKN).mono ?_
  rintro e w2 ⟨Aa, ca, ka, rfl, n2, b2⟩
  have U2 := Lib.hid ((V1.out.go b2).num n2)
  clear n2 b2
  have V2 := Lib.hid (U2.out.new (.slice Aa ka ca) 24)
  go_wp2_with fail
  refine (rbin_num N K _ hN hKN).mono ?_
  rintro e w3 ⟨Ab, cb, kb, rfl, n3, b3⟩
  have U3 := Lib.hid ((V2.out.go b3).num n3)
  clear n3 b3
  obtain ⟨x3_a, y3_a⟩ := U3.out.box (.head _)
  have V3 := Lib.hid (U3.out.new (.slice Ab kb cb) 24)
  go_wp2_with fail
  refine (same_num ka ca kb cb _ _ Aa Ab _ (V3.out.at (.tail _ (.head _))) (V3.out.at (.head _)) rfl).mono ?_
  rintro e w4 ⟨rfl, b4⟩
  clear x3_a y3_a
  have V4 := Lib.hid (V3.out.go b4)
  clear b4
  obtain ⟨x4_a, y4_a⟩ := V4.out.box (.tail _ (.head _))
  go_wp2_with fail
  refine (bin_num' N (N - K) _ _ _ rfl (by omega) hN (by omega)).mono ?_
  rintro e w5 ⟨Ac, cc, kc, rfl, n5, b5⟩
  clear x4_a y4_a
  have U5 := Lib.hid ((V4.out.go b5).num n5)
  clear n5 b5
  obtain ⟨x5_a, y5_a⟩ := U5.out.box (.tail _ (.head _))
  have V5 := Lib.hid (U5.out.new (.slice Ac kc cc) 24)
  go_wp2_with fail
  refine (same_num ka ca kc cc _ _ Aa Ac _ (V5.out.at (.tail _ (.tail _ (.head _)))) (V5.out.at (.head _)) (binom_symm hKN)).mono ?_
  rintro e w6 ⟨rfl, b6⟩
  clear x5_a y5_a
  have V6 := Lib.hid (V5.out.go b6)
  clear b6
  obtain ⟨x6_a, y6_a⟩ := V6.out.box (.tail _ (.tail _ (.head _)))
  obtain ⟨x6_c, y6_c⟩ := V6.out.box (.head _)
  by_cases hK0 : K = 0
  · subst hK0
    go_wp2_with fail
    refine (same_num ka ca kc cc _ _ Aa Ac _ (V6.out.at (.tail _ (.tail _ (.head _)))) (V6.out.at (.head _)) (binom_symm hKN)).mono ?_
    rintro e w7 ⟨rfl, b7⟩
    clear x6_a y6_a x6_c y6_c
    have V7 := Lib.hid (V6.out.go b7)
    clear b7
    go_wp2_with fail
    go_ret
    exact ⟨rfl, V7.out.2.2⟩
  · have z1 : ((K : Int) == 0) = false := by simp; omega
    by_cases hKN2 : K = N
    · subst hKN2
      go_wp2_with fail
      refine (same_num ka ca kc cc _ _ Aa Ac _ (V6.out.at (.tail _ (.tail _ (.head _)))) (V6.out.at (.head _)) (binom_symm hKN)).mono ?_
      rintro e w7 ⟨rfl, b7⟩
      clear x6_a y6_a x6_c y6_c
      have V7 := Lib.hid (V6.out.go b7)
      clear b7
      go_wp2_with fail
      go_ret
      exact ⟨rfl, V7.out.2.2⟩
    · have z2 : ((K : Int) == (N : Int)) = false := by simp; omega
      have z3 : (K == N) = false := by simp; omega
      have z4 : decide (K = N) = false := by simp; omega
      go_wp2_with fail
      refine (bin_num' (N - 1) (K - 1) _ _ _ (by omega) (by omega) (by omega) (by omega)).mono ?_
      rintro e w7 ⟨Ax, cx, kx, rfl, n7, b7⟩
      clear x6_a y6_a x6_c y6_c
      have U7 := Lib.hid ((V6.out.go b7).num n7)
      clear n7 b7
      have V7 := Lib.hid (U7.out.new (.slice Ax kx cx) 24)
      go_wp2_with fail
      refine (bin_num' (N - 1) K _ _ _ (by omega) rfl (by omega) (by omega)).mono ?_
      rintro e w8 ⟨Ay, cy, ky, rfl, n8, b8⟩
      have U8 := Lib.hid ((V7.out.go b8).num n8)
      clear n8 b8
      obtain ⟨x8_x, y8_x⟩ := U8.out.box (.head _)
      have V8 := Lib.hid (U8.out.new (.slice Ay ky cy) 24)
      go_wp2_with fail
      refine (add_num kx cx ky cy _ _ Ax Ay _ (V8.out.at (.tail _ (.head _))) (V8.out.at (.head _)) (by rw [pascal (by omega) (by omega)]; exact bin200 K hN)).mono ?_
      rintro e w9 ⟨Az, cz, kz, rfl, n9, b9⟩
      clear x8_x y8_x
      have U9 := Lib.hid ((V8.out.go b9).num n9)
      clear n9 b9
      obtain ⟨x9_a, y9_a⟩ := U9.out.box (.tail _ (.tail _ (.tail _ (.tail _ (.head _)))))
      have V9 := Lib.hid (U9.out.new (.slice Az kz cz) 24)
      go_wp2_with fail
      refine (same_num kz cz ka ca _ _ Az Aa _ (V9.out.at (.head _)) (V9.out.at (.tail _ (.tail _ (.tail _ (.tail _ (.tail _ (.head _))))))) (pascal (by omega) (by omega))).mono ?_
      rintro e w10 ⟨rfl, b10⟩
      clear x9_a y9_a
      have V10 := Lib.hid (V9.out.go b10)
      clear b10
      go_wp2_with fail
      go_ret
      exact ⟨rfl, V10.out.2.2⟩
theorem lawbin_any (n k : Int) (W : World) (hn0 : -9223372036854775808 ≤ n) (hn1 : n ≤ 9223372036854775807) (hk0 : -9223372036854775808 ≤ k) (hk1 : k ≤ 9223372036854775807) (hT : Tab W) :
    Calls Tryd.prog 6 #[.int .i64 n, .int .i64 k] W fun e w' => e = .returned (.bool true) ∧ Below W.heap.size W w' := by
  by_cases hbad : n < 0 ∨ 400 < n ∨ k < 0 ∨ n < k
  · exact lawbin_bad n k W hn0 hn1 hk0 hk1 hT hbad
  · obtain ⟨N, rfl⟩ : ∃ N : Nat, n = N := ⟨n.toNat, by omega⟩
    obtain ⟨K, rfl⟩ : ∃ K : Nat, k = K := ⟨k.toNat, by omega⟩
    exact lawbin_good N K W (by omega) (by omega) hT
end Go.Proofs.YtjmndidbhickdaaDoor
