/- The walk of the statement NaturalGcd. -/
import Derived.Test.YtjmndidbhickdaaDoorNNum
import Derived.Test.YtjmndidbhickdaaDoorNWq
import Derived.Test.YtjmndidbhickdaaDoorNReg
namespace Go.Proofs.YtjmndidbhickdaaDoor
open Go.RowKit
set_option linter.unusedVariables false
set_option maxRecDepth 100000

theorem few_nom {n m k : Nat} (h : ¬ n + m ≤ k) : decide (([n, m] : List Nat).sum ≤ k) = false := by
  rw [show ([n, m] : List Nat).sum = n + m by simp]; exact decide_eq_false h
theorem few_yesm {n m k : Nat} (h : n + m ≤ k) : decide (([n, m] : List Nat).sum ≤ k) = true := by
  rw [show ([n, m] : List Nat).sum = n + m by simp]; exact decide_eq_true h
theorem liveN_start2 (W : World) (a b : Value) : LiveN W [(W.heap.size + 1, b), (W.heap.size, a)] [] (box2 W a b) := (LiveN.start W).new2 a b _
set_option maxHeartbeats 1000000 in
theorem lawgcd_big1 (L0 : List Int) (n0 c0 : Nat) (A0 : Option Addr) (L1 : List Int) (n1 c1 : Nat) (A1 : Option Addr) (L2 : List Int) (n2 c2 : Nat) (A2 : Option Addr) (W : World) (hr0 : n0 ≤ 17592186044416) (hr1 : n1 ≤ 17592186044416) (hr2 : n2 ≤ 70368744177664) (hT : Tab W) (hbig : ¬ n0 + n1 ≤ 60) :
    Calls Tryd.prog 5 #[.agg #[.slice A0 n0 c0], .agg #[.slice A1 n1 c1], .slice A2 n2 c2] W fun e w' => e = .returned (.bool true) ∧ Below W.heap.size W w' := by
  have HT := Lib.hid (hT.below (box2_below W (.slice A0 n0 c0) (.slice A1 n1 c1)))
  have HF := Lib.hid (few_nom (n := n0) (m := n1) (k := 60) hbig)
  have HS := Lib.hid (small2 hr0 hr1)
  have V0 := Lib.hid (liveN_start2 W (.slice A0 n0 c0) (.slice A1 n1 c1))
  clear hT hbig hr0 hr1
  go_enter Tryd.func5, Tryd.ntmps5
  go_wp2_with fail
  refine (awake_any _ HT.out).mono ?_
  rintro e w1 ⟨rfl, b1⟩
  have V1 := Lib.hid (V0.out.go b1)
  have H1 := Lib.hid b1
  clear b1
  obtain ⟨x1_0, y1_0⟩ := V1.out.box (.tail _ (.head _))
  obtain ⟨x1_1, y1_1⟩ := V1.out.box (.head _)
  go_wp2_with fail
  refine (Few_any [n0, n1] _ 2 2 60 _ rfl (by omega) HS.out (by omega) (nats2 _ _ _ _ _ _ _ _ _ (by simp))).mono ?_
  rintro e w2 ⟨rfl, rfl⟩
  rw [HF.out]
  clear x1_0 y1_0 x1_1 y1_1
  go_wp2_with fail
  refine (awake_any _ ((HT.out.below H1.out).below ((Below.refl _ _).alloc (Nat.le_refl _) _))).mono ?_
  rintro e w3 ⟨rfl, b3⟩
  have V3 := Lib.hid ((V1.out.go ((Below.refl _ _).alloc (Nat.le_refl _) _)).go b3)
  clear b3
  go_wp2_with fail
  go_ret
  exact ⟨rfl, V3.out.2.2⟩
set_option maxHeartbeats 1000000 in
theorem lawgcd_big2 (L0 : List Int) (n0 c0 : Nat) (A0 : Option Addr) (L1 : List Int) (n1 c1 : Nat) (A1 : Option Addr) (L2 : List Int) (n2 c2 : Nat) (A2 : Option Addr) (W : World) (hr0 : n0 ≤ 17592186044416) (hr1 : n1 ≤ 17592186044416) (hr2 : n2 ≤ 70368744177664) (hT : Tab W) (hbig : n0 + n1 ≤ 60) (h20 : 20 < n2) :
    Calls Tryd.prog 5 #[.agg #[.slice A0 n0 c0], .agg #[.slice A1 n1 c1], .slice A2 n2 c2] W fun e w' => e = .returned (.bool true) ∧ Below W.heap.size W w' := by
  have HT := Lib.hid (hT.below (box2_below W (.slice A0 n0 c0) (.slice A1 n1 c1)))
  have HF := Lib.hid (few_yesm (n := n0) (m := n1) (k := 60) hbig)
  have HS := Lib.hid (small2 hr0 hr1)
  have V0 := Lib.hid (liveN_start2 W (.slice A0 n0 c0) (.slice A1 n1 c1))
  clear hT hbig hr0 hr1
  go_enter Tryd.func5, Tryd.ntmps5
  go_wp2_with fail
  refine (awake_any _ HT.out).mono ?_
  rintro e w1 ⟨rfl, b1⟩
  have V1 := Lib.hid (V0.out.go b1)
  have H1 := Lib.hid b1
  clear b1
  obtain ⟨x1_0, y1_0⟩ := V1.out.box (.tail _ (.head _))
  obtain ⟨x1_1, y1_1⟩ := V1.out.box (.head _)
  go_wp2_with fail
  refine (Few_any [n0, n1] _ 2 2 60 _ rfl (by omega) HS.out (by omega) (nats2 _ _ _ _ _ _ _ _ _ (by simp))).mono ?_
  rintro e w2 ⟨rfl, rfl⟩
  rw [HF.out]
  clear x1_0 y1_0 x1_1 y1_1
  go_wp2_with fail
  refine (awake_any _ ((HT.out.below H1.out).below ((Below.refl _ _).alloc (Nat.le_refl _) _))).mono ?_
  rintro e w3 ⟨rfl, b3⟩
  have V3 := Lib.hid ((V1.out.go ((Below.refl _ _).alloc (Nat.le_refl _) _)).go b3)
  clear b3
  go_wp2_with fail
  go_ret
  exact ⟨rfl, V3.out.2.2⟩
theorem gcdI_mul (x y z : Int) (hx : 0 ≤ x) (hy : 0 ≤ y) (hz : 0 ≤ z) : gcdI (x * z) (y * z) = gcdI x y * z := by
  obtain ⟨a, rfl⟩ : ∃ a : Nat, x = a := ⟨x.toNat, by omega⟩
  obtain ⟨b, rfl⟩ : ∃ a : Nat, y = a := ⟨y.toNat, by omega⟩
  obtain ⟨c, rfl⟩ : ∃ a : Nat, z = a := ⟨z.toNat, by omega⟩
  have e1 : gcdI ((a : Int) * c) ((b : Int) * c) = gcdI ((a * c : Nat) : Int) ((b * c : Nat) : Int) := by simp
  rw [e1, gcdI_nat, gcdI_nat, Nat.gcd_mul_right]; simp
theorem gcdI_eq_zero {x y : Int} (hx : 0 ≤ x) (hy : 0 ≤ y) (h : gcdI x y = 0) : x = 0 ∧ y = 0 := by
  unfold gcdI at h
  have h2 : Nat.gcd x.toNat y.toNat = 0 := by omega
  obtain ⟨a, b⟩ := Nat.gcd_eq_zero_iff.1 h2
  omega
theorem gcdI_mod_left {x y : Int} (hx : 0 ≤ x) (hy : 0 ≤ y) : x % gcdI x y = 0 := by
  obtain ⟨a, rfl⟩ : ∃ a : Nat, x = a := ⟨x.toNat, by omega⟩
  obtain ⟨b, rfl⟩ : ∃ a : Nat, y = a := ⟨y.toNat, by omega⟩
  rw [gcdI_nat]
  have := Nat.mod_eq_zero_of_dvd (Nat.gcd_dvd_left a b)
  omega
theorem gcdI_mod_right {x y : Int} (hx : 0 ≤ x) (hy : 0 ≤ y) : y % gcdI x y = 0 := by rw [gcdI_comm]; exact gcdI_mod_left hy hx
theorem gcd_bd {x y : Int} {k : Nat} (hx : 0 ≤ x) (hy : 0 ≤ y) (h1 : x < pw k) (h2 : y < pw k) : gcdI x y < pw k := by
  by_cases c : 0 < x
  · have := gcdI_le (y := y) c; omega
  · obtain rfl : x = 0 := by omega
    rw [gcdI_zero_left hy]; exact h2
theorem len_zero_iff {x : Int} (h : 0 ≤ x) : (digs x).length = 0 ↔ x = 0 := by
  constructor
  · intro e
    by_cases c : 0 < x
    · rw [digs_pos c] at e; simp at e
    · omega
  · rintro rfl; rw [digs_zero]; rfl
set_option maxHeartbeats 8000000 in
theorem lawgcd_small (L0 : List Int) (n0 c0 : Nat) (A0 : Option Addr) (L1 : List Int) (n1 c1 : Nat) (A1 : Option Addr) (L2 : List Int) (n2 c2 : Nat) (A2 : Option Addr) (W : World) (hl0 : L0.length = n0) (hc0 : n0 ≤ c0) (hr0 : c0 ≤ 17592186044416) (hi0 : IntsIn W A0 L0) (hl1 : L1.length = n1) (hc1 : n1 ≤ c1) (hr1 : c1 ≤ 17592186044416) (hi1 : IntsIn W A1 L1) (hl2 : L2.length = n2) (hi2 : WordsIn W A2 L2) (hw2 : ∀ j, 0 ≤ L2.getD j 0 ∧ L2.getD j 0 ≤ 65535) (hT : Tab W) (hsm : n0 + n1 ≤ 60) (h20 : n2 ≤ 20) :
    Calls Tryd.prog 5 #[.agg #[.slice A0 n0 c0], .agg #[.slice A1 n1 c1], .slice A2 n2 c2] W fun e w' => e = .returned (.bool true) ∧ Below W.heap.size W w' := by
  have HT := Lib.hid (hT.below (box2_below W (.slice A0 n0 c0) (.slice A1 n1 c1)))
  have HF := Lib.hid (few_yesm hsm)
  have HS := Lib.hid (small2 (n := n0) (m := n1) (by omega) (by omega))
  have HV0 := Lib.hid (((Live.start (W := W) (.slice A0 n0 c0) (.slice A1 n1 c1)).num (hi0.below (box2_below W (.slice A0 n0 c0) (.slice A1 n1 c1)))).num (hi1.below (box2_below W (.slice A0 n0 c0) (.slice A1 n1 c1))))
  have HL0 := Lib.hid hl0
  have HL1 := Lib.hid hl1
  have m0 : n0 ≤ maxLen := by unfold maxLen; omega
  have m1 : n1 ≤ maxLen := by unfold maxLen; omega
  have g0 : c0 ≤ maxLen := Nat.le_trans hr0 (by unfold maxLen; decide)
  have g1 : c1 ≤ maxLen := Nat.le_trans hr1 (by unfold maxLen; decide)
  have q0 : n0 ≤ 100000 := by omega
  have q1 : n1 ≤ 100000 := by omega
  obtain ⟨z, hz⟩ : ∃ x, x = val (wordD L2) := ⟨_, rfl⟩
  obtain ⟨pz, qz⟩ : 0 ≤ z ∧ z < pw 20 := by
    rw [hz]
    have h1 := val_lt (wordD_dig L2)
    have h2 := pw_mono (show (wordD L2).length ≤ 20 by rw [wordD_len]; omega)
    exact ⟨val_nonneg (wordD_dig L2), by omega⟩
  have HPZ := Lib.hid pz
  have HQZ := Lib.hid qz
  have HM2 := Lib.hid (fun (w : World) (hb : Below W.heap.size W w) => (show Calls Tryd.prog 18 #[.slice A2 n2 c2] w (MadeNum z w) by rw [hz]; exact made_num L2 n2 c2 A2 w hl2 (by omega) (hi2.below hb) (fun j => (hw2 j).1) (fun j => (hw2 j).2)))
  clear hT hi0 hi1 hl0 hl1 hz pz qz hl2 hi2 hw2 hr0 hr1
  go_enter Tryd.func5, Tryd.ntmps5
  go_wp2_with fail
  refine (awake_any _ HT.out).mono ?_
  rintro e w1 ⟨rfl, hb1⟩
  obtain ⟨ha1, hb1', hs1, hbw1⟩ := keep2 hb1
  have HV1 := Lib.hid (HV0.out.go hb1)
  clear hb1 hbw1
  go_wp2_with fail
  refine (Few_any [n0, n1] _ 2 2 60 _ rfl (by omega) HS.out (by omega) (nats2 _ _ _ _ _ _ _ _ _ (by simp))).mono ?_
  rintro e w2 ⟨rfl, rfl⟩
  rw [HF.out]
  have HV2 := Lib.hid (HV1.out.go (one_new (o := .cells #[.slice A0 n0 c0, .slice A1 n1 c1] 24)))
  have ha2 := (HV2.out.1 _ _ (.tail _ (.head _))).1
  have hb2' := (HV2.out.1 _ _ (.head _)).1
  clear ha1 hb1' hs1
  have I0 := Lib.hid (HV2.out.2.1 A0 L0 (.tail _ (.head _)))
  have I1 := Lib.hid (HV2.out.2.1 A1 L1 (.head _))
  have H0 := Lib.hid (HV2.out.1 _ _ (.tail _ (.head _)))
  have H1 := Lib.hid (HV2.out.1 _ _ (.head _))
  obtain ⟨r, hr⟩ : ∃ r, r = two L0 L1 (gcdI (val L0) (val L1), 0) := ⟨_, rfl⟩
  have HR := Lib.hid hr
  clear hr
  obtain ⟨wz, hwz⟩ : ∃ wz : World, wz = w1.alloc (.cells #[.slice A0 n0 c0, .slice A1 n1 c1] 24) := ⟨_, rfl⟩
  rw [← hwz] at ha2 hb2' HV2 I0 I1 H0 H1 ⊢
  clear hwz
  go_upto_region 4 with fail
  go_cut [7, 8] (fun s5 s6 wx => RegP r wz s5 s6 wx)
  case first =>
    go_region_held3 (fun w' => w'.cell? ⟨W.heap.size, 0, none⟩ = some (.slice A0 n0 c0) ∧ w'.cell? ⟨W.heap.size + 1, 0, none⟩ = some (.slice A1 n1 c1) ∧ Below wz.heap.size wz w')
      (first | (exact ⟨ha2, hb2', (Below.refl _ _).drew⟩) | (exact ⟨ha2, hb2', Below.refl _ _⟩) | (exact keepS H0.out H1.out hb5 (by assumption)) | (exact keepS H0.out H1.out hb6 (by assumption)) | (exact keepS H0.out H1.out hb7 (by assumption)) | (exact keepS H0.out H1.out one_new (by assumption)) | (exact keepT H0.out H1.out zg (by assumption)) | (exact keepB H0.out H1.out (btwo sb7 one_new)))
      (first
        | (go_at_call 12; (with_reducible refine (copied_any L0 n0 c0 A0 _ HL0.out q0 (intsS I0.out (by assumption))).mono ?_); rintro e w5 ⟨A5, c5, rfl, hi5, hl5, hm5, hb5⟩; have sb5 := belS hb5 (by assumption); (first | (have hj6 := IntsIn.below hi6 hb5) | (have hj6 := IntsIn.below (IntsIn.below hi6 one_new) hb5) | skip); (first | (have q5 := kept_new hb5; obtain ⟨zk, zc, zf, zs⟩ := q5; (first | (have zg := leB zs sb5) | (have zg := leB zs sb6) | (have zg := leB zs ((Below.refl wz.heap.size wz).drew))); (try dsimp only [World.drew] at zk zc zf zs zg)) | (have q5 := kept_newd hb5; obtain ⟨zk, zc, zf, zs⟩ := q5; have zg := leB zs (Below.refl wz.heap.size wz); (try dsimp only [World.drew] at zk zc zf zs zg)) | (have q5 := kept_old zk zs hb5; obtain ⟨zk, zc, zf, zs⟩ := q5; (try dsimp only [World.drew] at zk zc zf zs)) | skip))
        | (go_at_call 12; (with_reducible refine (copied_any L1 n1 c1 A1 _ HL1.out q1 (intsS I1.out (by assumption))).mono ?_); rintro e w6 ⟨A6, c6, rfl, hi6, hl6, hm6, hb6⟩; have sb6 := belS hb6 (by assumption); (first | (have hj5 := IntsIn.below hi5 hb6) | (have hj5 := IntsIn.below (IntsIn.below hi5 one_new) hb6) | skip); (first | (have q5 := kept_new hb6; obtain ⟨zk, zc, zf, zs⟩ := q5; (first | (have zg := leB zs sb5) | (have zg := leB zs sb6) | (have zg := leB zs ((Below.refl wz.heap.size wz).drew))); (try dsimp only [World.drew] at zk zc zf zs zg)) | (have q5 := kept_newd hb6; obtain ⟨zk, zc, zf, zs⟩ := q5; have zg := leB zs (Below.refl wz.heap.size wz); (try dsimp only [World.drew] at zk zc zf zs zg)) | (have q5 := kept_old zk zs hb6; obtain ⟨zk, zc, zf, zs⟩ := q5; (try dsimp only [World.drew] at zk zc zf zs)) | skip))
        | (go_at_call 20
           (first
             | (with_reducible refine (gcd_any L0 L1 n0 c5 n1 c6 A5 A6 _ HL0.out HL1.out hl5 hl6 m0 m1 hi5 hj6 hm5 hm6).mono ?_)
             | (with_reducible refine (gcd_any L0 L1 n0 c5 n1 c6 A5 A6 _ HL0.out HL1.out hl5 hl6 m0 m1 hj5 hi6 hm5 hm6).mono ?_)
             | (with_reducible refine (gcd_any L0 L1 n0 c5 n1 c6 A5 A6 _ HL0.out HL1.out hl5 hl6 m0 m1 (IntsIn.below hi5 one_new) (IntsIn.below hj6 one_new) hm5 hm6).mono ?_)
             | (with_reducible refine (gcd_any L0 L1 n0 c5 n1 c6 A5 A6 _ HL0.out HL1.out hl5 hl6 m0 m1 (IntsIn.below hj5 one_new) (IntsIn.below hi6 one_new) hm5 hm6).mono ?_))
           rw [← HR.out]; rintro e w7 ⟨A7, c7, rfl, hi7, hl7, hm7, hb7⟩; have sb7 := belS hb7 (by assumption);  (first | (have q5 := kept_new hb7; obtain ⟨zk, zc, zf, zs⟩ := q5; (first | (have zg := leB zs sb5) | (have zg := leB zs sb6) | (have zg := leB zs ((Below.refl wz.heap.size wz).drew))); (try dsimp only [World.drew] at zk zc zf zs zg)) | (have q5 := kept_newd hb7; obtain ⟨zk, zc, zf, zs⟩ := q5; have zg := leB zs (Below.refl wz.heap.size wz); (try dsimp only [World.drew] at zk zc zf zs zg)) | (have q5 := kept_old zk zs hb7; obtain ⟨zk, zc, zf, zs⟩ := q5; (try dsimp only [World.drew] at zk zc zf zs)) | skip)))
    all_goals (go_wp2_with fail; go_meet)
    all_goals first
      | (exact reg_old zk zg zs rfl hi7 hl7 hm7 sb7)
      | (exact reg_new rfl hi7 hl7 hm7 sb7)
  case rest =>
    have B0 := Lib.hid (show LiveN W [(W.heap.size + 1, .slice A1 n1 c1), (W.heap.size, .slice A0 n0 c0)] [] wz from ⟨HV2.out.1, fun v x hm => by simp at hm, HV2.out.2.2⟩)
    clear ha2 hb2'
    by_cases hv : vldB L0 = true ∧ vldB L1 = true
    · have hr : r = (gcdI (val L0) (val L1), 0) := by rw [HR.out, two_ok _ hv.1 hv.2]
      clear HR
      have NX := Lib.hid (num_mk HL0.out hc0 g0 I0.out hv.1)
      have NY := Lib.hid (num_mk HL1.out hc1 g1 I1.out hv.2)
      have BX : val L0 < pw 60 := by
        have h1 := val_lt (vldB_true hv.1).2.1
        have h2 := pw_mono (show L0.length ≤ 60 by rw [HL0.out]; omega)
        omega
      have BY : val L1 < pw 60 := by
        have h1 := val_lt (vldB_true hv.2).2.1
        have h2 := pw_mono (show L1.length ≤ 60 by rw [HL1.out]; omega)
        omega
      have PX := (vldB_true hv.1).2.2.2.1
      have PY := (vldB_true hv.2).2.2.2.1
      obtain ⟨x, hx⟩ : ∃ x, x = val L0 := ⟨_, rfl⟩
      obtain ⟨y, hy⟩ : ∃ x, x = val L1 := ⟨_, rfl⟩
      rw [← hx] at NX BX PX hr
      rw [← hy] at NY BY PY hr
      have HBX := Lib.hid BX
      have HBY := Lib.hid BY
      clear hx hy hv BX BY
      subst hr
      obtain ⟨g5, Ag, cg, kg, rfl, rfl, hn5, hg5, hcl5, hi5, hl5, hm5, hb5⟩ := hcut
      dsimp only at hn5 hi5 ⊢
      have GB := Lib.hid (gcd_bd PX PY HBX.out HBY.out)
      have V3 := Lib.hid ((((((B0.out.num NX.out).num NY.out).go hb5).num (show NumAt wc (.slice Ag kg cg) (gcdI x y) from ⟨gcdI_nonneg _ _, Ag, cg, by rw [hn5], hi5, by rw [← hn5]; exact hl5, hm5, len_of GB.out (by omega)⟩)).boxed hcl5 hg5))
      clear hn5 hi5 hl5 hm5 hb5
      obtain ⟨x3_a, y3_a⟩ := V3.out.box (.tail _ (.tail _ (.head _)))
      obtain ⟨x3_b, y3_b⟩ := V3.out.box (.tail _ (.head _))
      go_wp2_with fail
      refine (rgcd_num n0 c0 n1 c1 _ _ A0 A1 _ (V3.out.at (.tail _ (.tail _ (.head _)))) (V3.out.at (.tail _ (.head _)))).mono ?_
      rintro e w4 ⟨Ah, ch, kh, rfl, n4, b4⟩
      clear x3_a y3_a x3_b y3_b
      have U4 := Lib.hid ((V3.out.go b4).num n4)
      clear n4 b4
      obtain ⟨x4_g, y4_g⟩ := U4.out.box (.head _)
      have V4 := Lib.hid (U4.out.new (.slice Ah kh ch) 24)
      go_wp2_with fail
      refine (same_num kg cg kh ch _ _ Ag Ah _ (V4.out.at (.tail _ (.head _))) (V4.out.at (.head _)) rfl).mono ?_
      rintro e w5 ⟨rfl, b5⟩
      clear x4_g y4_g
      have V5 := Lib.hid (V4.out.go b5)
      clear b5
      obtain ⟨x5_a, y5_a⟩ := V5.out.box (.tail _ (.tail _ (.tail _ (.head _))))
      obtain ⟨x5_b, y5_b⟩ := V5.out.box (.tail _ (.tail _ (.head _)))
      go_wp2_with fail
      refine (HM2.out _ V5.out.2.2).mono ?_
      rintro e w6 ⟨Az, cz, kz, rfl, n6, b6⟩
      clear x5_a y5_a x5_b y5_b
      have U6 := Lib.hid ((V5.out.go b6).num n6)
      clear n6 b6
      obtain ⟨x6_a, y6_a⟩ := U6.out.box (.tail _ (.tail _ (.tail _ (.head _))))
      have V6 := Lib.hid (U6.out.new (.slice Az kz cz) 24)
      go_wp2_with fail
      refine (mul_num n0 c0 kz cz _ _ A0 Az _ (V6.out.at (.tail _ (.tail _ (.tail _ (.tail _ (.head _)))))) (V6.out.at (.head _)) (len_of (mul_bd HBX.out HQZ.out HPZ.out) (by omega))).mono ?_
      rintro e w7 ⟨Au, cu, ku, rfl, n7, b7⟩
      clear x6_a y6_a
      have U7 := Lib.hid ((V6.out.go b7).num n7)
      clear n7 b7
      obtain ⟨x7_b, y7_b⟩ := U7.out.box (.tail _ (.tail _ (.tail _ (.head _))))
      obtain ⟨x7_z, y7_z⟩ := U7.out.box (.head _)
      have V7 := Lib.hid (U7.out.new (.slice Au ku cu) 24)
      go_wp2_with fail
      refine (mul_num n1 c1 kz cz _ _ A1 Az _ (V7.out.at (.tail _ (.tail _ (.tail _ (.tail _ (.head _)))))) (V7.out.at (.tail _ (.head _))) (len_of (mul_bd HBY.out HQZ.out HPZ.out) (by omega))).mono ?_
      rintro e w8 ⟨Av, cv, kv, rfl, n8, b8⟩
      clear x7_b y7_b x7_z y7_z
      have U8 := Lib.hid ((V7.out.go b8).num n8)
      clear n8 b8
      obtain ⟨x8_u, y8_u⟩ := U8.out.box (.head _)
      have V8 := Lib.hid (U8.out.new (.slice Av kv cv) 24)
      go_wp2_with fail
      refine (gcd_num ku cu kv cv _ _ Au Av _ (V8.out.at (.tail _ (.head _))) (V8.out.at (.head _))).mono ?_
      rintro e w9 ⟨Ad, cd, kd, rfl, n9, b9⟩
      clear x8_u y8_u
      have U9 := Lib.hid ((V8.out.go b9).num n9)
      clear n9 b9
      obtain ⟨x9_h, y9_h⟩ := U9.out.box (.tail _ (.tail _ (.tail _ (.head _))))
      obtain ⟨x9_z, y9_z⟩ := U9.out.box (.tail _ (.tail _ (.head _)))
      have V9 := Lib.hid (U9.out.new (.slice Ad kd cd) 24)
      go_wp2_with fail
      refine (rmul_num kh ch kz cz _ _ Ah Az _ (V9.out.at (.tail _ (.tail _ (.tail _ (.tail _ (.head _)))))) (V9.out.at (.tail _ (.tail _ (.tail _ (.head _))))) (len_of (mul_bd GB.out HQZ.out HPZ.out) (by omega))).mono ?_
      rintro e w10 ⟨At, ct, kt, rfl, n10, b10⟩
      clear x9_h y9_h x9_z y9_z
      have U10 := Lib.hid ((V9.out.go b10).num n10)
      clear n10 b10
      obtain ⟨x10_d, y10_d⟩ := U10.out.box (.head _)
      have V10 := Lib.hid (U10.out.new (.slice At kt ct) 24)
      go_wp2_with fail
      refine (same_num kd cd kt ct _ _ Ad At _ (V10.out.at (.tail _ (.head _))) (V10.out.at (.head _)) (gcdI_mul x y z PX PY HPZ.out)).mono ?_
      rintro e w11 ⟨rfl, b11⟩
      clear x10_d y10_d
      have V11 := Lib.hid (V10.out.go b11)
      clear b11
      obtain ⟨x11_g, y11_g⟩ := V11.out.box (.tail _ (.tail _ (.tail _ (.tail _ (.tail _ (.tail _ (.head _)))))))
      obtain ⟨x11_a, y11_a⟩ := V11.out.box (.tail _ (.tail _ (.tail _ (.tail _ (.tail _ (.tail _ (.tail _ (.tail _ (.head _)))))))))
      obtain ⟨x11_b, y11_b⟩ := V11.out.box (.tail _ (.tail _ (.tail _ (.tail _ (.tail _ (.tail _ (.tail _ (.head _))))))))
      by_cases hg0 : gcdI x y = 0
      · obtain ⟨ex, ey⟩ := gcdI_eq_zero PX PY hg0
        have f0 := (V11.out.at (.tail _ (.tail _ (.tail _ (.tail _ (.tail _ (.tail _ (.tail _ (.tail _ (.head _)))))))))).slice.2.1
        have f1 := (V11.out.at (.tail _ (.tail _ (.tail _ (.tail _ (.tail _ (.tail _ (.tail _ (.head _))))))))).slice.2.1
        have f2 := (V11.out.at (.tail _ (.tail _ (.tail _ (.tail _ (.tail _ (.tail _ (.head _)))))))).slice.2.1
        rw [ex, digs_zero] at f0
        rw [ey, digs_zero] at f1
        rw [hg0, digs_zero] at f2
        have E := Lib.hid (V11.out.2.2)
        clear hg0 ex ey
        obtain rfl : n0 = 0 := f0
        obtain rfl : n1 = 0 := f1
        obtain rfl : kg = 0 := f2
        go_wp2_with fail
        go_ret
        exact ⟨rfl, E.out⟩
      · have hg1 : 0 < gcdI x y := by have := gcdI_nonneg x y; omega
        have f2 := (V11.out.at (.tail _ (.tail _ (.tail _ (.tail _ (.tail _ (.tail _ (.head _)))))))).slice.2.1
        have kg0 : 0 < kg := by rw [f2, digs_pos hg1]; simp
        have kg1 : ((kg : Int) == 0) = false := by simp; omega
        have MX := Lib.hid (gcdI_mod_left PX PY)
        have MY := Lib.hid (gcdI_mod_right PX PY)
        clear f2 hg0
        go_wp2_with fail
        refine (div_num n0 c0 kg cg _ _ A0 Ag _ (V11.out.at (.tail _ (.tail _ (.tail _ (.tail _ (.tail _ (.tail _ (.tail _ (.tail _ (.head _)))))))))) (V11.out.at (.tail _ (.tail _ (.tail _ (.tail _ (.tail _ (.tail _ (.head _)))))))) hg1).mono ?_
        rintro e w12 ⟨Aq, cq, kq, Ar, cr, kr, rfl, n12, m12, b12⟩
        clear x11_g y11_g x11_a y11_a x11_b y11_b
        have U12 := Lib.hid (((V11.out.go b12).num n12).num m12)
        clear n12 m12 b12
        obtain ⟨x12_a, y12_a⟩ := U12.out.box (.tail _ (.tail _ (.tail _ (.tail _ (.tail _ (.tail _ (.tail _ (.tail _ (.head _)))))))))
        obtain ⟨x12_b, y12_b⟩ := U12.out.box (.tail _ (.tail _ (.tail _ (.tail _ (.tail _ (.tail _ (.tail _ (.head _))))))))
        obtain ⟨x12_g, y12_g⟩ := U12.out.box (.tail _ (.tail _ (.tail _ (.tail _ (.tail _ (.tail _ (.head _)))))))
        have V12 := Lib.hid (U12.out.new2 (.slice Aq kq cq) (.slice Ar kr cr) 24)
        go_wp2_with fail
        refine (div_num n1 c1 kg cg _ _ A1 Ag _ (V12.out.at (.tail _ (.tail _ (.tail _ (.tail _ (.tail _ (.tail _ (.tail _ (.tail _ (.tail _ (.head _))))))))))) (V12.out.at (.tail _ (.tail _ (.tail _ (.tail _ (.tail _ (.tail _ (.tail _ (.tail _ (.head _)))))))))) hg1).mono ?_
        rintro e w13 ⟨Ap, cp, kp, As, cs, ks, rfl, n13, m13, b13⟩
        clear x12_a y12_a x12_b y12_b x12_g y12_g
        have U13 := Lib.hid (((V12.out.go b13).num n13).num m13)
        clear n13 m13 b13
        obtain ⟨x13_q, y13_q⟩ := U13.out.box (.tail _ (.head _))
        obtain ⟨x13_r, y13_r⟩ := U13.out.box (.head _)
        have V13 := Lib.hid (U13.out.new2 (.slice Ap kp cp) (.slice As ks cs) 24)
        have f1 := (V13.out.at (.tail _ (.tail _ (.head _)))).slice.2.1
        have f2 := (V13.out.at (.head _)).slice.2.1
        rw [MX.out, digs_zero] at f1
        rw [MY.out, digs_zero] at f2
        have E := Lib.hid (V13.out.2.2)
        obtain rfl : kr = 0 := f1
        obtain rfl : ks = 0 := f2
        clear hg1 kg0 kg1
        go_wp2_with fail
        go_ret
        exact ⟨rfl, E.out⟩
    · have hr : r = (0, 1) := by rw [HR.out]; unfold two; rw [if_neg hv]
      subst hr
      obtain ⟨g5, Ag, cg, kg, rfl, rfl, hn5, hg5, hcl5, hi5, hl5, hm5, hb5⟩ := hcut
      dsimp only at hn5 hi5 ⊢
      rw [digs_zero] at hn5 hi5
      obtain rfl : kg = 0 := hn5
      have V3 := Lib.hid (((B0.out.go hb5).num (show NumAt wc (.slice Ag 0 cg) 0 from ⟨Int.le_refl _, Ag, cg, by rw [digs_zero]; rfl, by rw [digs_zero]; exact hi5, by rw [digs_zero]; exact hl5, hm5, by rw [digs_zero]; simp⟩)).boxed hcl5 hg5)
      have HB5 := Lib.hid hb5
      clear hi5 hl5 hm5 hb5 hv
      obtain ⟨x3_a, y3_a⟩ := V3.out.box (.tail _ (.tail _ (.head _)))
      obtain ⟨x3_b, y3_b⟩ := V3.out.box (.tail _ (.head _))
      go_wp2_with fail
      refine ((rgcd_any L0 L1 n0 c0 n1 c1 A0 A1 _ HL0.out HL1.out hc0 hc1 m0 m1 (I0.out.below HB5.out) (I1.out.below HB5.out) g0 g1).mono fun e w' h => err_post h HR.out.symm).mono ?_
      rintro e w4 ⟨Ah, ch, rfl, n4, b4⟩
      clear x3_a y3_a x3_b y3_b
      have U4 := Lib.hid ((V3.out.go b4).num n4)
      clear n4 b4
      obtain ⟨x4_g, y4_g⟩ := U4.out.box (.head _)
      have V4 := Lib.hid (U4.out.new (.slice Ah 0 ch) 24)
      go_wp2_with fail
      refine (same_num 0 cg 0 ch _ _ Ag Ah _ (V4.out.at (.tail _ (.head _))) (V4.out.at (.head _)) rfl).mono ?_
      rintro e w5 ⟨rfl, b5⟩
      clear x4_g y4_g
      have V5 := Lib.hid (V4.out.go b5)
      clear b5
      obtain ⟨x5_g, y5_g⟩ := V5.out.box (.tail _ (.head _))
      obtain ⟨x5_h, y5_h⟩ := V5.out.box (.head _)
      go_wp2_with fail
      refine (same_num 0 cg 0 ch _ _ Ag Ah _ (V5.out.at (.tail _ (.head _))) (V5.out.at (.head _)) rfl).mono ?_
      rintro e w6 ⟨rfl, b6⟩
      clear x5_g y5_g x5_h y5_h
      have V6 := Lib.hid (V5.out.go b6)
      clear b6
      go_wp2_with fail
      go_ret
      exact ⟨rfl, V6.out.2.2⟩
theorem lawgcd_any (L0 : List Int) (n0 c0 : Nat) (A0 : Option Addr) (L1 : List Int) (n1 c1 : Nat) (A1 : Option Addr) (L2 : List Int) (n2 c2 : Nat) (A2 : Option Addr) (W : World) (hl0 : L0.length = n0) (hc0 : n0 ≤ c0) (hr0 : c0 ≤ 17592186044416) (hi0 : IntsIn W A0 L0) (hl1 : L1.length = n1) (hc1 : n1 ≤ c1) (hr1 : c1 ≤ 17592186044416) (hi1 : IntsIn W A1 L1) (hl2 : L2.length = n2) (hc2 : n2 ≤ c2) (hr2 : c2 ≤ 70368744177664) (hi2 : WordsIn W A2 L2) (hw2 : ∀ j, 0 ≤ L2.getD j 0 ∧ L2.getD j 0 ≤ 65535) (hT : Tab W) :
    Calls Tryd.prog 5 #[.agg #[.slice A0 n0 c0], .agg #[.slice A1 n1 c1], .slice A2 n2 c2] W fun e w' => e = .returned (.bool true) ∧ Below W.heap.size W w' := by
  by_cases h : n0 + n1 ≤ 60
  · by_cases h2 : n2 ≤ 20
    · exact lawgcd_small L0 n0 c0 A0 L1 n1 c1 A1 L2 n2 c2 A2 W hl0 hc0 hr0 hi0 hl1 hc1 hr1 hi1 hl2 hi2 hw2 hT h h2
    · exact lawgcd_big2 L0 n0 c0 A0 L1 n1 c1 A1 L2 n2 c2 A2 W (Nat.le_trans hc0 hr0) (Nat.le_trans hc1 hr1) (Nat.le_trans hc2 hr2) hT h (by omega)
  · exact lawgcd_big1 L0 n0 c0 A0 L1 n1 c1 A1 L2 n2 c2 A2 W (Nat.le_trans hc0 hr0) (Nat.le_trans hc1 hr1) (Nat.le_trans hc2 hr2) hT h
end Go.Proofs.YtjmndidbhickdaaDoor
