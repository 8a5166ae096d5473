/- The walk of the statement NaturalProducts. -/
import Derived.Test.YtiokdfgmamfodaaDoorNSums
import Derived.Test.YtiokdfgmamfodaaDoorNWw
namespace Go.Proofs.YtiokdfgmamfodaaDoor
open Go.RowKit
set_option linter.unusedVariables false

set_option maxHeartbeats 1000000 in
theorem lawprod_big (L0 : List Int) (n0 c0 : Nat) (A0 : Option Addr) (L1 : List Int) (n1 c1 : Nat) (A1 : Option Addr) (W : World) (hr0 : n0 ≤ 17592186044416) (hr1 : n1 ≤ 17592186044416) (hT : Tab W) (hbig : ¬ n0 + n1 ≤ 420) :
    Calls Tryd.prog 5 #[.agg #[.slice A0 n0 c0], .agg #[.slice A1 n1 c1]] W fun e w' => e = .returned (.bool true) ∧ Below W.heap.size W w' := by
  have HT := Lib.hid (hT.below (box2_below W (.slice A0 n0 c0) (.slice A1 n1 c1)))
  have HF := Lib.hid (few_no hbig)
  have HS := Lib.hid (small2 hr0 hr1)
  clear hT hbig hr0 hr1
  go_enter Tryd.func5, Tryd.ntmps5
  go_wp2_with fail
  refine (awake_any _ HT.out).mono ?_
  rintro e w1 ⟨rfl, hb1⟩
  obtain ⟨ha1, hb1', hs1, hbw1⟩ := keep2 hb1
  have HB1 := Lib.hid hb1
  clear hb1 hbw1
  go_wp2_with fail
  refine (few_any [n0, n1] _ 2 2 _ rfl (by omega) HS.out (nats2 _ _ _ _ _ _ _ _ _ (by simp))).mono ?_
  rintro e w2 ⟨rfl, rfl⟩
  rw [HF.out]
  go_wp2_with fail
  refine (awake_any _ ((HT.out.below HB1.out).below ((Below.refl _ _).alloc (Nat.le_refl _) _))).mono ?_
  rintro e w3 ⟨rfl, hb3⟩
  have HB3 := Lib.hid (btwo HB1.out (((Below.refl _ _).alloc (Nat.le_refl _) _).trans (hb3.mono (by simp))))
  clear hb3
  go_wp2_with fail
  go_ret
  exact ⟨rfl, (keep2 HB3.out).2.2.2⟩
set_option maxRecDepth 100000 in
set_option maxHeartbeats 2000000 in
theorem lawprod_small (L0 : List Int) (n0 c0 : Nat) (A0 : Option Addr) (L1 : List Int) (n1 c1 : Nat) (A1 : Option Addr) (W : World) (hl0 : L0.length = n0) (hc0 : n0 ≤ c0) (hi0 : IntsIn W A0 L0) (hl1 : L1.length = n1) (hc1 : n1 ≤ c1) (hi1 : IntsIn W A1 L1) (hT : Tab W) (hsm : n0 + n1 ≤ 420) :
    Calls Tryd.prog 5 #[.agg #[.slice A0 n0 c0], .agg #[.slice A1 n1 c1]] W fun e w' => e = .returned (.bool true) ∧ Below W.heap.size W w' := by
  have HT := Lib.hid (hT.below (box2_below W (.slice A0 n0 c0) (.slice A1 n1 c1)))
  have HF := Lib.hid (few_yes hsm)
  have HS := Lib.hid (small2 (n := n0) (m := n1) (by omega) (by omega))
  have HV0 := Lib.hid (((Live.start (W := W) (.slice A0 n0 c0) (.slice A1 n1 c1)).num (hi0.below (box2_below W (.slice A0 n0 c0) (.slice A1 n1 c1)))).num (hi1.below (box2_below W (.slice A0 n0 c0) (.slice A1 n1 c1))))
  have HL0 := Lib.hid hl0
  have HL1 := Lib.hid hl1
  have m0 : n0 ≤ maxLen := by unfold maxLen; omega
  have m1 : n1 ≤ maxLen := by unfold maxLen; omega
  have q0 : n0 ≤ 100000 := by omega
  have q1 : n1 ≤ 100000 := by omega
  clear hT hsm hi0 hi1 hl0 hl1
  go_enter Tryd.func5, Tryd.ntmps5
  go_wp2_with fail
  refine (awake_any _ HT.out).mono ?_
  rintro e w1 ⟨rfl, hb1⟩
  obtain ⟨ha1, hb1', hs1, hbw1⟩ := keep2 hb1
  have HV1 := Lib.hid (HV0.out.go hb1)
  clear hb1 hbw1
  go_wp2_with fail
  refine (few_any [n0, n1] _ 2 2 _ rfl (by omega) HS.out (nats2 _ _ _ _ _ _ _ _ _ (by simp))).mono ?_
  rintro e w2 ⟨rfl, rfl⟩
  rw [HF.out]
  have HV2 := Lib.hid (HV1.out.go (one_new (o := .cells #[.slice A0 n0 c0, .slice A1 n1 c1] 24)))
  have ha2 := (HV2.out.1 _ _ (.tail _ (.head _))).1
  have hb2' := (HV2.out.1 _ _ (.head _)).1
  clear ha1 hb1' hs1
  have I0 := Lib.hid (HV2.out.2.1 A0 L0 (.tail _ (.head _)))
  have I1 := Lib.hid (HV2.out.2.1 A1 L1 (.head _))
  have H0 := Lib.hid (HV2.out.1 _ _ (.tail _ (.head _)))
  have H1 := Lib.hid (HV2.out.1 _ _ (.head _))
  obtain ⟨r, hr⟩ : ∃ r, r = two L0 L1 (lim (val L0 * val L1)) := ⟨_, rfl⟩
  have HR := Lib.hid hr
  clear hr
  obtain ⟨wz, hwz⟩ : ∃ wz : World, wz = w1.alloc (.cells #[.slice A0 n0 c0, .slice A1 n1 c1] 24) := ⟨_, rfl⟩
  rw [← hwz] at ha2 hb2' HV2 I0 I1 H0 H1 ⊢
  clear hwz
  go_upto_region 3 with fail
  go_cut [5, 6] (fun s5 s6 wx => RegP r wz s5 s6 wx)
  case first =>
    go_region_held3 (fun w' => w'.cell? ⟨W.heap.size, 0, none⟩ = some (.slice A0 n0 c0) ∧ w'.cell? ⟨W.heap.size + 1, 0, none⟩ = some (.slice A1 n1 c1) ∧ Below wz.heap.size wz w')
      (first | (exact ⟨ha2, hb2', (Below.refl _ _).drew⟩) | (exact ⟨ha2, hb2', Below.refl _ _⟩) | (exact keepS H0.out H1.out hb5 (by assumption)) | (exact keepS H0.out H1.out hb6 (by assumption)) | (exact keepS H0.out H1.out hb7 (by assumption)) | (exact keepS H0.out H1.out one_new (by assumption)) | (exact keepT H0.out H1.out zg (by assumption)) | (exact keepB H0.out H1.out (btwo sb7 one_new)))
      (first
        | (go_at_call 22; (with_reducible refine (copied_any L0 n0 c0 A0 _ HL0.out q0 (intsS I0.out (by assumption))).mono ?_); rintro e w5 ⟨A5, c5, rfl, hi5, hl5, hm5, hb5⟩; have sb5 := belS hb5 (by assumption); (first | (have hj6 := IntsIn.below hi6 hb5) | (have hj6 := IntsIn.below (IntsIn.below hi6 one_new) hb5) | skip); (first | (have q5 := kept_new hb5; obtain ⟨zk, zc, zf, zs⟩ := q5; (first | (have zg := leB zs sb5) | (have zg := leB zs sb6) | (have zg := leB zs ((Below.refl wz.heap.size wz).drew))); (try dsimp only [World.drew] at zk zc zf zs zg)) | (have q5 := kept_newd hb5; obtain ⟨zk, zc, zf, zs⟩ := q5; have zg := leB zs (Below.refl wz.heap.size wz); (try dsimp only [World.drew] at zk zc zf zs zg)) | (have q5 := kept_old zk zs hb5; obtain ⟨zk, zc, zf, zs⟩ := q5; (try dsimp only [World.drew] at zk zc zf zs)) | skip))
        | (go_at_call 22; (with_reducible refine (copied_any L1 n1 c1 A1 _ HL1.out q1 (intsS I1.out (by assumption))).mono ?_); rintro e w6 ⟨A6, c6, rfl, hi6, hl6, hm6, hb6⟩; have sb6 := belS hb6 (by assumption); (first | (have hj5 := IntsIn.below hi5 hb6) | (have hj5 := IntsIn.below (IntsIn.below hi5 one_new) hb6) | skip); (first | (have q5 := kept_new hb6; obtain ⟨zk, zc, zf, zs⟩ := q5; (first | (have zg := leB zs sb5) | (have zg := leB zs sb6) | (have zg := leB zs ((Below.refl wz.heap.size wz).drew))); (try dsimp only [World.drew] at zk zc zf zs zg)) | (have q5 := kept_newd hb6; obtain ⟨zk, zc, zf, zs⟩ := q5; have zg := leB zs (Below.refl wz.heap.size wz); (try dsimp only [World.drew] at zk zc zf zs zg)) | (have q5 := kept_old zk zs hb6; obtain ⟨zk, zc, zf, zs⟩ := q5; (try dsimp only [World.drew] at zk zc zf zs)) | skip))
        | (go_at_call 26
           (first
             | (with_reducible refine (mul_any L0 L1 n0 c5 n1 c6 A5 A6 _ HL0.out HL1.out hl5 hl6 m0 m1 hi5 hj6).mono ?_)
             | (with_reducible refine (mul_any L0 L1 n0 c5 n1 c6 A5 A6 _ HL0.out HL1.out hl5 hl6 m0 m1 hj5 hi6).mono ?_)
             | (with_reducible refine (mul_any L0 L1 n0 c5 n1 c6 A5 A6 _ HL0.out HL1.out hl5 hl6 m0 m1 (IntsIn.below hi5 one_new) (IntsIn.below hj6 one_new)).mono ?_)
             | (with_reducible refine (mul_any L0 L1 n0 c5 n1 c6 A5 A6 _ HL0.out HL1.out hl5 hl6 m0 m1 (IntsIn.below hj5 one_new) (IntsIn.below hi6 one_new)).mono ?_))
           rw [← HR.out]; rintro e w7 ⟨A7, c7, rfl, hi7, hl7, hm7, hb7⟩; have sb7 := belS hb7 (by assumption);  (first | (have q5 := kept_new hb7; obtain ⟨zk, zc, zf, zs⟩ := q5; (first | (have zg := leB zs sb5) | (have zg := leB zs sb6) | (have zg := leB zs ((Below.refl wz.heap.size wz).drew))); (try dsimp only [World.drew] at zk zc zf zs zg)) | (have q5 := kept_newd hb7; obtain ⟨zk, zc, zf, zs⟩ := q5; have zg := leB zs (Below.refl wz.heap.size wz); (try dsimp only [World.drew] at zk zc zf zs zg)) | (have q5 := kept_old zk zs hb7; obtain ⟨zk, zc, zf, zs⟩ := q5; (try dsimp only [World.drew] at zk zc zf zs)) | skip)))
    all_goals (go_wp2_with fail; go_meet)
    all_goals first
      | (exact reg_old zk zg zs rfl hi7 hl7 hm7 sb7)
      | (exact reg_new rfl hi7 hl7 hm7 sb7)
  case rest =>
    obtain ⟨g5, A5, c5, n5, rfl, rfl, hn5, hg5, hcl5, hi5, hl5, hm5, hb5⟩ := hcut
    have ha3 := (cell_old H0.out.1 H0.out.2 hb5).1
    have hb3' := (cell_old H1.out.1 H1.out.2 hb5).1
    have HN5 := Lib.hid hn5
    clear ha2 hb2' hn5
    go_wp2_with fail
    refine (rmul_any L0 L1 n0 c0 n1 c1 A0 A1 _ HL0.out HL1.out hc0 hc1 m0 m1 (I0.out.below hb5) (I1.out.below hb5)).mono ?_
    rw [← HR.out]
    rintro e w8 ⟨A8, c8, rfl, hi8, hl8, hm8, hb8⟩
    rw [← HN5.out] at hl8 ⊢
    have BA := one_new (w := w8) (o := .cells #[.slice A8 n5 c8] 24)
    obtain ⟨x5, y5⟩ := cell_old hcl5 hg5 hb8
    have F5 := Lib.hid ((hi5.below hb8).below BA)
    have F8 := Lib.hid (hi8.below BA)
    have HBF := Lib.hid (btwo (btwo (btwo HV2.out.2.2 hb5) hb8) BA)
    have k5 : n5 ≤ maxLen := Nat.le_trans hl5 hm5
    clear BA hi5 hi8 hcl5 hg5 hb5 hb8 ha3 hb3'
    go_wp2_with fail
    refine (same_true _ n5 c5 n5 c8 A5 A8 _ HN5.out.symm HN5.out.symm k5 k5 F5.out F8.out).mono ?_
    rintro e w11 ⟨rfl, hb11⟩
    have HBG := Lib.hid (btwo HBF.out hb11)
    clear hb11
    go_wp2_with fail
    go_ret
    exact ⟨rfl, HBG.out⟩
theorem lawprod_any (L0 : List Int) (n0 c0 : Nat) (A0 : Option Addr) (L1 : List Int) (n1 c1 : Nat) (A1 : Option Addr) (W : World) (hl0 : L0.length = n0) (hc0 : n0 ≤ c0) (hr0 : c0 ≤ 17592186044416) (hi0 : IntsIn W A0 L0) (hl1 : L1.length = n1) (hc1 : n1 ≤ c1) (hr1 : c1 ≤ 17592186044416) (hi1 : IntsIn W A1 L1) (hT : Tab W) :
    Calls Tryd.prog 5 #[.agg #[.slice A0 n0 c0], .agg #[.slice A1 n1 c1]] W fun e w' => e = .returned (.bool true) ∧ Below W.heap.size W w' := by
  by_cases h : n0 + n1 ≤ 420
  · exact lawprod_small L0 n0 c0 A0 L1 n1 c1 A1 W hl0 hc0 hi0 hl1 hc1 hi1 hT h
  · exact lawprod_big L0 n0 c0 A0 L1 n1 c1 A1 W (Nat.le_trans hc0 hr0) (Nat.le_trans hc1 hr1) hT h
end Go.Proofs.YtiokdfgmamfodaaDoor
