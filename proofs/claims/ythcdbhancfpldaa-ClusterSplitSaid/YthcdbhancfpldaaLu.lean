/- Walk of ClusterSplit. -/
import Derived.Test.YthcdbhancfpldaaLp
import Derived.Test.YthcdbhancfpldaaLt
namespace Go.Proofs.Ythcdbhancfpldaa
open Go.RowKit
set_option linter.unusedVariables false
set_option linter.unusedSimpArgs false
set_option maxRecDepth 100000

theorem spl_ok {C : Clu} {a : Int} (h : (splR C a).2.2 = 0) : jnR (splR C a).1 (splR C a).2.1 = (C, 0) := by
  unfold splR at h ⊢
  by_cases h1 : vC C = 0
  · rw [if_neg (by simp [h1])] at h ⊢
    by_cases h2 : a < 0 ∨ (C.s.length : Int) < a
    · rw [if_pos h2] at h; cases h
    · rw [if_neg h2]
      have hC := vC_zero.1 h1
      have hk : a.toNat ≤ C.s.length := by omega
      have hj := split_join hC hk
      have h3 := congrArg (fun x => x.s.length) hj
      have h4 := congrArg (fun x => x.b.length) hj
      have e3 : (spA C a.toNat).s.length + (spB C a.toNat).s.length = C.s.length := by rw [← h3]; show _ = (_ ++ _ : List Snd).length; rw [List.length_append]
      have e4 : (spA C a.toNat).b.length + (spB C a.toNat).b.length = C.b.length := by
        rw [← h4]
        show _ = (_ ++ upB _ _ : List Int).length
        unfold upB
        rw [List.length_append, List.length_map]
      have n1 := hC.ns
      have n2 := hC.nb
      unfold jnR
      rw [if_neg (by simp [vC_zero.2 (split_okA hC hk)]), if_neg (by simp [vC_zero.2 (split_okB hC hk)]), if_neg (by dsimp only; omega), hj]
  · rw [if_pos h1] at h; exact absurd h h1
set_option maxHeartbeats 16000000 in
theorem lawsplit_any (C1 : Clu) (A1 : Option Addr) (n1 c1 : Nat) (B1 : Option Addr) (m1 d1 : Nat) (at_ : Int) (w : World) (hO1 : COpen w A1 n1 c1 B1 m1 d1 C1) (_h : True) : Calls Try.prog 6 #[.agg #[.slice A1 n1 c1, .slice B1 m1 d1], .int .i64 at_] w fun e w' => e = .returned (.bool true) ∧ Below w.heap.size w w' := by
  have HO1 := Lib.hid hO1
  clear hO1
  have V1 := Lib.hid (show Hp w [cbox w.heap.size A1 n1 c1 B1 m1 d1] _ from by
    have := ((Hp.start w).cbox_new A1 n1 c1 B1 m1 d1)
    exact this)
  obtain ⟨z00, z01, z0g⟩ := V1.out.cbox_at (i := 0) rfl
  go_enter Try.func6, Try.ntmps6
  go_wp2_with fail
  refine (awake14_any _).mono ?_
  rintro e w1 ⟨rfl, hb1⟩
  have V1z := Lib.hid (V1.out.go hb1)
  clear z00 z01 z0g
  obtain ⟨z00, z01, z0g⟩ := V1z.out.cbox_at (i := 0) rfl
  clear hb1
  go_wp2_with fail
  refine (rfew14_any C1 A1 n1 c1 B1 m1 d1 _ HO1.out.ls HO1.out.lb HO1.out.hn HO1.out.hm HO1.out.ht (HO1.out.cs.below V1z.out.below)).mono ?_
  rintro e wf1 ⟨rfl, hbf⟩
  have VF1 := Lib.hid (V1z.out.go hbf)
  clear z00 z01 z0g
  obtain ⟨z00, z01, z0g⟩ := VF1.out.cbox_at (i := 0) rfl
  clear hbf
  cases hf : fewC C1 with
  | false =>
    go_wp2_with fail
    refine (awake14_any _).mono ?_
    rintro e wg ⟨rfl, hbg⟩
    have VG := Lib.hid (VF1.out.go hbg)
    clear hbg
    go_wp2_with fail
    go_ret
    exact ⟨rfl, VG.out.below⟩
  | true =>
    have HC1 := Lib.hid (HO1.out.few hf)
    clear hf
    go_wp2_with fail
    refine (copied14_any C1 A1 n1 c1 B1 m1 d1 _ (HC1.out.below VF1.out.below)).mono ?_
    rintro e w2 ⟨Q1, f1, R1, g1, rfl, hI1, hf1, hg1, hb2⟩
    have V2z := Lib.hid (VF1.out.go hb2)
    clear z00 z01 z0g
    obtain ⟨z00, z01, z0g⟩ := V2z.out.cbox_at (i := 0) rfl
    clear hb2
    go_wp2_with fail
    refine (csplit_any C1 Q1 n1 f1 R1 m1 g1 at_ _ hI1 hf1 hg1).mono ?_
    rintro e wa ⟨A2, n2, c2, B2, m2, d2, A3, n3, c3, B3, m3, d3, rfl, hX, hY, hba⟩
    have VA0 := Lib.hid (V2z.out.go hba)
    clear hba hf1 hg1
    clear z00 z01 z0g
    obtain ⟨ga, hga⟩ : ∃ z, z = wa.heap.size := ⟨_, rfl⟩
    obtain ⟨gb, hgb⟩ : ∃ z, z = wa.heap.size + 1 := ⟨_, rfl⟩
    obtain ⟨wb, hwb⟩ : ∃ z, z = (wa.alloc (.cells #[.slice A2 n2 c2, .slice B2 m2 d2] 25)).alloc (.cells #[.slice A3 n3 c3, .slice B3 m3 d3] 25) := ⟨_, rfl⟩
    have Vwb := Lib.hid (show Hp w [cbox gb A3 n3 c3 B3 m3 d3, cbox ga A2 n2 c2 B2 m2 d2, cbox w.heap.size A1 n1 c1 B1 m1 d1] wb by
      have := (VA0.out.cbox_new A2 n2 c2 B2 m2 d2).cbox_new A3 n3 c3 B3 m3 d3
      rw [show (wa.alloc (.cells #[.slice A2 n2 c2, .slice B2 m2 d2] 25)).heap.size = wa.heap.size + 1 by simp, ← hgb, ← hga] at this
      rw [hwb]; exact this)
    have Bwb : Below wa.heap.size wa wb := by rw [hwb]; exact btwo (bnew _ _) (bnew _ _)
    have KX := Lib.hid (hX.below Bwb)
    have KY := Lib.hid (hY.below Bwb)
    have HWwb := Lib.hid hwb
    have HAwb := Lib.hid hga
    have HBwb := Lib.hid hgb
    clear hwb hga hgb Bwb
    clear hX hY
    go_upto_region 4 with fail
    rw [← HWwb.out, ← HBwb.out]
    try rw [← HAwb.out]
    obtain ⟨z00, z01, z0g⟩ := Vwb.out.cbox_at (i := 0) rfl
    obtain ⟨z10, z11, z1g⟩ := Vwb.out.cbox_at (i := 1) rfl
    obtain ⟨z20, z21, z2g⟩ := Vwb.out.cbox_at (i := 2) rfl
    go_wp2_with fail
    refine (rsplit_any C1 A1 n1 c1 B1 m1 d1 at_ _ (HC1.out.below Vwb.out.below) HO1.out.nc HO1.out.md).mono ?_
    rintro e wc ⟨A4, n4, c4, B4, m4, d4, A5, n5, c5, B5, m5, d5, rfl, hX, hY, hbc⟩
    have VC0 := Lib.hid (Vwb.out.go hbc)
    have KX1 := Lib.hid (KX.out.below hbc)
    have KY1 := Lib.hid (KY.out.below hbc)
    clear hbc
    clear z00 z01 z0g
    clear z10 z11 z1g
    clear z20 z21 z2g
    obtain ⟨gc, hgc⟩ : ∃ z, z = wc.heap.size := ⟨_, rfl⟩
    obtain ⟨gd, hgd⟩ : ∃ z, z = wc.heap.size + 1 := ⟨_, rfl⟩
    obtain ⟨wd, hwd⟩ : ∃ z, z = (wc.alloc (.cells #[.slice A4 n4 c4, .slice B4 m4 d4] 25)).alloc (.cells #[.slice A5 n5 c5, .slice B5 m5 d5] 25) := ⟨_, rfl⟩
    have Vwd := Lib.hid (show Hp w [cbox gd A5 n5 c5 B5 m5 d5, cbox gc A4 n4 c4 B4 m4 d4, cbox gb A3 n3 c3 B3 m3 d3, cbox ga A2 n2 c2 B2 m2 d2, cbox w.heap.size A1 n1 c1 B1 m1 d1] wd by
      have := (VC0.out.cbox_new A4 n4 c4 B4 m4 d4).cbox_new A5 n5 c5 B5 m5 d5
      rw [show (wc.alloc (.cells #[.slice A4 n4 c4, .slice B4 m4 d4] 25)).heap.size = wc.heap.size + 1 by simp, ← hgd, ← hgc] at this
      rw [hwd]; exact this)
    have Bwd : Below wc.heap.size wc wd := by rw [hwd]; exact btwo (bnew _ _) (bnew _ _)
    have RX := Lib.hid (hX.below Bwd)
    have RY := Lib.hid (hY.below Bwd)
    have KX2 := Lib.hid (KX1.out.below Bwd)
    have KY2 := Lib.hid (KY1.out.below Bwd)
    have HWwd := Lib.hid hwd
    have HAwd := Lib.hid hgc
    have HBwd := Lib.hid hgd
    clear hwd hgc hgd Bwd
    clear hX hY
    go_upto_region 5 with fail
    rw [← HWwd.out, ← HBwd.out]
    try rw [← HAwd.out]
    obtain ⟨u, hu⟩ : ∃ u, (splR C1 at_).2.2 = u := ⟨_, rfl⟩
    have HU := Lib.hid hu
    rw [hu]
    clear hu
    obtain ⟨z00, z01, z0g⟩ := Vwd.out.cbox_at (i := 0) rfl
    obtain ⟨z10, z11, z1g⟩ := Vwd.out.cbox_at (i := 1) rfl
    obtain ⟨z20, z21, z2g⟩ := Vwd.out.cbox_at (i := 2) rfl
    obtain ⟨z30, z31, z3g⟩ := Vwd.out.cbox_at (i := 3) rfl
    obtain ⟨z40, z41, z4g⟩ := Vwd.out.cbox_at (i := 4) rfl
    go_wp2_with fail
    refine (rsame14_any (splR C1 at_).1 (splR C1 at_).1 A2 n2 c2 B2 m2 d2 A4 n4 c4 B4 m4 d4 _ KX2.out RX.out).mono ?_
    rintro e we3 ⟨rfl, hb⟩
    rw [show (cmpC (splR C1 at_).1 (splR C1 at_).1 == 0) = true from beq_yes ((tot_clu.zero _ _).2 rfl)]
    have VS3 := Lib.hid (Vwd.out.go hb)
    have KX3 := Lib.hid (KX2.out.below hb)
    have KY3 := Lib.hid (KY2.out.below hb)
    have RX3 := Lib.hid (RX.out.below hb)
    have RY3 := Lib.hid (RY.out.below hb)
    clear hb
    clear z00 z01 z0g
    clear z10 z11 z1g
    clear z20 z21 z2g
    clear z30 z31 z3g
    clear z40 z41 z4g
    obtain ⟨z00, z01, z0g⟩ := VS3.out.cbox_at (i := 0) rfl
    obtain ⟨z10, z11, z1g⟩ := VS3.out.cbox_at (i := 1) rfl
    obtain ⟨z20, z21, z2g⟩ := VS3.out.cbox_at (i := 2) rfl
    obtain ⟨z30, z31, z3g⟩ := VS3.out.cbox_at (i := 3) rfl
    obtain ⟨z40, z41, z4g⟩ := VS3.out.cbox_at (i := 4) rfl
    go_wp2_with fail
    refine (rsame14_any (splR C1 at_).2.1 (splR C1 at_).2.1 A3 n3 c3 B3 m3 d3 A5 n5 c5 B5 m5 d5 _ KY3.out RY3.out).mono ?_
    rintro e we4 ⟨rfl, hb⟩
    rw [show (cmpC (splR C1 at_).2.1 (splR C1 at_).2.1 == 0) = true from beq_yes ((tot_clu.zero _ _).2 rfl)]
    have VS4 := Lib.hid (VS3.out.go hb)
    have KX4 := Lib.hid (KX3.out.below hb)
    have KY4 := Lib.hid (KY3.out.below hb)
    have RX4 := Lib.hid (RX3.out.below hb)
    have RY4 := Lib.hid (RY3.out.below hb)
    clear hb
    clear z00 z01 z0g
    clear z10 z11 z1g
    clear z20 z21 z2g
    clear z30 z31 z3g
    clear z40 z41 z4g
    obtain ⟨z00, z01, z0g⟩ := VS4.out.cbox_at (i := 0) rfl
    obtain ⟨z10, z11, z1g⟩ := VS4.out.cbox_at (i := 1) rfl
    obtain ⟨z20, z21, z2g⟩ := VS4.out.cbox_at (i := 2) rfl
    obtain ⟨z30, z31, z3g⟩ := VS4.out.cbox_at (i := 3) rfl
    obtain ⟨z40, z41, z4g⟩ := VS4.out.cbox_at (i := 4) rfl
    by_cases h0 : u = 0
    · subst h0
      have HJ := Lib.hid (spl_ok HU.out)
      go_wp2_with fail
      refine (cjoin_any (splR C1 at_).1 (splR C1 at_).2.1 A2 n2 c2 B2 m2 d2 A3 n3 c3 B3 m3 d3 _ KX4.out KY4.out).mono ?_
      rintro e wj ⟨AJ, nj, cj, BJ, mj, dj, rfl, hIJ, hpJ⟩
      rw [HJ.out]
      rw [HJ.out] at hIJ
      dsimp only at hIJ ⊢
      have VJ0 := Lib.hid (VS4.out.go hpJ.below)
      clear hpJ
      clear z00 z01 z0g
      clear z10 z11 z1g
      clear z20 z21 z2g
      clear z30 z31 z3g
      clear z40 z41 z4g
      obtain ⟨gj, hgj⟩ : ∃ z, z = wj.heap.size := ⟨_, rfl⟩
      obtain ⟨wk, hwk⟩ : ∃ z, z = wj.alloc (.cells #[.slice AJ nj cj, .slice BJ mj dj] 25) := ⟨_, rfl⟩
      have VK := Lib.hid (show Hp w [cbox gj AJ nj cj BJ mj dj, cbox gd A5 n5 c5 B5 m5 d5, cbox gc A4 n4 c4 B4 m4 d4, cbox gb A3 n3 c3 B3 m3 d3, cbox ga A2 n2 c2 B2 m2 d2, cbox w.heap.size A1 n1 c1 B1 m1 d1] wk by rw [hwk, hgj]; exact VJ0.out.cbox_new AJ nj cj BJ mj dj)
      have KJ := Lib.hid (show CIn wk AJ nj BJ mj C1 by rw [hwk]; exact hIJ.below (bnew _ _))
      have HWK := Lib.hid hwk
      have HGJ := Lib.hid hgj
      clear hwk hgj hIJ
      go_upto_region 8 with fail
      rw [← HWK.out, ← HGJ.out]
      obtain ⟨z00, z01, z0g⟩ := VK.out.cbox_at (i := 0) rfl
      obtain ⟨z10, z11, z1g⟩ := VK.out.cbox_at (i := 1) rfl
      obtain ⟨z20, z21, z2g⟩ := VK.out.cbox_at (i := 2) rfl
      obtain ⟨z30, z31, z3g⟩ := VK.out.cbox_at (i := 3) rfl
      obtain ⟨z40, z41, z4g⟩ := VK.out.cbox_at (i := 4) rfl
      obtain ⟨z50, z51, z5g⟩ := VK.out.cbox_at (i := 5) rfl
      go_wp2_with fail
      refine (rsame14_any C1 C1 AJ nj cj BJ mj dj A1 n1 c1 B1 m1 d1 _ KJ.out (HC1.out.below VK.out.below)).mono ?_
      rintro e wl ⟨rfl, hb⟩
      rw [show (cmpC C1 C1 == 0) = true from beq_yes ((tot_clu.zero _ _).2 rfl)]
      have VL := Lib.hid (VK.out.go hb)
      clear hb
      go_wp2_with fail
      go_ret
      exact ⟨rfl, VL.out.below⟩
    · have hne : (u != 0) = true := bne_yes h0
      clear h0
      go_wp2_with fail
      refine (rsame14_any (splR C1 at_).1 (splR C1 at_).1 A2 n2 c2 B2 m2 d2 A4 n4 c4 B4 m4 d4 _ KX4.out RX4.out).mono ?_
      rintro e we5 ⟨rfl, hb⟩
      rw [show (cmpC (splR C1 at_).1 (splR C1 at_).1 == 0) = true from beq_yes ((tot_clu.zero _ _).2 rfl)]
      have VS5 := Lib.hid (VS4.out.go hb)
      have KX5 := Lib.hid (KX4.out.below hb)
      have KY5 := Lib.hid (KY4.out.below hb)
      have RX5 := Lib.hid (RX4.out.below hb)
      have RY5 := Lib.hid (RY4.out.below hb)
      clear hb
      clear z00 z01 z0g
      clear z10 z11 z1g
      clear z20 z21 z2g
      clear z30 z31 z3g
      clear z40 z41 z4g
      obtain ⟨z00, z01, z0g⟩ := VS5.out.cbox_at (i := 0) rfl
      obtain ⟨z10, z11, z1g⟩ := VS5.out.cbox_at (i := 1) rfl
      obtain ⟨z20, z21, z2g⟩ := VS5.out.cbox_at (i := 2) rfl
      obtain ⟨z30, z31, z3g⟩ := VS5.out.cbox_at (i := 3) rfl
      obtain ⟨z40, z41, z4g⟩ := VS5.out.cbox_at (i := 4) rfl
      go_wp2_with fail
      refine (rsame14_any (splR C1 at_).2.1 (splR C1 at_).2.1 A3 n3 c3 B3 m3 d3 A5 n5 c5 B5 m5 d5 _ KY5.out RY5.out).mono ?_
      rintro e we6 ⟨rfl, hb⟩
      rw [show (cmpC (splR C1 at_).2.1 (splR C1 at_).2.1 == 0) = true from beq_yes ((tot_clu.zero _ _).2 rfl)]
      have VS6 := Lib.hid (VS5.out.go hb)
      have KX6 := Lib.hid (KX5.out.below hb)
      have KY6 := Lib.hid (KY5.out.below hb)
      have RX6 := Lib.hid (RX5.out.below hb)
      have RY6 := Lib.hid (RY5.out.below hb)
      clear hb
      clear z00 z01 z0g
      clear z10 z11 z1g
      clear z20 z21 z2g
      clear z30 z31 z3g
      clear z40 z41 z4g
      obtain ⟨z00, z01, z0g⟩ := VS6.out.cbox_at (i := 0) rfl
      obtain ⟨z10, z11, z1g⟩ := VS6.out.cbox_at (i := 1) rfl
      obtain ⟨z20, z21, z2g⟩ := VS6.out.cbox_at (i := 2) rfl
      obtain ⟨z30, z31, z3g⟩ := VS6.out.cbox_at (i := 3) rfl
      obtain ⟨z40, z41, z4g⟩ := VS6.out.cbox_at (i := 4) rfl
      go_wp2_with fail
      go_ret
      exact ⟨rfl, VS6.out.below⟩
end Go.Proofs.Ythcdbhancfpldaa
