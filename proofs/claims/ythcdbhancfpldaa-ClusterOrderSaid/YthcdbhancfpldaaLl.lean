/- Walk of ClusterOrder. -/
import Derived.Test.YthcdbhancfpldaaLk
namespace Go.Proofs.Ythcdbhancfpldaa
open Go.RowKit
set_option linter.unusedVariables false
set_option linter.unusedSimpArgs false
set_option maxRecDepth 100000

theorem ord_facts (a b c : Clu) : (-1 ≤ cmpC a b ∧ cmpC a b ≤ 1) ∧ (cmpC a b = 0 → cmpC b c = cmpC a c) ∧ (cmpC a b ≤ 0 → cmpC b c ≤ 0 → cmpC a c ≤ 0) := by
  refine ⟨?_, fun h => by rw [(tot_clu.zero a b).1 h], tot_clu.trans a b c⟩
  rcases tot_clu.rng a b with h | h | h <;> rw [h] <;> decide
set_option maxHeartbeats 16000000 in
theorem laworder_any (C1 : Clu) (A1 : Option Addr) (n1 c1 : Nat) (B1 : Option Addr) (m1 d1 : Nat) (C2 : Clu) (A2 : Option Addr) (n2 c2 : Nat) (B2 : Option Addr) (m2 d2 : Nat) (C3 : Clu) (A3 : Option Addr) (n3 c3 : Nat) (B3 : Option Addr) (m3 d3 : Nat) (w : World) (hO1 : COpen w A1 n1 c1 B1 m1 d1 C1) (hO2 : COpen w A2 n2 c2 B2 m2 d2 C2) (hO3 : COpen w A3 n3 c3 B3 m3 d3 C3) : Calls Try.prog 7 #[.agg #[.slice A1 n1 c1, .slice B1 m1 d1], .agg #[.slice A2 n2 c2, .slice B2 m2 d2], .agg #[.slice A3 n3 c3, .slice B3 m3 d3]] w fun e w' => e = .returned (.bool true) ∧ Below w.heap.size w w' := by
  have HO1 := Lib.hid hO1
  clear hO1
  have HO2 := Lib.hid hO2
  clear hO2
  have HO3 := Lib.hid hO3
  clear hO3
  have V1 := Lib.hid (show Hp w [cbox (w.heap.size + 1 + 1) A3 n3 c3 B3 m3 d3, cbox (w.heap.size + 1) A2 n2 c2 B2 m2 d2, cbox w.heap.size A1 n1 c1 B1 m1 d1] _ from by
    have := ((((Hp.start w).cbox_new A1 n1 c1 B1 m1 d1).cbox_new A2 n2 c2 B2 m2 d2).cbox_new A3 n3 c3 B3 m3 d3)
    rw [show ((w.alloc (.cells #[.slice A1 n1 c1, .slice B1 m1 d1] 25)).alloc (.cells #[.slice A2 n2 c2, .slice B2 m2 d2] 25)).heap.size = w.heap.size + 1 + 1 by simp, show (w.alloc (.cells #[.slice A1 n1 c1, .slice B1 m1 d1] 25)).heap.size = w.heap.size + 1 by simp] at this
    exact this)
  obtain ⟨z00, z01, z0g⟩ := V1.out.cbox_at (i := 0) rfl
  obtain ⟨z10, z11, z1g⟩ := V1.out.cbox_at (i := 1) rfl
  obtain ⟨z20, z21, z2g⟩ := V1.out.cbox_at (i := 2) rfl
  go_enter Try.func7, Try.ntmps7
  go_wp2_with fail
  refine (awake14_any _).mono ?_
  rintro e w1 ⟨rfl, hb1⟩
  have V1z := Lib.hid (V1.out.go hb1)
  clear z00 z01 z0g
  clear z10 z11 z1g
  clear z20 z21 z2g
  obtain ⟨z00, z01, z0g⟩ := V1z.out.cbox_at (i := 0) rfl
  obtain ⟨z10, z11, z1g⟩ := V1z.out.cbox_at (i := 1) rfl
  obtain ⟨z20, z21, z2g⟩ := V1z.out.cbox_at (i := 2) rfl
  clear hb1
  go_wp2_with fail
  refine (rfew14_any C1 A1 n1 c1 B1 m1 d1 _ HO1.out.ls HO1.out.lb HO1.out.hn HO1.out.hm HO1.out.ht (HO1.out.cs.below V1z.out.below)).mono ?_
  rintro e wf1 ⟨rfl, hbf⟩
  have VF1 := Lib.hid (V1z.out.go hbf)
  clear z00 z01 z0g
  clear z10 z11 z1g
  clear z20 z21 z2g
  obtain ⟨z00, z01, z0g⟩ := VF1.out.cbox_at (i := 0) rfl
  obtain ⟨z10, z11, z1g⟩ := VF1.out.cbox_at (i := 1) rfl
  obtain ⟨z20, z21, z2g⟩ := VF1.out.cbox_at (i := 2) rfl
  clear hbf
  cases hf : fewC C1 with
  | false =>
    go_wp2_with fail
    refine (awake14_any _).mono ?_
    rintro e wg ⟨rfl, hbg⟩
    have VG := Lib.hid (VF1.out.go hbg)
    clear hbg
    go_wp2_with fail
    go_ret
    exact ⟨rfl, VG.out.below⟩
  | true =>
    have HC1 := Lib.hid (HO1.out.few hf)
    clear hf
    go_wp2_with fail
    refine (rfew14_any C2 A2 n2 c2 B2 m2 d2 _ HO2.out.ls HO2.out.lb HO2.out.hn HO2.out.hm HO2.out.ht (HO2.out.cs.below VF1.out.below)).mono ?_
    rintro e wf2 ⟨rfl, hbf⟩
    have VF2 := Lib.hid (VF1.out.go hbf)
    clear z00 z01 z0g
    clear z10 z11 z1g
    clear z20 z21 z2g
    obtain ⟨z00, z01, z0g⟩ := VF2.out.cbox_at (i := 0) rfl
    obtain ⟨z10, z11, z1g⟩ := VF2.out.cbox_at (i := 1) rfl
    obtain ⟨z20, z21, z2g⟩ := VF2.out.cbox_at (i := 2) rfl
    clear hbf
    cases hf : fewC C2 with
    | false =>
      go_wp2_with fail
      refine (awake14_any _).mono ?_
      rintro e wg ⟨rfl, hbg⟩
      have VG := Lib.hid (VF2.out.go hbg)
      clear hbg
      go_wp2_with fail
      go_ret
      exact ⟨rfl, VG.out.below⟩
    | true =>
      have HC2 := Lib.hid (HO2.out.few hf)
      clear hf
      go_wp2_with fail
      refine (rfew14_any C3 A3 n3 c3 B3 m3 d3 _ HO3.out.ls HO3.out.lb HO3.out.hn HO3.out.hm HO3.out.ht (HO3.out.cs.below VF2.out.below)).mono ?_
      rintro e wf3 ⟨rfl, hbf⟩
      have VF3 := Lib.hid (VF2.out.go hbf)
      clear z00 z01 z0g
      clear z10 z11 z1g
      clear z20 z21 z2g
      obtain ⟨z00, z01, z0g⟩ := VF3.out.cbox_at (i := 0) rfl
      obtain ⟨z10, z11, z1g⟩ := VF3.out.cbox_at (i := 1) rfl
      obtain ⟨z20, z21, z2g⟩ := VF3.out.cbox_at (i := 2) rfl
      clear hbf
      cases hf : fewC C3 with
      | false =>
        go_wp2_with fail
        refine (awake14_any _).mono ?_
        rintro e wg ⟨rfl, hbg⟩
        have VG := Lib.hid (VF3.out.go hbg)
        clear hbg
        go_wp2_with fail
        go_ret
        exact ⟨rfl, VG.out.below⟩
      | true =>
        have HC3 := Lib.hid (HO3.out.few hf)
        clear hf
        go_upto_region 3 with fail
        have hKp : Keep [(⟨w.heap.size, 0, none⟩, .slice A1 n1 c1), (⟨w.heap.size, 1, none⟩, .slice B1 m1 d1), (⟨w.heap.size + 1, 0, none⟩, .slice A2 n2 c2), (⟨w.heap.size + 1, 1, none⟩, .slice B2 m2 d2), (⟨w.heap.size + 1 + 1, 0, none⟩, .slice A3 n3 c3), (⟨w.heap.size + 1 + 1, 1, none⟩, .slice B3 m3 d3)] wf3 := List.forall_mem_cons.2 ⟨⟨(VF3.out.cbox_at (i := 2) rfl).1, (VF3.out.cbox_at (i := 2) rfl).2.2⟩, List.forall_mem_cons.2 ⟨⟨(VF3.out.cbox_at (i := 2) rfl).2.1, (VF3.out.cbox_at (i := 2) rfl).2.2⟩, List.forall_mem_cons.2 ⟨⟨(VF3.out.cbox_at (i := 1) rfl).1, (VF3.out.cbox_at (i := 1) rfl).2.2⟩, List.forall_mem_cons.2 ⟨⟨(VF3.out.cbox_at (i := 1) rfl).2.1, (VF3.out.cbox_at (i := 1) rfl).2.2⟩, List.forall_mem_cons.2 ⟨⟨(VF3.out.cbox_at (i := 0) rfl).1, (VF3.out.cbox_at (i := 0) rfl).2.2⟩, List.forall_mem_cons.2 ⟨⟨(VF3.out.cbox_at (i := 0) rfl).2.1, (VF3.out.cbox_at (i := 0) rfl).2.2⟩, fun _ h => by simp at h⟩⟩⟩⟩⟩⟩
        refine wp_region_held_drew (S := Keep _) (by kernel_rfl) hKp.drew (fun hHeld => ?_)
        obtain ⟨wz, hwz⟩ : ∃ z, z = wf3.drew := ⟨_, rfl⟩
        have Vwz := Lib.hid (show Hp w (cbox (w.heap.size + 1 + 1) A3 n3 c3 B3 m3 d3 :: cbox (w.heap.size + 1) A2 n2 c2 B2 m2 d2 :: cbox w.heap.size A1 n1 c1 B1 m1 d1 :: []) wz by rw [hwz]; exact VF3.out.go (bdrew _))
        have Bwz := Lib.hid (show Below wf3.heap.size wf3 wz by rw [hwz]; exact bdrew _)
        rw [← hwz] at hHeld ⊢
        clear hwz hKp
        refine tk 0 ?_ rfl ?_ ?_; rotate_left
        · intro wl hSw
          have hSw : Keep _ wl := hSw
          have k0 := (hSw _ (.head _)).1
          have k1 := (hSw _ (.tail _ (.head _))).1
          dsimp only at k0 k1
          clear hSw
          go_simp
          try (with_reducible rfl)
        try simp only [Act.put, sA, sZ, sS]
        refine tk 2 ?_ rfl ?_ ?_; rotate_left
        · intro wl hSw
          have hSw : Keep _ wl := hSw
          have k0 := (hSw _ (.tail _ (.tail _ (.head _)))).1
          have k1 := (hSw _ (.tail _ (.tail _ (.tail _ (.head _))))).1
          dsimp only at k0 k1
          clear hSw
          go_simp
          try (with_reducible rfl)
        try simp only [Act.put, sA, sZ, sS]
        refine tk 5 ?_ rfl ?_ ?_; rotate_left
        · intro wl hSw
          have hSw : Keep _ wl := hSw
          have k0 := (hSw _ (.tail _ (.tail _ (.head _)))).1
          have k1 := (hSw _ (.tail _ (.tail _ (.tail _ (.head _))))).1
          dsimp only at k0 k1
          clear hSw
          go_simp
          try (with_reducible rfl)
        try simp only [Act.put, sA, sZ, sS]
        refine tk 6 ?_ rfl ?_ ?_; rotate_left
        · intro wl hSw
          have hSw : Keep _ wl := hSw
          have k0 := (hSw _ (.tail _ (.tail _ (.tail _ (.tail _ (.head _)))))).1
          have k1 := (hSw _ (.tail _ (.tail _ (.tail _ (.tail _ (.tail _ (.head _))))))).1
          dsimp only at k0 k1
          clear hSw
          go_simp
          try (with_reducible rfl)
        try simp only [Act.put, sA, sZ, sS]
        refine tk 8 ?_ rfl ?_ ?_; rotate_left
        · intro wl hSw
          have hSw : Keep _ wl := hSw
          have k0 := (hSw _ (.head _)).1
          have k1 := (hSw _ (.tail _ (.head _))).1
          dsimp only at k0 k1
          clear hSw
          go_simp
          try (with_reducible rfl)
        try simp only [Act.put, sA, sZ, sS]
        refine tk 9 ?_ rfl ?_ ?_; rotate_left
        · intro wl hSw
          have hSw : Keep _ wl := hSw
          have k0 := (hSw _ (.tail _ (.tail _ (.tail _ (.tail _ (.head _)))))).1
          have k1 := (hSw _ (.tail _ (.tail _ (.tail _ (.tail _ (.tail _ (.head _))))))).1
          dsimp only at k0 k1
          clear hSw
          go_simp
          try (with_reducible rfl)
        try simp only [Act.put, sA, sZ, sS]
        refine wpAnyH_ready (rs := [1]) (by kernel_rfl) (by simp) ?_
        refine AllReadyH.cons (List.getElem?_toArray.trans rfl) (fun K hK => ?_) AllReadyH.nil
        go_simp
        refine (copied14_any C1 A1 n1 c1 B1 m1 d1 _ (HC1.out.below Vwz.out.below)).mono ?_
        rintro e w_1 ⟨Q1, f1, R1, g1, rfl, hI1, _, _, b_1⟩
        have V_1 := Lib.hid (Vwz.out.go b_1)
        try go_wp2_with fail
        refine hK.out _ _ (hHeld.go b_1) (fun hHeld => ?_)
        clear hK K
        try simp only [Act.put, sA, sZ, sS]
        refine wpAnyH_ready (rs := [3]) (by kernel_rfl) (by simp) ?_
        refine AllReadyH.cons (List.getElem?_toArray.trans rfl) (fun K hK => ?_) AllReadyH.nil
        go_simp
        refine (copied14_any C2 A2 n2 c2 B2 m2 d2 _ (HC2.out.below V_1.out.below)).mono ?_
        rintro e w_1_3 ⟨Q2, f2, R2, g2, rfl, hI2, _, _, b_1_3⟩
        have V_1_3 := Lib.hid (V_1.out.go b_1_3)
        have hI1 := hI1.below b_1_3
        try go_wp2_with fail
        refine hK.out _ _ (hHeld.go b_1_3) (fun hHeld => ?_)
        clear hK K
        try simp only [Act.put, sA, sZ, sS]
        refine wpAnyH_ready (rs := [4]) (by kernel_rfl) (by simp) ?_
        refine AllReadyH.cons (List.getElem?_toArray.trans rfl) (fun K hK => ?_) AllReadyH.nil
        go_simp
        refine (ccompare_any C1 C2 Q1 n1 f1 R1 m1 g1 Q2 n2 f2 R2 m2 g2 _ hI1 hI2).mono ?_
        rintro e w_1_3_4 ⟨rfl, b_1_3_4⟩
        have V_1_3_4 := Lib.hid (V_1_3.out.go b_1_3_4)
        try go_wp2_with fail
        refine hK.out _ _ (hHeld.go b_1_3_4) (fun hHeld => ?_)
        clear hK K
        try simp only [Act.put, sA, sZ, sS]
        refine wpAnyH_ready (rs := [7]) (by kernel_rfl) (by simp) ?_
        refine AllReadyH.cons (List.getElem?_toArray.trans rfl) (fun K hK => ?_) AllReadyH.nil
        go_simp
        refine (ccompare_any C2 C3 A2 n2 c2 B2 m2 d2 A3 n3 c3 B3 m3 d3 _ (HC2.out.below V_1_3_4.out.below) (HC3.out.below V_1_3_4.out.below)).mono ?_
        rintro e w_1_3_4_7 ⟨rfl, b_1_3_4_7⟩
        have V_1_3_4_7 := Lib.hid (V_1_3_4.out.go b_1_3_4_7)
        try go_wp2_with fail
        refine hK.out _ _ (hHeld.go b_1_3_4_7) (fun hHeld => ?_)
        clear hK K
        try simp only [Act.put, sA, sZ, sS]
        refine wpAnyH_ready (rs := [10]) (by kernel_rfl) (by simp) ?_
        refine AllReadyH.cons (List.getElem?_toArray.trans rfl) (fun K hK => ?_) AllReadyH.nil
        go_simp
        refine (ccompare_any C1 C3 A1 n1 c1 B1 m1 d1 A3 n3 c3 B3 m3 d3 _ (HC1.out.below V_1_3_4_7.out.below) (HC3.out.below V_1_3_4_7.out.below)).mono ?_
        rintro e w_1_3_4_7_10 ⟨rfl, b_1_3_4_7_10⟩
        have V_1_3_4_7_10 := Lib.hid (V_1_3_4_7.out.go b_1_3_4_7_10)
        try go_wp2_with fail
        refine hK.out _ _ (hHeld.go b_1_3_4_7_10) (fun hHeld => ?_)
        clear hK K
        try simp only [Act.put, sA, sZ, sS]
        refine tk 11 ?_ rfl ?_ ?_; rotate_left; focus (intro w hSw; clear hSw; go_simp; try (with_reducible rfl))
        try simp only [Act.put, sA, sZ, sS]
        refine tk 12 ?_ rfl ?_ ?_; rotate_left; focus (intro w hSw; clear hSw; go_simp; try (with_reducible rfl))
        try simp only [Act.put, sA, sZ, sS]
        refine tk 13 ?_ rfl ?_ ?_; rotate_left; focus (intro w hSw; clear hSw; go_simp; try (with_reducible rfl))
        try simp only [Act.put, sA, sZ, sS]
        refine wpAnyH_done (by kernel_rfl) ?_ _
        clear hHeld
        obtain ⟨z00, z01, z0g⟩ := V_1_3_4_7_10.out.cbox_at (i := 0) rfl
        obtain ⟨z10, z11, z1g⟩ := V_1_3_4_7_10.out.cbox_at (i := 1) rfl
        obtain ⟨z20, z21, z2g⟩ := V_1_3_4_7_10.out.cbox_at (i := 2) rfl
        obtain ⟨x, hx⟩ : ∃ x, cmpC C1 C2 = x := ⟨_, rfl⟩
        obtain ⟨y, hy⟩ : ∃ y, cmpC C2 C3 = y := ⟨_, rfl⟩
        obtain ⟨z, hz⟩ : ∃ z, cmpC C1 C3 = z := ⟨_, rfl⟩
        have HT := Lib.hid (ord_facts C1 C2 C3)
        rw [hx, hy, hz] at HT
        rw [hx, hy, hz]
        obtain ⟨hr0, hr1⟩ : -1 ≤ x ∧ x ≤ 1 := HT.out.1
        have hwx : IntKind.i64.wrap (-x) = -x := IntWalk.i64_in _ (by omega)
        have HN := Lib.hid (show cmpC C2 C1 = -x by rw [tot_clu.neg C1 C2, hx])
        have HZ := Lib.hid (show cmpC C1 C1 = 0 from (tot_clu.zero _ _).2 rfl)
        have HX := Lib.hid hx
        clear hx hy hz
        go_wp2_with fail
        refine (rccompare_any C1 C2 A1 n1 c1 B1 m1 d1 A2 n2 c2 B2 m2 d2 _ (HC1.out.below V_1_3_4_7_10.out.below) (HC2.out.below V_1_3_4_7_10.out.below)).mono ?_
        rintro e w1 ⟨rfl, hb1⟩
        have V1z := Lib.hid (V_1_3_4_7_10.out.go hb1)
        clear z00 z01 z0g
        clear z10 z11 z1g
        clear z20 z21 z2g
        obtain ⟨z00, z01, z0g⟩ := V1z.out.cbox_at (i := 0) rfl
        obtain ⟨z10, z11, z1g⟩ := V1z.out.cbox_at (i := 1) rfl
        obtain ⟨z20, z21, z2g⟩ := V1z.out.cbox_at (i := 2) rfl
        rw [HX.out]
        clear hb1
        go_wp2_with fail
        refine (ccompare_any C2 C1 A2 n2 c2 B2 m2 d2 A1 n1 c1 B1 m1 d1 _ (HC2.out.below V1z.out.below) (HC1.out.below V1z.out.below)).mono ?_
        rintro e w2 ⟨rfl, hb2⟩
        have V2z := Lib.hid (V1z.out.go hb2)
        clear z00 z01 z0g
        clear z10 z11 z1g
        clear z20 z21 z2g
        obtain ⟨z00, z01, z0g⟩ := V2z.out.cbox_at (i := 0) rfl
        obtain ⟨z10, z11, z1g⟩ := V2z.out.cbox_at (i := 1) rfl
        obtain ⟨z20, z21, z2g⟩ := V2z.out.cbox_at (i := 2) rfl
        rw [HN.out]
        clear hb2
        go_wp2_with fail
        refine (ccompare_any C1 C1 A1 n1 c1 B1 m1 d1 A1 n1 c1 B1 m1 d1 _ (HC1.out.below V2z.out.below) (HC1.out.below V2z.out.below)).mono ?_
        rintro e w3 ⟨rfl, hb3⟩
        have V3z := Lib.hid (V2z.out.go hb3)
        clear z00 z01 z0g
        clear z10 z11 z1g
        clear z20 z21 z2g
        obtain ⟨z00, z01, z0g⟩ := V3z.out.cbox_at (i := 0) rfl
        obtain ⟨z10, z11, z1g⟩ := V3z.out.cbox_at (i := 1) rfl
        obtain ⟨z20, z21, z2g⟩ := V3z.out.cbox_at (i := 2) rfl
        rw [HZ.out]
        clear hb3
        by_cases h1 : 0 < x
        · have e1 : (x != 0) = true := bne_yes (by omega)
          go_wp2_with fail
          go_ret
          exact ⟨rfl, V3z.out.below⟩
        · by_cases h2 : x = 0
          · have e1 : (x != 0) = false := bne_no h2
            have e2 : (y == z) = true := beq_yes (HT.out.2.1 h2)
            by_cases h3 : 0 < y
            · go_wp2_with fail
              go_ret
              exact ⟨rfl, V3z.out.below⟩
            · have h4 : z ≤ 0 := HT.out.2.2 (by omega) (by omega)
              go_wp2_with fail
              go_ret
              exact ⟨rfl, V3z.out.below⟩
          · have e1 : (x != 0) = true := bne_yes h2
            by_cases h3 : 0 < y
            · go_wp2_with fail
              go_ret
              exact ⟨rfl, V3z.out.below⟩
            · have h4 : z ≤ 0 := HT.out.2.2 (by omega) (by omega)
              go_wp2_with fail
              go_ret
              exact ⟨rfl, V3z.out.below⟩
end Go.Proofs.Ythcdbhancfpldaa
