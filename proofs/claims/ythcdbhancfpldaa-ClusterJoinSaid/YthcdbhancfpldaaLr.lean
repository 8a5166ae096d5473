/- Walk of ClusterJoin. -/
import Derived.Test.YthcdbhancfpldaaLq
namespace Go.Proofs.Ythcdbhancfpldaa
open Go.RowKit
set_option linter.unusedVariables false
set_option linter.unusedSimpArgs false
set_option maxRecDepth 100000

theorem jnR_ok {a b : Clu} (h : (jnR a b).2 = 0) : vC a = 0 ∧ vC b = 0 ∧ (jnR a b).1 = jnC a b ∧ COk (jnC a b) := by
  unfold jnR at h ⊢
  by_cases h1 : vC a = 0
  · rw [if_neg (by simp [h1])] at h ⊢
    by_cases h2 : vC b = 0
    · rw [if_neg (by simp [h2])] at h ⊢
      by_cases h3 : 12 < a.s.length + b.s.length ∨ 12 < a.b.length + b.b.length
      · rw [if_pos h3] at h; cases h
      · rw [if_neg h3]
        exact ⟨h1, h2, rfl, join_ok (vC_zero.1 h1) (vC_zero.1 h2) (by omega) (by omega)⟩
    · rw [if_pos h2] at h; exact absurd h h2
  · rw [if_pos h1] at h; exact absurd h h1
theorem jnR_size {a b : Clu} (ha : a.s.length ≤ 1000) (hb : b.s.length ≤ 1000) : (jnR a b).1.s.length ≤ 2000 := by
  unfold jnR
  split
  · simp
  · split
    · simp
    · split
      · simp
      · show (a.s ++ b.s).length ≤ 2000; rw [List.length_append]; omega
set_option maxHeartbeats 16000000 in
theorem lawjoin_any (C1 : Clu) (A1 : Option Addr) (n1 c1 : Nat) (B1 : Option Addr) (m1 d1 : Nat) (C2 : Clu) (A2 : Option Addr) (n2 c2 : Nat) (B2 : Option Addr) (m2 d2 : Nat) (w : World) (hO1 : COpen w A1 n1 c1 B1 m1 d1 C1) (hO2 : COpen w A2 n2 c2 B2 m2 d2 C2) : Calls Try.prog 5 #[.agg #[.slice A1 n1 c1, .slice B1 m1 d1], .agg #[.slice A2 n2 c2, .slice B2 m2 d2]] w fun e w' => e = .returned (.bool true) ∧ Below w.heap.size w w' := by
  have HO1 := Lib.hid hO1
  clear hO1
  have HO2 := Lib.hid hO2
  clear hO2
  have V1 := Lib.hid (show Hp w [cbox (w.heap.size + 1) A2 n2 c2 B2 m2 d2, cbox w.heap.size A1 n1 c1 B1 m1 d1] _ from by
    have := (((Hp.start w).cbox_new A1 n1 c1 B1 m1 d1).cbox_new A2 n2 c2 B2 m2 d2)
    rw [show (w.alloc (.cells #[.slice A1 n1 c1, .slice B1 m1 d1] 25)).heap.size = w.heap.size + 1 by simp] at this
    exact this)
  obtain ⟨z00, z01, z0g⟩ := V1.out.cbox_at (i := 0) rfl
  obtain ⟨z10, z11, z1g⟩ := V1.out.cbox_at (i := 1) rfl
  go_enter Try.func5, Try.ntmps5
  go_wp2_with fail
  refine (awake14_any _).mono ?_
  rintro e w1 ⟨rfl, hb1⟩
  have V1z := Lib.hid (V1.out.go hb1)
  clear z00 z01 z0g
  clear z10 z11 z1g
  obtain ⟨z00, z01, z0g⟩ := V1z.out.cbox_at (i := 0) rfl
  obtain ⟨z10, z11, z1g⟩ := V1z.out.cbox_at (i := 1) rfl
  clear hb1
  go_wp2_with fail
  refine (rfew14_any C1 A1 n1 c1 B1 m1 d1 _ HO1.out.ls HO1.out.lb HO1.out.hn HO1.out.hm HO1.out.ht (HO1.out.cs.below V1z.out.below)).mono ?_
  rintro e wf1 ⟨rfl, hbf⟩
  have VF1 := Lib.hid (V1z.out.go hbf)
  clear z00 z01 z0g
  clear z10 z11 z1g
  obtain ⟨z00, z01, z0g⟩ := VF1.out.cbox_at (i := 0) rfl
  obtain ⟨z10, z11, z1g⟩ := VF1.out.cbox_at (i := 1) rfl
  clear hbf
  cases hf : fewC C1 with
  | false =>
    go_wp2_with fail
    refine (awake14_any _).mono ?_
    rintro e wg ⟨rfl, hbg⟩
    have VG := Lib.hid (VF1.out.go hbg)
    clear hbg
    go_wp2_with fail
    go_ret
    exact ⟨rfl, VG.out.below⟩
  | true =>
    have HC1 := Lib.hid (HO1.out.few hf)
    clear hf
    go_wp2_with fail
    refine (rfew14_any C2 A2 n2 c2 B2 m2 d2 _ HO2.out.ls HO2.out.lb HO2.out.hn HO2.out.hm HO2.out.ht (HO2.out.cs.below VF1.out.below)).mono ?_
    rintro e wf2 ⟨rfl, hbf⟩
    have VF2 := Lib.hid (VF1.out.go hbf)
    clear z00 z01 z0g
    clear z10 z11 z1g
    obtain ⟨z00, z01, z0g⟩ := VF2.out.cbox_at (i := 0) rfl
    obtain ⟨z10, z11, z1g⟩ := VF2.out.cbox_at (i := 1) rfl
    clear hbf
    cases hf : fewC C2 with
    | false =>
      go_wp2_with fail
      refine (awake14_any _).mono ?_
      rintro e wg ⟨rfl, hbg⟩
      have VG := Lib.hid (VF2.out.go hbg)
      clear hbg
      go_wp2_with fail
      go_ret
      exact ⟨rfl, VG.out.below⟩
    | true =>
      have HC2 := Lib.hid (HO2.out.few hf)
      clear hf
      go_upto_region 3 with fail
      go_cut [5, 6] (fun r r2 wx => ∃ gk AJ nj cj BJ mj dj, r = .pointer (some ⟨gk, 0, none⟩) ∧ r2 = .int .i64 (jnR C1 C2).2 ∧ ((jnR C1 C2).1.s.length = nj ∧ (jnR C1 C2).1.b.length = mj ∧ nj ≤ 1000000 ∧ mj ≤ 1000000 ∧ (∀ x ∈ (jnR C1 C2).1.s, x.t.length ≤ 140737488355328)) ∧ Hp w [cbox gk AJ nj cj BJ mj dj, snds AJ nj cj (jnR C1 C2).1.s, nums BJ mj dj (jnR C1 C2).1.b, cbox (w.heap.size + 1) A2 n2 c2 B2 m2 d2, cbox w.heap.size A1 n1 c1 B1 m1 d1] wx)
      case first =>
        have hKp : Keep [(⟨w.heap.size, 0, none⟩, .slice A1 n1 c1), (⟨w.heap.size, 1, none⟩, .slice B1 m1 d1), (⟨w.heap.size + 1, 0, none⟩, .slice A2 n2 c2), (⟨w.heap.size + 1, 1, none⟩, .slice B2 m2 d2)] wf2 := List.forall_mem_cons.2 ⟨⟨(VF2.out.cbox_at (i := 1) rfl).1, (VF2.out.cbox_at (i := 1) rfl).2.2⟩, List.forall_mem_cons.2 ⟨⟨(VF2.out.cbox_at (i := 1) rfl).2.1, (VF2.out.cbox_at (i := 1) rfl).2.2⟩, List.forall_mem_cons.2 ⟨⟨(VF2.out.cbox_at (i := 0) rfl).1, (VF2.out.cbox_at (i := 0) rfl).2.2⟩, List.forall_mem_cons.2 ⟨⟨(VF2.out.cbox_at (i := 0) rfl).2.1, (VF2.out.cbox_at (i := 0) rfl).2.2⟩, fun _ h => by simp at h⟩⟩⟩⟩
        refine wp_region_held_drew (S := Keep _) (by kernel_rfl) hKp.drew (fun hHeld => ?_)
        obtain ⟨wz, hwz⟩ : ∃ z, z = wf2.drew := ⟨_, rfl⟩
        have Vwz := Lib.hid (show Hp w (cbox (w.heap.size + 1) A2 n2 c2 B2 m2 d2 :: cbox w.heap.size A1 n1 c1 B1 m1 d1 :: []) wz by rw [hwz]; exact VF2.out.go (bdrew _))
        have Bwz := Lib.hid (show Below wf2.heap.size wf2 wz by rw [hwz]; exact bdrew _)
        rw [← hwz] at hHeld ⊢
        clear hwz hKp
        refine tk 0 ?_ rfl ?_ ?_; rotate_left
        · intro wl hSw
          have hSw : Keep _ wl := hSw
          have k0 := (hSw _ (.head _)).1
          have k1 := (hSw _ (.tail _ (.head _))).1
          dsimp only at k0 k1
          clear hSw
          go_simp
          try (with_reducible rfl)
        try simp only [Act.put, sA, sZ, sS]
        refine tk 2 ?_ rfl ?_ ?_; rotate_left
        · intro wl hSw
          have hSw : Keep _ wl := hSw
          have k0 := (hSw _ (.tail _ (.tail _ (.head _)))).1
          have k1 := (hSw _ (.tail _ (.tail _ (.tail _ (.head _))))).1
          dsimp only at k0 k1
          clear hSw
          go_simp
          try (with_reducible rfl)
        try simp only [Act.put, sA, sZ, sS]
        refine wpAnyH_ready (rs := [1, 8]) (by kernel_rfl) (by simp) ?_
        refine AllReadyH.cons (List.getElem?_toArray.trans rfl) (fun K hK => ?_) ?_
        · go_simp
          refine (copied14_any C1 A1 n1 c1 B1 m1 d1 _ (HC1.out.below Vwz.out.below)).mono ?_
          rintro e w_1 ⟨Q1, f1, R1, g1, rfl, hI1, _, _, b_1⟩
          have V_1 := Lib.hid (Vwz.out.go b_1)
          try go_wp2_with fail
          refine hK.out _ _ (hHeld.go b_1) (fun hHeld => ?_)
          clear hK K
          try simp only [Act.put, sA, sZ, sS]
          refine wpAnyH_ready (rs := [3, 8]) (by kernel_rfl) (by simp) ?_
          refine AllReadyH.cons (List.getElem?_toArray.trans rfl) (fun K hK => ?_) ?_
          · go_simp
            refine (copied14_any C2 A2 n2 c2 B2 m2 d2 _ (HC2.out.below V_1.out.below)).mono ?_
            rintro e w_1_3 ⟨Q2, f2, R2, g2, rfl, hI2, _, _, b_1_3⟩
            have V_1_3 := Lib.hid (V_1.out.go b_1_3)
            have hI1 := hI1.below b_1_3
            try go_wp2_with fail
            refine hK.out _ _ (hHeld.go b_1_3) (fun hHeld => ?_)
            clear hK K
            try simp only [Act.put, sA, sZ, sS]
            refine wpAnyH_ready (rs := [4, 8]) (by kernel_rfl) (by simp) ?_
            refine AllReadyH.cons (List.getElem?_toArray.trans rfl) (fun K hK => ?_) ?_
            · go_simp
              refine (cjoin_any C1 C2 Q1 n1 f1 R1 m1 g1 Q2 n2 f2 R2 m2 g2 _ hI1 hI2).mono ?_
              rintro e w_1_3_4 ⟨AJ, nj, cj, BJ, mj, dj, rfl, hIJ, hpJ⟩
              have V_1_3_4 := Lib.hid (show Hp w (snds AJ nj cj (jnR C1 C2).1.s :: nums BJ mj dj (jnR C1 C2).1.b :: cbox (w.heap.size + 1) A2 n2 c2 B2 m2 d2 :: cbox w.heap.size A1 n1 c1 B1 m1 d1 :: []) w_1_3_4 from V_1_3.out.join hpJ)
              have b_1_3_4 := hpJ.below
              have HLJ := Lib.hid (show (jnR C1 C2).1.s.length = nj ∧ (jnR C1 C2).1.b.length = mj ∧ nj ≤ 1000000 ∧ mj ≤ 1000000 ∧ (∀ x ∈ (jnR C1 C2).1.s, x.t.length ≤ 140737488355328) from ⟨hIJ.ls, hIJ.lb, hIJ.hn, hIJ.hm, hIJ.ht⟩)
              clear hIJ
              try go_wp2_with fail
              refine hK.out _ _ (hHeld.go b_1_3_4) (fun hHeld => ?_)
              clear hK K
              try simp only [Act.put, sA, sZ, sS]
              refine tk 5 ?_ rfl ?_ ?_; rotate_left; focus (intro w hSw; clear hSw; go_simp; try (with_reducible rfl))
              try simp only [Act.put, sA, sZ, sS]
              refine tk 6 ?_ rfl ?_ ?_; rotate_left; focus (intro w hSw; clear hSw; go_simp; try (with_reducible rfl))
              try simp only [Act.put, sA, sZ, sS]
              refine tk 7 ?_ rfl ?_ ?_; rotate_left; focus (intro w hSw; clear hSw; go_simp; try (with_reducible rfl))
              try simp only [Act.put, sA, sZ, sS]
              refine wpAnyH_ready (rs := [8]) (by kernel_rfl) (by simp) ?_
              refine AllReadyH.cons (List.getElem?_toArray.trans rfl) (fun K hK => ?_) AllReadyH.nil
              obtain ⟨w_1_3_4_8, hw_1_3_4_8⟩ : ∃ z, z = w_1_3_4.alloc (.cells #[.slice none 0 0, .slice none 0 0] 25) := ⟨_, rfl⟩
              obtain ⟨g_1_3_4_8, hg_1_3_4_8⟩ : ∃ z, z = w_1_3_4.heap.size := ⟨_, rfl⟩
              have V_1_3_4_8 := Lib.hid (show Hp w (cbox g_1_3_4_8 none 0 0 none 0 0 :: snds AJ nj cj (jnR C1 C2).1.s :: nums BJ mj dj (jnR C1 C2).1.b :: cbox (w.heap.size + 1) A2 n2 c2 B2 m2 d2 :: cbox w.heap.size A1 n1 c1 B1 m1 d1 :: []) w_1_3_4_8 by rw [hw_1_3_4_8, hg_1_3_4_8]; exact V_1_3_4.out.cbox_new none 0 0 none 0 0)
              have B_1_3_4_8 := Lib.hid (show Below w_1_3_4.heap.size w_1_3_4 w_1_3_4_8 by rw [hw_1_3_4_8]; exact bnew _ _)
              have HW_1_3_4_8 := Lib.hid hw_1_3_4_8
              have HG_1_3_4_8 := Lib.hid hg_1_3_4_8
              clear hw_1_3_4_8 hg_1_3_4_8
              go_simp
              try rw [← HW_1_3_4_8.out]
              try rw [← HG_1_3_4_8.out]
              refine hK.out _ _ (hHeld.go B_1_3_4_8.out) (fun hHeld => ?_)
              clear hK K
              try simp only [Act.put, sA, sZ, sS]
              refine wpAnyH_ready (rs := [9]) (by kernel_rfl) (by simp) ?_
              refine AllReadyH.cons (List.getElem?_toArray.trans rfl) (fun K hK => ?_) AllReadyH.nil
              obtain ⟨⟨s0, s1, s2⟩, s3, s4⟩ := V_1_3_4_8.out.cbox_st (i := 0) rfl
              have VX := Lib.hid (V_1_3_4_8.out.cbox_set (i := 0) rfl AJ nj cj BJ mj dj)
              go_simp
              refine hK.out _ _ (List.forall_mem_cons.2 ⟨⟨(VX.out.cbox_at (i := 4) rfl).1, (VX.out.cbox_at (i := 4) rfl).2.2⟩, List.forall_mem_cons.2 ⟨⟨(VX.out.cbox_at (i := 4) rfl).2.1, (VX.out.cbox_at (i := 4) rfl).2.2⟩, List.forall_mem_cons.2 ⟨⟨(VX.out.cbox_at (i := 3) rfl).1, (VX.out.cbox_at (i := 3) rfl).2.2⟩, List.forall_mem_cons.2 ⟨⟨(VX.out.cbox_at (i := 3) rfl).2.1, (VX.out.cbox_at (i := 3) rfl).2.2⟩, fun _ h => by simp at h⟩⟩⟩⟩) (fun hHeld => ?_)
              clear hK K
              try simp only [Act.put, sA, sZ, sS]
              refine tk 10 ?_ rfl ?_ ?_; rotate_left; focus (intro w hSw; clear hSw; go_simp; try (with_reducible rfl))
              try simp only [Act.put, sA, sZ, sS]
              refine wpAnyH_done (by kernel_rfl) ?_ _
              clear hHeld
              go_wp2_with fail
              go_meet
              exact ⟨_, AJ, nj, cj, BJ, mj, dj, rfl, rfl, HLJ.out, VX.out.pick [0, 1, 2, 3, 4] (by decide) rfl⟩
            refine AllReadyH.cons (List.getElem?_toArray.trans rfl) (fun K hK => ?_) ?_
            · obtain ⟨w_1_3_8, hw_1_3_8⟩ : ∃ z, z = w_1_3.alloc (.cells #[.slice none 0 0, .slice none 0 0] 25) := ⟨_, rfl⟩
              obtain ⟨g_1_3_8, hg_1_3_8⟩ : ∃ z, z = w_1_3.heap.size := ⟨_, rfl⟩
              have V_1_3_8 := Lib.hid (show Hp w (cbox g_1_3_8 none 0 0 none 0 0 :: cbox (w.heap.size + 1) A2 n2 c2 B2 m2 d2 :: cbox w.heap.size A1 n1 c1 B1 m1 d1 :: []) w_1_3_8 by rw [hw_1_3_8, hg_1_3_8]; exact V_1_3.out.cbox_new none 0 0 none 0 0)
              have B_1_3_8 := Lib.hid (show Below w_1_3.heap.size w_1_3 w_1_3_8 by rw [hw_1_3_8]; exact bnew _ _)
              have hI1 := hI1.below B_1_3_8.out
              have hI2 := hI2.below B_1_3_8.out
              have HW_1_3_8 := Lib.hid hw_1_3_8
              have HG_1_3_8 := Lib.hid hg_1_3_8
              clear hw_1_3_8 hg_1_3_8
              go_simp
              try rw [← HW_1_3_8.out]
              try rw [← HG_1_3_8.out]
              refine hK.out _ _ (hHeld.go B_1_3_8.out) (fun hHeld => ?_)
              clear hK K
              try simp only [Act.put, sA, sZ, sS]
              refine wpAnyH_ready (rs := [4]) (by kernel_rfl) (by simp) ?_
              refine AllReadyH.cons (List.getElem?_toArray.trans rfl) (fun K hK => ?_) AllReadyH.nil
              go_simp
              refine (cjoin_any C1 C2 Q1 n1 f1 R1 m1 g1 Q2 n2 f2 R2 m2 g2 _ hI1 hI2).mono ?_
              rintro e w_1_3_8_4 ⟨AJ, nj, cj, BJ, mj, dj, rfl, hIJ, hpJ⟩
              have V_1_3_8_4 := Lib.hid (show Hp w (snds AJ nj cj (jnR C1 C2).1.s :: nums BJ mj dj (jnR C1 C2).1.b :: cbox g_1_3_8 none 0 0 none 0 0 :: cbox (w.heap.size + 1) A2 n2 c2 B2 m2 d2 :: cbox w.heap.size A1 n1 c1 B1 m1 d1 :: []) w_1_3_8_4 from V_1_3_8.out.join hpJ)
              have b_1_3_8_4 := hpJ.below
              have HLJ := Lib.hid (show (jnR C1 C2).1.s.length = nj ∧ (jnR C1 C2).1.b.length = mj ∧ nj ≤ 1000000 ∧ mj ≤ 1000000 ∧ (∀ x ∈ (jnR C1 C2).1.s, x.t.length ≤ 140737488355328) from ⟨hIJ.ls, hIJ.lb, hIJ.hn, hIJ.hm, hIJ.ht⟩)
              clear hIJ
              try go_wp2_with fail
              refine hK.out _ _ (hHeld.go b_1_3_8_4) (fun hHeld => ?_)
              clear hK K
              try simp only [Act.put, sA, sZ, sS]
              refine tk 5 ?_ rfl ?_ ?_; rotate_left; focus (intro w hSw; clear hSw; go_simp; try (with_reducible rfl))
              try simp only [Act.put, sA, sZ, sS]
              refine tk 6 ?_ rfl ?_ ?_; rotate_left; focus (intro w hSw; clear hSw; go_simp; try (with_reducible rfl))
              try simp only [Act.put, sA, sZ, sS]
              refine tk 7 ?_ rfl ?_ ?_; rotate_left; focus (intro w hSw; clear hSw; go_simp; try (with_reducible rfl))
              try simp only [Act.put, sA, sZ, sS]
              refine wpAnyH_ready (rs := [9]) (by kernel_rfl) (by simp) ?_
              refine AllReadyH.cons (List.getElem?_toArray.trans rfl) (fun K hK => ?_) AllReadyH.nil
              obtain ⟨⟨s0, s1, s2⟩, s3, s4⟩ := V_1_3_8_4.out.cbox_st (i := 2) rfl
              have VX := Lib.hid (V_1_3_8_4.out.cbox_set (i := 2) rfl AJ nj cj BJ mj dj)
              go_simp
              refine hK.out _ _ (List.forall_mem_cons.2 ⟨⟨(VX.out.cbox_at (i := 4) rfl).1, (VX.out.cbox_at (i := 4) rfl).2.2⟩, List.forall_mem_cons.2 ⟨⟨(VX.out.cbox_at (i := 4) rfl).2.1, (VX.out.cbox_at (i := 4) rfl).2.2⟩, List.forall_mem_cons.2 ⟨⟨(VX.out.cbox_at (i := 3) rfl).1, (VX.out.cbox_at (i := 3) rfl).2.2⟩, List.forall_mem_cons.2 ⟨⟨(VX.out.cbox_at (i := 3) rfl).2.1, (VX.out.cbox_at (i := 3) rfl).2.2⟩, fun _ h => by simp at h⟩⟩⟩⟩) (fun hHeld => ?_)
              clear hK K
              try simp only [Act.put, sA, sZ, sS]
              refine tk 10 ?_ rfl ?_ ?_; rotate_left; focus (intro w hSw; clear hSw; go_simp; try (with_reducible rfl))
              try simp only [Act.put, sA, sZ, sS]
              refine wpAnyH_done (by kernel_rfl) ?_ _
              clear hHeld
              go_wp2_with fail
              go_meet
              exact ⟨_, AJ, nj, cj, BJ, mj, dj, rfl, rfl, HLJ.out, VX.out.pick [2, 0, 1, 3, 4] (by decide) rfl⟩
            exact AllReadyH.nil
          refine AllReadyH.cons (List.getElem?_toArray.trans rfl) (fun K hK => ?_) ?_
          · obtain ⟨w_1_8, hw_1_8⟩ : ∃ z, z = w_1.alloc (.cells #[.slice none 0 0, .slice none 0 0] 25) := ⟨_, rfl⟩
            obtain ⟨g_1_8, hg_1_8⟩ : ∃ z, z = w_1.heap.size := ⟨_, rfl⟩
            have V_1_8 := Lib.hid (show Hp w (cbox g_1_8 none 0 0 none 0 0 :: cbox (w.heap.size + 1) A2 n2 c2 B2 m2 d2 :: cbox w.heap.size A1 n1 c1 B1 m1 d1 :: []) w_1_8 by rw [hw_1_8, hg_1_8]; exact V_1.out.cbox_new none 0 0 none 0 0)
            have B_1_8 := Lib.hid (show Below w_1.heap.size w_1 w_1_8 by rw [hw_1_8]; exact bnew _ _)
            have hI1 := hI1.below B_1_8.out
            have HW_1_8 := Lib.hid hw_1_8
            have HG_1_8 := Lib.hid hg_1_8
            clear hw_1_8 hg_1_8
            go_simp
            try rw [← HW_1_8.out]
            try rw [← HG_1_8.out]
            refine hK.out _ _ (hHeld.go B_1_8.out) (fun hHeld => ?_)
            clear hK K
            try simp only [Act.put, sA, sZ, sS]
            refine wpAnyH_ready (rs := [3]) (by kernel_rfl) (by simp) ?_
            refine AllReadyH.cons (List.getElem?_toArray.trans rfl) (fun K hK => ?_) AllReadyH.nil
            go_simp
            refine (copied14_any C2 A2 n2 c2 B2 m2 d2 _ (HC2.out.below V_1_8.out.below)).mono ?_
            rintro e w_1_8_3 ⟨Q2, f2, R2, g2, rfl, hI2, _, _, b_1_8_3⟩
            have V_1_8_3 := Lib.hid (V_1_8.out.go b_1_8_3)
            have hI1 := hI1.below b_1_8_3
            try go_wp2_with fail
            refine hK.out _ _ (hHeld.go b_1_8_3) (fun hHeld => ?_)
            clear hK K
            try simp only [Act.put, sA, sZ, sS]
            refine wpAnyH_ready (rs := [4]) (by kernel_rfl) (by simp) ?_
            refine AllReadyH.cons (List.getElem?_toArray.trans rfl) (fun K hK => ?_) AllReadyH.nil
            go_simp
            refine (cjoin_any C1 C2 Q1 n1 f1 R1 m1 g1 Q2 n2 f2 R2 m2 g2 _ hI1 hI2).mono ?_
            rintro e w_1_8_3_4 ⟨AJ, nj, cj, BJ, mj, dj, rfl, hIJ, hpJ⟩
            have V_1_8_3_4 := Lib.hid (show Hp w (snds AJ nj cj (jnR C1 C2).1.s :: nums BJ mj dj (jnR C1 C2).1.b :: cbox g_1_8 none 0 0 none 0 0 :: cbox (w.heap.size + 1) A2 n2 c2 B2 m2 d2 :: cbox w.heap.size A1 n1 c1 B1 m1 d1 :: []) w_1_8_3_4 from V_1_8_3.out.join hpJ)
            have b_1_8_3_4 := hpJ.below
            have HLJ := Lib.hid (show (jnR C1 C2).1.s.length = nj ∧ (jnR C1 C2).1.b.length = mj ∧ nj ≤ 1000000 ∧ mj ≤ 1000000 ∧ (∀ x ∈ (jnR C1 C2).1.s, x.t.length ≤ 140737488355328) from ⟨hIJ.ls, hIJ.lb, hIJ.hn, hIJ.hm, hIJ.ht⟩)
            clear hIJ
            try go_wp2_with fail
            refine hK.out _ _ (hHeld.go b_1_8_3_4) (fun hHeld => ?_)
            clear hK K
            try simp only [Act.put, sA, sZ, sS]
            refine tk 5 ?_ rfl ?_ ?_; rotate_left; focus (intro w hSw; clear hSw; go_simp; try (with_reducible rfl))
            try simp only [Act.put, sA, sZ, sS]
            refine tk 6 ?_ rfl ?_ ?_; rotate_left; focus (intro w hSw; clear hSw; go_simp; try (with_reducible rfl))
            try simp only [Act.put, sA, sZ, sS]
            refine tk 7 ?_ rfl ?_ ?_; rotate_left; focus (intro w hSw; clear hSw; go_simp; try (with_reducible rfl))
            try simp only [Act.put, sA, sZ, sS]
            refine wpAnyH_ready (rs := [9]) (by kernel_rfl) (by simp) ?_
            refine AllReadyH.cons (List.getElem?_toArray.trans rfl) (fun K hK => ?_) AllReadyH.nil
            obtain ⟨⟨s0, s1, s2⟩, s3, s4⟩ := V_1_8_3_4.out.cbox_st (i := 2) rfl
            have VX := Lib.hid (V_1_8_3_4.out.cbox_set (i := 2) rfl AJ nj cj BJ mj dj)
            go_simp
            refine hK.out _ _ (List.forall_mem_cons.2 ⟨⟨(VX.out.cbox_at (i := 4) rfl).1, (VX.out.cbox_at (i := 4) rfl).2.2⟩, List.forall_mem_cons.2 ⟨⟨(VX.out.cbox_at (i := 4) rfl).2.1, (VX.out.cbox_at (i := 4) rfl).2.2⟩, List.forall_mem_cons.2 ⟨⟨(VX.out.cbox_at (i := 3) rfl).1, (VX.out.cbox_at (i := 3) rfl).2.2⟩, List.forall_mem_cons.2 ⟨⟨(VX.out.cbox_at (i := 3) rfl).2.1, (VX.out.cbox_at (i := 3) rfl).2.2⟩, fun _ h => by simp at h⟩⟩⟩⟩) (fun hHeld => ?_)
            clear hK K
            try simp only [Act.put, sA, sZ, sS]
            refine tk 10 ?_ rfl ?_ ?_; rotate_left; focus (intro w hSw; clear hSw; go_simp; try (with_reducible rfl))
            try simp only [Act.put, sA, sZ, sS]
            refine wpAnyH_done (by kernel_rfl) ?_ _
            clear hHeld
            go_wp2_with fail
            go_meet
            exact ⟨_, AJ, nj, cj, BJ, mj, dj, rfl, rfl, HLJ.out, VX.out.pick [2, 0, 1, 3, 4] (by decide) rfl⟩
          exact AllReadyH.nil
        refine AllReadyH.cons (List.getElem?_toArray.trans rfl) (fun K hK => ?_) ?_
        · obtain ⟨w_8, hw_8⟩ : ∃ z, z = wz.alloc (.cells #[.slice none 0 0, .slice none 0 0] 25) := ⟨_, rfl⟩
          obtain ⟨g_8, hg_8⟩ : ∃ z, z = wz.heap.size := ⟨_, rfl⟩
          have V_8 := Lib.hid (show Hp w (cbox g_8 none 0 0 none 0 0 :: cbox (w.heap.size + 1) A2 n2 c2 B2 m2 d2 :: cbox w.heap.size A1 n1 c1 B1 m1 d1 :: []) w_8 by rw [hw_8, hg_8]; exact Vwz.out.cbox_new none 0 0 none 0 0)
          have B_8 := Lib.hid (show Below wz.heap.size wz w_8 by rw [hw_8]; exact bnew _ _)
          have HW_8 := Lib.hid hw_8
          have HG_8 := Lib.hid hg_8
          clear hw_8 hg_8
          go_simp
          try rw [← HW_8.out]
          try rw [← HG_8.out]
          refine hK.out _ _ (hHeld.go B_8.out) (fun hHeld => ?_)
          clear hK K
          try simp only [Act.put, sA, sZ, sS]
          refine wpAnyH_ready (rs := [1]) (by kernel_rfl) (by simp) ?_
          refine AllReadyH.cons (List.getElem?_toArray.trans rfl) (fun K hK => ?_) AllReadyH.nil
          go_simp
          refine (copied14_any C1 A1 n1 c1 B1 m1 d1 _ (HC1.out.below V_8.out.below)).mono ?_
          rintro e w_8_1 ⟨Q1, f1, R1, g1, rfl, hI1, _, _, b_8_1⟩
          have V_8_1 := Lib.hid (V_8.out.go b_8_1)
          try go_wp2_with fail
          refine hK.out _ _ (hHeld.go b_8_1) (fun hHeld => ?_)
          clear hK K
          try simp only [Act.put, sA, sZ, sS]
          refine wpAnyH_ready (rs := [3]) (by kernel_rfl) (by simp) ?_
          refine AllReadyH.cons (List.getElem?_toArray.trans rfl) (fun K hK => ?_) AllReadyH.nil
          go_simp
          refine (copied14_any C2 A2 n2 c2 B2 m2 d2 _ (HC2.out.below V_8_1.out.below)).mono ?_
          rintro e w_8_1_3 ⟨Q2, f2, R2, g2, rfl, hI2, _, _, b_8_1_3⟩
          have V_8_1_3 := Lib.hid (V_8_1.out.go b_8_1_3)
          have hI1 := hI1.below b_8_1_3
          try go_wp2_with fail
          refine hK.out _ _ (hHeld.go b_8_1_3) (fun hHeld => ?_)
          clear hK K
          try simp only [Act.put, sA, sZ, sS]
          refine wpAnyH_ready (rs := [4]) (by kernel_rfl) (by simp) ?_
          refine AllReadyH.cons (List.getElem?_toArray.trans rfl) (fun K hK => ?_) AllReadyH.nil
          go_simp
          refine (cjoin_any C1 C2 Q1 n1 f1 R1 m1 g1 Q2 n2 f2 R2 m2 g2 _ hI1 hI2).mono ?_
          rintro e w_8_1_3_4 ⟨AJ, nj, cj, BJ, mj, dj, rfl, hIJ, hpJ⟩
          have V_8_1_3_4 := Lib.hid (show Hp w (snds AJ nj cj (jnR C1 C2).1.s :: nums BJ mj dj (jnR C1 C2).1.b :: cbox g_8 none 0 0 none 0 0 :: cbox (w.heap.size + 1) A2 n2 c2 B2 m2 d2 :: cbox w.heap.size A1 n1 c1 B1 m1 d1 :: []) w_8_1_3_4 from V_8_1_3.out.join hpJ)
          have b_8_1_3_4 := hpJ.below
          have HLJ := Lib.hid (show (jnR C1 C2).1.s.length = nj ∧ (jnR C1 C2).1.b.length = mj ∧ nj ≤ 1000000 ∧ mj ≤ 1000000 ∧ (∀ x ∈ (jnR C1 C2).1.s, x.t.length ≤ 140737488355328) from ⟨hIJ.ls, hIJ.lb, hIJ.hn, hIJ.hm, hIJ.ht⟩)
          clear hIJ
          try go_wp2_with fail
          refine hK.out _ _ (hHeld.go b_8_1_3_4) (fun hHeld => ?_)
          clear hK K
          try simp only [Act.put, sA, sZ, sS]
          refine tk 5 ?_ rfl ?_ ?_; rotate_left; focus (intro w hSw; clear hSw; go_simp; try (with_reducible rfl))
          try simp only [Act.put, sA, sZ, sS]
          refine tk 6 ?_ rfl ?_ ?_; rotate_left; focus (intro w hSw; clear hSw; go_simp; try (with_reducible rfl))
          try simp only [Act.put, sA, sZ, sS]
          refine tk 7 ?_ rfl ?_ ?_; rotate_left; focus (intro w hSw; clear hSw; go_simp; try (with_reducible rfl))
          try simp only [Act.put, sA, sZ, sS]
          refine wpAnyH_ready (rs := [9]) (by kernel_rfl) (by simp) ?_
          refine AllReadyH.cons (List.getElem?_toArray.trans rfl) (fun K hK => ?_) AllReadyH.nil
          obtain ⟨⟨s0, s1, s2⟩, s3, s4⟩ := V_8_1_3_4.out.cbox_st (i := 2) rfl
          have VX := Lib.hid (V_8_1_3_4.out.cbox_set (i := 2) rfl AJ nj cj BJ mj dj)
          go_simp
          refine hK.out _ _ (List.forall_mem_cons.2 ⟨⟨(VX.out.cbox_at (i := 4) rfl).1, (VX.out.cbox_at (i := 4) rfl).2.2⟩, List.forall_mem_cons.2 ⟨⟨(VX.out.cbox_at (i := 4) rfl).2.1, (VX.out.cbox_at (i := 4) rfl).2.2⟩, List.forall_mem_cons.2 ⟨⟨(VX.out.cbox_at (i := 3) rfl).1, (VX.out.cbox_at (i := 3) rfl).2.2⟩, List.forall_mem_cons.2 ⟨⟨(VX.out.cbox_at (i := 3) rfl).2.1, (VX.out.cbox_at (i := 3) rfl).2.2⟩, fun _ h => by simp at h⟩⟩⟩⟩) (fun hHeld => ?_)
          clear hK K
          try simp only [Act.put, sA, sZ, sS]
          refine tk 10 ?_ rfl ?_ ?_; rotate_left; focus (intro w hSw; clear hSw; go_simp; try (with_reducible rfl))
          try simp only [Act.put, sA, sZ, sS]
          refine wpAnyH_done (by kernel_rfl) ?_ _
          clear hHeld
          go_wp2_with fail
          go_meet
          exact ⟨_, AJ, nj, cj, BJ, mj, dj, rfl, rfl, HLJ.out, VX.out.pick [2, 0, 1, 3, 4] (by decide) rfl⟩
        exact AllReadyH.nil
      case rest =>
        obtain ⟨gk, AJ, nj, cj, BJ, mj, dj, rfl, rfl, hlj, hV⟩ := hcut
        have VK := Lib.hid hV
        have HLJ := Lib.hid hlj
        clear hV hlj z00 z01 z0g z10 z11 z1g
        obtain ⟨k0, k1, kg⟩ := VK.out.cbox_at (i := 0) rfl
        obtain ⟨p0, p1, pg⟩ := VK.out.cbox_at (i := 3) rfl
        obtain ⟨r0, r1, rg⟩ := VK.out.cbox_at (i := 4) rfl
        go_wp2_with fail
        refine (rjoin_any C1 C2 A1 n1 c1 B1 m1 d1 A2 n2 c2 B2 m2 d2 _ (HC1.out.below VK.out.below) (HC2.out.below VK.out.below)).mono ?_
        rintro e w4 ⟨AI, ni, ci, BI, mi, di, rfl, hII, hpI⟩
        have VL0 := Lib.hid (VK.out.join hpI)
        clear hpI
        clear k0 k1 kg
        clear p0 p1 pg
        clear r0 r1 rg
        obtain ⟨gl, hgl⟩ : ∃ z, z = w4.heap.size := ⟨_, rfl⟩
        obtain ⟨wl, hwl⟩ : ∃ z, z = w4.alloc (.cells #[.slice AI ni ci, .slice BI mi di] 25) := ⟨_, rfl⟩
        have VL := Lib.hid (show Hp w [cbox gl AI ni ci BI mi di, snds AI ni ci (jnR C1 C2).1.s, nums BI mi di (jnR C1 C2).1.b, cbox gk AJ nj cj BJ mj dj, snds AJ nj cj (jnR C1 C2).1.s, nums BJ mj dj (jnR C1 C2).1.b, cbox (w.heap.size + 1) A2 n2 c2 B2 m2 d2, cbox w.heap.size A1 n1 c1 B1 m1 d1] wl by rw [hwl, hgl]; exact VL0.out.cbox_new AI ni ci BI mi di)
        have HLI := Lib.hid (show CIn wl AI ni BI mi (jnR C1 C2).1 by rw [hwl]; exact hII.below (bnew _ _))
        have HKJ := Lib.hid (show CIn wl AJ nj BJ mj (jnR C1 C2).1 from ⟨HLJ.out.1, HLJ.out.2.1, HLJ.out.2.2.1, HLJ.out.2.2.2.1, HLJ.out.2.2.2.2, VL.out.cells (i := 4) (A := AJ) (c := cj) rfl rfl, VL.out.cells (i := 5) (A := BJ) (c := dj) rfl rfl⟩)
        have HWL := Lib.hid hwl
        have HGL := Lib.hid hgl
        clear hwl hgl hII
        go_upto_region 5 with fail
        rw [← HWL.out, ← HGL.out]
        obtain ⟨u, hu⟩ : ∃ u, (jnR C1 C2).2 = u := ⟨_, rfl⟩
        have HU := Lib.hid hu
        rw [hu]
        clear hu
        obtain ⟨l0, l1, lg⟩ := VL.out.cbox_at (i := 0) rfl
        obtain ⟨k0, k1, kg⟩ := VL.out.cbox_at (i := 3) rfl
        obtain ⟨p0, p1, pg⟩ := VL.out.cbox_at (i := 6) rfl
        obtain ⟨r0, r1, rg⟩ := VL.out.cbox_at (i := 7) rfl
        go_wp2_with fail
        refine (rsame14_any (jnR C1 C2).1 (jnR C1 C2).1 AJ nj cj BJ mj dj AI ni ci BI mi di _ HKJ.out HLI.out).mono ?_
        rintro e w50 ⟨rfl, hb⟩
        rw [show (cmpC (jnR C1 C2).1 (jnR C1 C2).1 == 0) = true from beq_yes ((tot_clu.zero _ _).2 rfl)]
        have VS0 := Lib.hid (VL.out.go hb)
        have HKJ1 := Lib.hid (HKJ.out.below hb)
        have HLI1 := Lib.hid (HLI.out.below hb)
        clear hb
        clear l0 l1 lg
        clear k0 k1 kg
        clear p0 p1 pg
        clear r0 r1 rg
        obtain ⟨l0, l1, lg⟩ := VS0.out.cbox_at (i := 0) rfl
        obtain ⟨k0, k1, kg⟩ := VS0.out.cbox_at (i := 3) rfl
        obtain ⟨p0, p1, pg⟩ := VS0.out.cbox_at (i := 6) rfl
        obtain ⟨r0, r1, rg⟩ := VS0.out.cbox_at (i := 7) rfl
        by_cases h0 : u = 0
        · subst h0
          obtain ⟨hv1, hv2, hj, hok⟩ := jnR_ok HU.out
          have HV1 := Lib.hid hv1
          have HV2 := Lib.hid hv2
          have HJ := Lib.hid hj
          have HOK := Lib.hid hok
          have HVJ := Lib.hid (vC_zero.2 hok)
          clear hv1 hv2 hj hok
          rw [HJ.out] at HKJ1
          go_wp2_with fail
          refine (cClass_any C1 A1 n1 c1 B1 m1 d1 _ (HC1.out.below VS0.out.below)).mono ?_
          rintro e w60 ⟨rfl, hb⟩
          have VT0 := Lib.hid (VS0.out.go hb)
          have HKT0 := Lib.hid (HKJ1.out.below hb)
          clear hb
          rw [HV1.out, show clR C1 = clsC C1.s C1.b by unfold clR; rw [if_pos HV1.out]]
          clear l0 l1 lg
          clear k0 k1 kg
          clear p0 p1 pg
          clear r0 r1 rg
          obtain ⟨l0, l1, lg⟩ := VT0.out.cbox_at (i := 0) rfl
          obtain ⟨k0, k1, kg⟩ := VT0.out.cbox_at (i := 3) rfl
          obtain ⟨p0, p1, pg⟩ := VT0.out.cbox_at (i := 6) rfl
          obtain ⟨r0, r1, rg⟩ := VT0.out.cbox_at (i := 7) rfl
          go_wp2_with fail
          refine (cClass_any C2 A2 n2 c2 B2 m2 d2 _ (HC2.out.below VT0.out.below)).mono ?_
          rintro e w61 ⟨rfl, hb⟩
          have VT1 := Lib.hid (VT0.out.go hb)
          have HKT1 := Lib.hid (HKT0.out.below hb)
          clear hb
          rw [HV2.out, show clR C2 = clsC C2.s C2.b by unfold clR; rw [if_pos HV2.out]]
          clear l0 l1 lg
          clear k0 k1 kg
          clear p0 p1 pg
          clear r0 r1 rg
          obtain ⟨l0, l1, lg⟩ := VT1.out.cbox_at (i := 0) rfl
          obtain ⟨k0, k1, kg⟩ := VT1.out.cbox_at (i := 3) rfl
          obtain ⟨p0, p1, pg⟩ := VT1.out.cbox_at (i := 6) rfl
          obtain ⟨r0, r1, rg⟩ := VT1.out.cbox_at (i := 7) rfl
          go_wp2_with fail
          refine (cClass_any (jnC C1 C2) AJ nj cj BJ mj dj _ HKT1.out).mono ?_
          rintro e w62 ⟨rfl, hb⟩
          have VT2 := Lib.hid (VT1.out.go hb)
          have HKT2 := Lib.hid (HKT1.out.below hb)
          clear hb
          rw [HVJ.out, show clR (jnC C1 C2) = clsC (jnC C1 C2).s (jnC C1 C2).b by unfold clR; rw [if_pos HVJ.out]]
          clear l0 l1 lg
          clear k0 k1 kg
          clear p0 p1 pg
          clear r0 r1 rg
          obtain ⟨l0, l1, lg⟩ := VT2.out.cbox_at (i := 0) rfl
          obtain ⟨k0, k1, kg⟩ := VT2.out.cbox_at (i := 3) rfl
          obtain ⟨p0, p1, pg⟩ := VT2.out.cbox_at (i := 6) rfl
          obtain ⟨r0, r1, rg⟩ := VT2.out.cbox_at (i := 7) rfl
          have HX := Lib.hid (cls_join (a := C1) (b := C2))
          obtain ⟨x, hx⟩ : ∃ x, clsC C1.s C1.b = x := ⟨_, rfl⟩
          obtain ⟨y, hy⟩ : ∃ y, clsC C2.s C2.b = y := ⟨_, rfl⟩
          obtain ⟨z, hz⟩ : ∃ z, clsC (jnC C1 C2).s (jnC C1 C2).b = z := ⟨_, rfl⟩
          rw [hx, hy, hz] at HX
          rw [hx, hy, hz]
          clear hx hy hz
          obtain ⟨t1, ht1⟩ : ∃ t, btL C1.s = t := ⟨_, rfl⟩
          obtain ⟨t2, ht2⟩ : ∃ t, btL C2.s = t := ⟨_, rfl⟩
          have HT1 := Lib.hid ht1
          have HT2 := Lib.hid ht2
          have HT3 := Lib.hid (show btL (jnC C1 C2).s = t1 + t2 by show btL (C1.s ++ C2.s) = _; rw [btL_cat, ht1, ht2])
          have hb1 : t1 ≤ 100000000 := by have := btL_le C1.s; have := HC1.out.ls; have := HC1.out.hn; omega
          have hb2 : t2 ≤ 100000000 := by have := btL_le C2.s; have := HC2.out.ls; have := HC2.out.hn; omega
          have hwt : IntKind.i64.wrap ((t1 : Int) + (t2 : Int)) = ((t1 + t2 : Nat) : Int) := by rw [IntWalk.i64_in _ (by omega)]; omega
          clear ht1 ht2
          go_upto_region 10 with fail
          by_cases h4 : z = 4
          · have e4 : (z == 4) = true := beq_yes h4
            clear h4
            have hKp : Keep [(⟨gk, 0, none⟩, .slice AJ nj cj), (⟨w.heap.size, 0, none⟩, .slice A1 n1 c1), (⟨w.heap.size + 1, 0, none⟩, .slice A2 n2 c2)] w62 := List.forall_mem_cons.2 ⟨⟨(VT2.out.cbox_at (i := 3) rfl).1, (VT2.out.cbox_at (i := 3) rfl).2.2⟩, List.forall_mem_cons.2 ⟨⟨(VT2.out.cbox_at (i := 7) rfl).1, (VT2.out.cbox_at (i := 7) rfl).2.2⟩, List.forall_mem_cons.2 ⟨⟨(VT2.out.cbox_at (i := 6) rfl).1, (VT2.out.cbox_at (i := 6) rfl).2.2⟩, fun _ h => by simp at h⟩⟩⟩
            refine wp_region_held_drew (S := Keep _) (by kernel_rfl) hKp.drew (fun hHeld => ?_)
            obtain ⟨wv, hwv⟩ : ∃ z, z = w62.drew := ⟨_, rfl⟩
            have Vwv := Lib.hid (show Hp w (cbox gl AI ni ci BI mi di :: snds AI ni ci (jnR C1 C2).1.s :: nums BI mi di (jnR C1 C2).1.b :: cbox gk AJ nj cj BJ mj dj :: snds AJ nj cj (jnR C1 C2).1.s :: nums BJ mj dj (jnR C1 C2).1.b :: cbox (w.heap.size + 1) A2 n2 c2 B2 m2 d2 :: cbox w.heap.size A1 n1 c1 B1 m1 d1 :: []) wv by rw [hwv]; exact VT2.out.go (bdrew _))
            have Bwv := Lib.hid (show Below w62.heap.size w62 wv by rw [hwv]; exact bdrew _)
            rw [← hwv] at hHeld ⊢
            clear hwv hKp
            refine tk 0 ?_ rfl ?_ ?_; rotate_left; focus (intro w hSw; clear hSw; go_simp; try (with_reducible rfl))
            try simp only [Act.put, sA, sZ, sS]
            refine tk 1 ?_ rfl ?_ ?_; rotate_left; focus (intro w hSw; clear hSw; go_simp; try (with_reducible rfl))
            try simp only [Act.put, sA, sZ, sS]
            refine tk 2 ?_ rfl ?_ ?_; rotate_left; focus (intro w hSw; clear hSw; go_simp; try (with_reducible rfl))
            try simp only [Act.put, sA, sZ, sS]
            refine tk 3 ?_ rfl ?_ ?_; rotate_left; focus (intro w hSw; clear hSw; go_simp; try (with_reducible rfl))
            try simp only [Act.put, sA, sZ, sS]
            refine tk 4 ?_ rfl ?_ ?_; rotate_left; focus (intro w hSw; clear hSw; go_simp; try (with_reducible rfl))
            try simp only [Act.put, sA, sZ, sS]
            refine tk 5 ?_ rfl ?_ ?_; rotate_left; focus (intro w hSw; clear hSw; go_simp; try (with_reducible rfl))
            try simp only [Act.put, sA, sZ, sS]
            refine tk 6 ?_ rfl ?_ ?_; rotate_left; focus (intro w hSw; clear hSw; go_simp; try (with_reducible rfl))
            try simp only [Act.put, sA, sZ, sS]
            refine tk 7 ?_ rfl ?_ ?_; rotate_left; focus (intro w hSw; clear hSw; go_simp; try (with_reducible rfl))
            try simp only [Act.put, sA, sZ, sS]
            refine tk 8 ?_ rfl ?_ ?_; rotate_left; focus (intro w hSw; clear hSw; go_simp; try (with_reducible rfl))
            try simp only [Act.put, sA, sZ, sS]
            refine tk 9 ?_ rfl ?_ ?_; rotate_left; focus (intro w hSw; clear hSw; go_simp; try (with_reducible rfl))
            try simp only [Act.put, sA, sZ, sS]
            refine tk 10 ?_ rfl ?_ ?_; rotate_left; focus (intro w hSw; clear hSw; go_simp; try (with_reducible rfl))
            try simp only [Act.put, sA, sZ, sS]
            refine tk 11 ?_ rfl ?_ ?_; rotate_left; focus (intro w hSw; clear hSw; go_simp; try (with_reducible rfl))
            try simp only [Act.put, sA, sZ, sS]
            refine tk 12 ?_ rfl ?_ ?_; rotate_left
            · intro wl hSw
              have hSw : Keep _ wl := hSw
              have k0 := (hSw _ (.head _)).1
              dsimp only at k0
              clear hSw
              go_simp
              try (with_reducible rfl)
            try simp only [Act.put, sA, sZ, sS]
            refine tk 14 ?_ rfl ?_ ?_; rotate_left; focus (intro w hSw; clear hSw; go_simp; try (with_reducible rfl))
            try simp only [Act.put, sA, sZ, sS]
            refine tk 15 ?_ rfl ?_ ?_; rotate_left
            · intro wl hSw
              have hSw : Keep _ wl := hSw
              have k0 := (hSw _ (.tail _ (.head _))).1
              dsimp only at k0
              clear hSw
              go_simp
              try (with_reducible rfl)
            try simp only [Act.put, sA, sZ, sS]
            refine tk 17 ?_ rfl ?_ ?_; rotate_left; focus (intro w hSw; clear hSw; go_simp; try (with_reducible rfl))
            try simp only [Act.put, sA, sZ, sS]
            refine tk 18 ?_ rfl ?_ ?_; rotate_left
            · intro wl hSw
              have hSw : Keep _ wl := hSw
              have k0 := (hSw _ (.tail _ (.tail _ (.head _)))).1
              dsimp only at k0
              clear hSw
              go_simp
              try (with_reducible rfl)
            try simp only [Act.put, sA, sZ, sS]
            refine wpAnyH_ready (rs := [13]) (by kernel_rfl) (by simp) ?_
            refine AllReadyH.cons (List.getElem?_toArray.trans rfl) (fun K hK => ?_) AllReadyH.nil
            go_simp
            refine (beats_any (jnC C1 C2).s nj cj AJ _ HKT2.out.ls (by have := HKT2.out.hn; omega) (HKT2.out.cs.below Bwv.out)).mono ?_
            rintro e w_13 ⟨rfl, b_13⟩
            rw [HT3.out]
            have V_13 := Lib.hid (Vwv.out.go b_13)
            try go_wp2_with fail
            refine hK.out _ _ (hHeld.go b_13) (fun hHeld => ?_)
            clear hK K
            try simp only [Act.put, sA, sZ, sS]
            refine wpAnyH_ready (rs := [16]) (by kernel_rfl) (by simp) ?_
            refine AllReadyH.cons (List.getElem?_toArray.trans rfl) (fun K hK => ?_) AllReadyH.nil
            go_simp
            refine (beats_any C1.s n1 c1 A1 _ HC1.out.ls (by have := HC1.out.hn; omega) (HC1.out.cs.below V_13.out.below)).mono ?_
            rintro e w_13_16 ⟨rfl, b_13_16⟩
            rw [HT1.out]
            have V_13_16 := Lib.hid (V_13.out.go b_13_16)
            try go_wp2_with fail
            refine hK.out _ _ (hHeld.go b_13_16) (fun hHeld => ?_)
            clear hK K
            try simp only [Act.put, sA, sZ, sS]
            refine wpAnyH_ready (rs := [19]) (by kernel_rfl) (by simp) ?_
            refine AllReadyH.cons (List.getElem?_toArray.trans rfl) (fun K hK => ?_) AllReadyH.nil
            go_simp
            refine (beats_any C2.s n2 c2 A2 _ HC2.out.ls (by have := HC2.out.hn; omega) (HC2.out.cs.below V_13_16.out.below)).mono ?_
            rintro e w_13_16_19 ⟨rfl, b_13_16_19⟩
            rw [HT2.out]
            have V_13_16_19 := Lib.hid (V_13_16.out.go b_13_16_19)
            try go_wp2_with fail
            refine hK.out _ _ (hHeld.go b_13_16_19) (fun hHeld => ?_)
            clear hK K
            try simp only [Act.put, sA, sZ, sS]
            refine tk 20 ?_ rfl ?_ ?_; rotate_left; focus (intro w hSw; clear hSw; go_simp; try (with_reducible rfl))
            try simp only [Act.put, sA, sZ, sS]
            refine tk 21 ?_ rfl ?_ ?_; rotate_left; focus (intro w hSw; clear hSw; go_simp; try (with_reducible rfl))
            try simp only [Act.put, sA, sZ, sS]
            refine tk 22 ?_ rfl ?_ ?_; rotate_left; focus (intro w hSw; clear hSw; go_simp; try (with_reducible rfl))
            try simp only [Act.put, sA, sZ, sS]
            refine tk 23 ?_ rfl ?_ ?_; rotate_left; focus (intro w hSw; clear hSw; go_simp; try (with_reducible rfl))
            try simp only [Act.put, sA, sZ, sS]
            refine tk 24 ?_ rfl ?_ ?_; rotate_left; focus (intro w hSw; clear hSw; go_simp; try (with_reducible rfl))
            try simp only [Act.put, sA, sZ, sS]
            refine tk 25 ?_ rfl ?_ ?_; rotate_left; focus (intro w hSw; clear hSw; go_simp; try (with_reducible rfl))
            try simp only [Act.put, sA, sZ, sS]
            refine tk 26 ?_ rfl ?_ ?_; rotate_left; focus (intro w hSw; clear hSw; go_simp; try (with_reducible rfl))
            try simp only [Act.put, sA, sZ, sS]
            refine tu 27 rfl ?_
            try simp only [Act.put, sA, sZ, sS]
            refine tu 28 rfl ?_
            try simp only [Act.put, sA, sZ, sS]
            refine tu 29 rfl ?_
            try simp only [Act.put, sA, sZ, sS]
            refine tu 30 rfl ?_
            try simp only [Act.put, sA, sZ, sS]
            refine tu 31 rfl ?_
            try simp only [Act.put, sA, sZ, sS]
            refine tu 32 rfl ?_
            try simp only [Act.put, sA, sZ, sS]
            refine tk 33 ?_ rfl ?_ ?_; rotate_left; focus (intro w hSw; clear hSw; go_simp; try (with_reducible rfl))
            try simp only [Act.put, sA, sZ, sS]
            refine tk 34 ?_ rfl ?_ ?_; rotate_left; focus (intro w hSw; clear hSw; go_simp; try (with_reducible rfl))
            try simp only [Act.put, sA, sZ, sS]
            refine tk 35 ?_ rfl ?_ ?_; rotate_left; focus (intro w hSw; clear hSw; go_simp; try (with_reducible rfl))
            try simp only [Act.put, sA, sZ, sS]
            refine wpAnyH_done (by kernel_rfl) ?_ _
            clear hHeld
            go_wp2_with fail
            go_ret
            exact ⟨rfl, V_13_16_19.out.below⟩
          · have e4 : (z == 4) = false := beq_no h4
            have e5 : (x != 4) = true := bne_yes (fun h => h4 (HX.out (.inl h)))
            have e6 : (y != 4) = true := bne_yes (fun h => h4 (HX.out (.inr h)))
            clear h4
            have hKp : Keep [(⟨gk, 0, none⟩, .slice AJ nj cj), (⟨w.heap.size, 0, none⟩, .slice A1 n1 c1), (⟨w.heap.size + 1, 0, none⟩, .slice A2 n2 c2)] w62 := List.forall_mem_cons.2 ⟨⟨(VT2.out.cbox_at (i := 3) rfl).1, (VT2.out.cbox_at (i := 3) rfl).2.2⟩, List.forall_mem_cons.2 ⟨⟨(VT2.out.cbox_at (i := 7) rfl).1, (VT2.out.cbox_at (i := 7) rfl).2.2⟩, List.forall_mem_cons.2 ⟨⟨(VT2.out.cbox_at (i := 6) rfl).1, (VT2.out.cbox_at (i := 6) rfl).2.2⟩, fun _ h => by simp at h⟩⟩⟩
            refine wp_region_held_drew (S := Keep _) (by kernel_rfl) hKp.drew (fun hHeld => ?_)
            obtain ⟨wv, hwv⟩ : ∃ z, z = w62.drew := ⟨_, rfl⟩
            have Vwv := Lib.hid (show Hp w (cbox gl AI ni ci BI mi di :: snds AI ni ci (jnR C1 C2).1.s :: nums BI mi di (jnR C1 C2).1.b :: cbox gk AJ nj cj BJ mj dj :: snds AJ nj cj (jnR C1 C2).1.s :: nums BJ mj dj (jnR C1 C2).1.b :: cbox (w.heap.size + 1) A2 n2 c2 B2 m2 d2 :: cbox w.heap.size A1 n1 c1 B1 m1 d1 :: []) wv by rw [hwv]; exact VT2.out.go (bdrew _))
            have Bwv := Lib.hid (show Below w62.heap.size w62 wv by rw [hwv]; exact bdrew _)
            rw [← hwv] at hHeld ⊢
            clear hwv hKp
            refine tk 0 ?_ rfl ?_ ?_; rotate_left; focus (intro w hSw; clear hSw; go_simp; try (with_reducible rfl))
            try simp only [Act.put, sA, sZ, sS]
            refine tk 1 ?_ rfl ?_ ?_; rotate_left; focus (intro w hSw; clear hSw; go_simp; try (with_reducible rfl))
            try simp only [Act.put, sA, sZ, sS]
            refine tk 2 ?_ rfl ?_ ?_; rotate_left; focus (intro w hSw; clear hSw; go_simp; try (with_reducible rfl))
            try simp only [Act.put, sA, sZ, sS]
            refine tk 3 ?_ rfl ?_ ?_; rotate_left; focus (intro w hSw; clear hSw; go_simp; try (with_reducible rfl))
            try simp only [Act.put, sA, sZ, sS]
            refine tk 4 ?_ rfl ?_ ?_; rotate_left; focus (intro w hSw; clear hSw; go_simp; try (with_reducible rfl))
            try simp only [Act.put, sA, sZ, sS]
            refine tk 5 ?_ rfl ?_ ?_; rotate_left; focus (intro w hSw; clear hSw; go_simp; try (with_reducible rfl))
            try simp only [Act.put, sA, sZ, sS]
            refine tk 6 ?_ rfl ?_ ?_; rotate_left; focus (intro w hSw; clear hSw; go_simp; try (with_reducible rfl))
            try simp only [Act.put, sA, sZ, sS]
            refine tk 7 ?_ rfl ?_ ?_; rotate_left; focus (intro w hSw; clear hSw; go_simp; try (with_reducible rfl))
            try simp only [Act.put, sA, sZ, sS]
            refine tk 8 ?_ rfl ?_ ?_; rotate_left; focus (intro w hSw; clear hSw; go_simp; try (with_reducible rfl))
            try simp only [Act.put, sA, sZ, sS]
            refine tk 9 ?_ rfl ?_ ?_; rotate_left; focus (intro w hSw; clear hSw; go_simp; try (with_reducible rfl))
            try simp only [Act.put, sA, sZ, sS]
            refine tk 10 ?_ rfl ?_ ?_; rotate_left; focus (intro w hSw; clear hSw; go_simp; try (with_reducible rfl))
            try simp only [Act.put, sA, sZ, sS]
            refine tk 11 ?_ rfl ?_ ?_; rotate_left; focus (intro w hSw; clear hSw; go_simp; try (with_reducible rfl))
            try simp only [Act.put, sA, sZ, sS]
            refine tk 12 ?_ rfl ?_ ?_; rotate_left
            · intro wl hSw
              have hSw : Keep _ wl := hSw
              have k0 := (hSw _ (.head _)).1
              dsimp only at k0
              clear hSw
              go_simp
              try (with_reducible rfl)
            try simp only [Act.put, sA, sZ, sS]
            refine tk 14 ?_ rfl ?_ ?_; rotate_left; focus (intro w hSw; clear hSw; go_simp; try (with_reducible rfl))
            try simp only [Act.put, sA, sZ, sS]
            refine tk 15 ?_ rfl ?_ ?_; rotate_left
            · intro wl hSw
              have hSw : Keep _ wl := hSw
              have k0 := (hSw _ (.tail _ (.head _))).1
              dsimp only at k0
              clear hSw
              go_simp
              try (with_reducible rfl)
            try simp only [Act.put, sA, sZ, sS]
            refine tk 17 ?_ rfl ?_ ?_; rotate_left; focus (intro w hSw; clear hSw; go_simp; try (with_reducible rfl))
            try simp only [Act.put, sA, sZ, sS]
            refine tk 18 ?_ rfl ?_ ?_; rotate_left
            · intro wl hSw
              have hSw : Keep _ wl := hSw
              have k0 := (hSw _ (.tail _ (.tail _ (.head _)))).1
              dsimp only at k0
              clear hSw
              go_simp
              try (with_reducible rfl)
            try simp only [Act.put, sA, sZ, sS]
            refine wpAnyH_ready (rs := [13]) (by kernel_rfl) (by simp) ?_
            refine AllReadyH.cons (List.getElem?_toArray.trans rfl) (fun K hK => ?_) AllReadyH.nil
            go_simp
            refine (beats_any (jnC C1 C2).s nj cj AJ _ HKT2.out.ls (by have := HKT2.out.hn; omega) (HKT2.out.cs.below Bwv.out)).mono ?_
            rintro e w_13 ⟨rfl, b_13⟩
            rw [HT3.out]
            have V_13 := Lib.hid (Vwv.out.go b_13)
            try go_wp2_with fail
            refine hK.out _ _ (hHeld.go b_13) (fun hHeld => ?_)
            clear hK K
            try simp only [Act.put, sA, sZ, sS]
            refine wpAnyH_ready (rs := [16]) (by kernel_rfl) (by simp) ?_
            refine AllReadyH.cons (List.getElem?_toArray.trans rfl) (fun K hK => ?_) AllReadyH.nil
            go_simp
            refine (beats_any C1.s n1 c1 A1 _ HC1.out.ls (by have := HC1.out.hn; omega) (HC1.out.cs.below V_13.out.below)).mono ?_
            rintro e w_13_16 ⟨rfl, b_13_16⟩
            rw [HT1.out]
            have V_13_16 := Lib.hid (V_13.out.go b_13_16)
            try go_wp2_with fail
            refine hK.out _ _ (hHeld.go b_13_16) (fun hHeld => ?_)
            clear hK K
            try simp only [Act.put, sA, sZ, sS]
            refine wpAnyH_ready (rs := [19]) (by kernel_rfl) (by simp) ?_
            refine AllReadyH.cons (List.getElem?_toArray.trans rfl) (fun K hK => ?_) AllReadyH.nil
            go_simp
            refine (beats_any C2.s n2 c2 A2 _ HC2.out.ls (by have := HC2.out.hn; omega) (HC2.out.cs.below V_13_16.out.below)).mono ?_
            rintro e w_13_16_19 ⟨rfl, b_13_16_19⟩
            rw [HT2.out]
            have V_13_16_19 := Lib.hid (V_13_16.out.go b_13_16_19)
            try go_wp2_with fail
            refine hK.out _ _ (hHeld.go b_13_16_19) (fun hHeld => ?_)
            clear hK K
            try simp only [Act.put, sA, sZ, sS]
            refine tk 20 ?_ rfl ?_ ?_; rotate_left; focus (intro w hSw; clear hSw; go_simp; try (with_reducible rfl))
            try simp only [Act.put, sA, sZ, sS]
            refine tk 21 ?_ rfl ?_ ?_; rotate_left; focus (intro w hSw; clear hSw; go_simp; try (with_reducible rfl))
            try simp only [Act.put, sA, sZ, sS]
            refine tk 22 ?_ rfl ?_ ?_; rotate_left; focus (intro w hSw; clear hSw; go_simp; try (with_reducible rfl))
            try simp only [Act.put, sA, sZ, sS]
            refine tk 23 ?_ rfl ?_ ?_; rotate_left; focus (intro w hSw; clear hSw; go_simp; try (with_reducible rfl))
            try simp only [Act.put, sA, sZ, sS]
            refine tk 24 ?_ rfl ?_ ?_; rotate_left; focus (intro w hSw; clear hSw; go_simp; try (with_reducible rfl))
            try simp only [Act.put, sA, sZ, sS]
            refine tk 25 ?_ rfl ?_ ?_; rotate_left; focus (intro w hSw; clear hSw; go_simp; try (with_reducible rfl))
            try simp only [Act.put, sA, sZ, sS]
            refine tk 26 ?_ rfl ?_ ?_; rotate_left; focus (intro w hSw; clear hSw; go_simp; try (with_reducible rfl))
            try simp only [Act.put, sA, sZ, sS]
            refine tk 27 ?_ rfl ?_ ?_; rotate_left; focus (intro w hSw; clear hSw; go_simp; try (with_reducible rfl))
            try simp only [Act.put, sA, sZ, sS]
            refine tk 28 ?_ rfl ?_ ?_; rotate_left; focus (intro w hSw; clear hSw; go_simp; try (with_reducible rfl))
            try simp only [Act.put, sA, sZ, sS]
            refine tk 29 ?_ rfl ?_ ?_; rotate_left; focus (intro w hSw; clear hSw; go_simp; try (with_reducible rfl))
            try simp only [Act.put, sA, sZ, sS]
            refine tk 30 ?_ rfl ?_ ?_; rotate_left; focus (intro w hSw; clear hSw; go_simp; try (with_reducible rfl))
            try simp only [Act.put, sA, sZ, sS]
            refine tk 31 ?_ rfl ?_ ?_; rotate_left; focus (intro w hSw; clear hSw; go_simp; try (with_reducible rfl))
            try simp only [Act.put, sA, sZ, sS]
            refine tk 32 ?_ rfl ?_ ?_; rotate_left; focus (intro w hSw; clear hSw; go_simp; try (with_reducible rfl))
            try simp only [Act.put, sA, sZ, sS]
            refine tk 33 ?_ rfl ?_ ?_; rotate_left; focus (intro w hSw; clear hSw; go_simp; try (with_reducible rfl))
            try simp only [Act.put, sA, sZ, sS]
            refine tk 34 ?_ rfl ?_ ?_; rotate_left; focus (intro w hSw; clear hSw; go_simp; try (with_reducible rfl))
            try simp only [Act.put, sA, sZ, sS]
            refine tk 35 ?_ rfl ?_ ?_; rotate_left; focus (intro w hSw; clear hSw; go_simp; try (with_reducible rfl))
            try simp only [Act.put, sA, sZ, sS]
            refine wpAnyH_done (by kernel_rfl) ?_ _
            clear hHeld
            go_wp2_with fail
            go_ret
            exact ⟨rfl, V_13_16_19.out.below⟩
        · have hne : (u != 0) = true := bne_yes h0
          clear h0
          go_wp2_with fail
          refine (rsame14_any (jnR C1 C2).1 (jnR C1 C2).1 AJ nj cj BJ mj dj AI ni ci BI mi di _ HKJ1.out HLI1.out).mono ?_
          rintro e w51 ⟨rfl, hb⟩
          rw [show (cmpC (jnR C1 C2).1 (jnR C1 C2).1 == 0) = true from beq_yes ((tot_clu.zero _ _).2 rfl)]
          have VS1 := Lib.hid (VS0.out.go hb)
          have HKJ2 := Lib.hid (HKJ1.out.below hb)
          have HLI2 := Lib.hid (HLI1.out.below hb)
          clear hb
          clear l0 l1 lg
          clear k0 k1 kg
          clear p0 p1 pg
          clear r0 r1 rg
          obtain ⟨l0, l1, lg⟩ := VS1.out.cbox_at (i := 0) rfl
          obtain ⟨k0, k1, kg⟩ := VS1.out.cbox_at (i := 3) rfl
          obtain ⟨p0, p1, pg⟩ := VS1.out.cbox_at (i := 6) rfl
          obtain ⟨r0, r1, rg⟩ := VS1.out.cbox_at (i := 7) rfl
          go_wp2_with fail
          go_ret
          exact ⟨rfl, VS1.out.below⟩
end Go.Proofs.Ythcdbhancfpldaa
