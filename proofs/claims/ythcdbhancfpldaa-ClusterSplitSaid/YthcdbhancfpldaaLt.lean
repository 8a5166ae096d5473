/- Contract of Split of the reference. -/
import Derived.Test.YthcdbhancfpldaaLk
import Derived.Test.YthcdbhancfpldaaLm
namespace Go.Proofs.Ythcdbhancfpldaa
open Go.RowKit
set_option linter.unusedVariables false
set_option linter.unusedSimpArgs false
set_option maxRecDepth 100000

set_option maxHeartbeats 16000000 in
theorem rsplit_any (C : Clu) (A : Option Addr) (n c : Nat) (B : Option Addr) (m d : Nat) (a : Int) (w : World) (hC : CIn w A n B m C) (hnc : n ≤ c) (hmd : m ≤ d) :
    Calls Try.prog 28 #[.agg #[.slice A n c, .slice B m d], .int .i64 a] w (SpPost C a w) := by
  have HC := Lib.hid hC
  have hn := hC.hn
  have hm := hC.hm
  obtain ⟨g0, hg0⟩ : ∃ z, z = w.heap.size := ⟨_, rfl⟩
  obtain ⟨g1, hg1⟩ : ∃ z, z = w.heap.size + 1 := ⟨_, rfl⟩
  obtain ⟨g2, hg2⟩ : ∃ z, z = g1 + 1 := ⟨_, rfl⟩
  obtain ⟨W0, hW0⟩ : ∃ z, z = ((w.alloc (.cells #[.slice A n c, .slice B m d] 25)).alloc (.cells #[.slice none 0 0, .slice none 0 0] 25)).alloc (.cells #[.slice none 0 0, .slice none 0 0] 25) := ⟨_, rfl⟩
  have V1 := Lib.hid (show Hp w [cbox g2 none 0 0 none 0 0, cbox g1 none 0 0 none 0 0, cbox g0 A n c B m d] W0 by
    have := (((Hp.start w).cbox_new A n c B m d).cbox_new none 0 0 none 0 0).cbox_new none 0 0 none 0 0
    rw [show ((w.alloc (.cells #[.slice A n c, .slice B m d] 25)).alloc (.cells #[.slice none 0 0, .slice none 0 0] 25)).heap.size = w.heap.size + 1 + 1 by simp, show (w.alloc (.cells #[.slice A n c, .slice B m d] 25)).heap.size = w.heap.size + 1 by simp, ← hg1, ← hg2, ← hg0] at this
    rw [hW0]; exact this)
  obtain ⟨b0, b1, bg⟩ := V1.out.cbox_at (i := 2) rfl
  have HW0 := Lib.hid hW0
  have HG0 := Lib.hid hg0
  have HG1 := Lib.hid hg1
  have HG2 := Lib.hid hg2
  clear hC hW0 hg0 hg1 hg2
  go_enter Try.func28, Try.ntmps28
  go_upto_region 1 with fail
  rw [← HW0.out, ← HG1.out, ← HG2.out, ← HG0.out]
  go_wp2_with fail
  refine (rcvalid_any C A n c B m d _ (HC.out.below V1.out.below)).mono ?_
  rintro e w1 ⟨rfl, hb1⟩
  have V2 := Lib.hid (V1.out.go hb1)
  clear hb1 b0 b1 bg
  obtain ⟨b0, b1, bg⟩ := V2.out.cbox_at (i := 2) rfl
  obtain ⟨⟨e0, ef, eg⟩, e1, eh⟩ := V2.out.cbox_st (i := 1) rfl
  obtain ⟨⟨f0, ff, fg⟩, f1, fh⟩ := V2.out.cbox_st (i := 0) rfl
  obtain ⟨v, hv⟩ : ∃ v, vC C = v := ⟨_, rfl⟩
  have HV := Lib.hid hv
  rw [hv]
  clear hv
  by_cases h0 : v = 0
  · subst h0
    by_cases hr : a < 0 ∨ (n : Int) < a
    · have HR := Lib.hid (show splR C a = (⟨[], []⟩, ⟨[], []⟩, 6) by unfold splR; rw [if_neg (by simp [HV.out]), if_pos (by rw [HC.out.ls]; exact hr)])
      obtain ⟨⟨y0, yf, yg⟩, y1, yh⟩ := (V2.out.cbox_set (i := 1) rfl none 0 0 none 0 0).cbox_st (i := 0) rfl
      have V3 := Lib.hid ((V2.out.cbox_set (i := 1) rfl none 0 0 none 0 0).cbox_set (i := 0) rfl none 0 0 none 0 0)
      obtain ⟨u0, u1, ug⟩ := V3.out.cbox_at (i := 1) rfl
      obtain ⟨t0, t1, tg⟩ := V3.out.cbox_at (i := 0) rfl
      rcases hr with hr | hr
      · go_wp2_with fail
        refine bodyPost_ret (v := .tuple #[.agg #[.slice none 0 0, .slice none 0 0], .agg #[.slice none 0 0, .slice none 0 0], .int .i64 6]) (by simp [results, Try.results28, go_sem, u0, u1, t0, t1]) rfl ?_
        refine ⟨none, 0, 0, none, 0, 0, none, 0, 0, none, 0, 0, by rw [HR.out], ?_, ?_, V3.out.below⟩ <;> (rw [HR.out]; exact cin_none _)
      · have hr0 : ¬ a < 0 := by omega
        go_wp2_with fail
        refine bodyPost_ret (v := .tuple #[.agg #[.slice none 0 0, .slice none 0 0], .agg #[.slice none 0 0, .slice none 0 0], .int .i64 6]) (by simp [results, Try.results28, go_sem, u0, u1, t0, t1]) rfl ?_
        refine ⟨none, 0, 0, none, 0, 0, none, 0, 0, none, 0, 0, by rw [HR.out], ?_, ?_, V3.out.below⟩ <;> (rw [HR.out]; exact cin_none _)
    · obtain ⟨k, rfl⟩ := Int.eq_ofNat_of_zero_le (show 0 ≤ a by omega)
      have hkn : k ≤ n := by omega
      have hkc : k ≤ c := by omega
      have HR := Lib.hid (show splR C (k : Int) = (spA C k, spB C k, 0) by unfold splR; rw [if_neg (by simp [HV.out]), if_neg (by rw [HC.out.ls]; omega)]; rfl)
      have HK := Lib.hid (vC_zero.1 HV.out)
      clear hr
      have CTS := Lib.hid (show CellsIn w A (sndsC (C.s.take k)) by
        have := HC.out.cs
        rw [show sndsC C.s = sndsC (C.s.take k) ++ sndsC (C.s.drop k) by rw [← sndsC_cat, List.take_append_drop]] at this
        exact this.left)
      have hk0 : (0 : Int) ≤ (k : Int) := by omega
      obtain ⟨AA, hAA⟩ : ∃ z, z = (if c = k then A else Option.map (fun x => x.add (k * 3)) A) := ⟨_, rfl⟩
      have CDS := Lib.hid (show CellsIn w AA (sndsC (C.s.drop k)) by rw [hAA]; exact drop_snds k hkn hnc HC.out.ls HC.out.cs)
      have HAA := Lib.hid hAA
      clear hAA
      obtain ⟨wl, hwl⟩ : ∃ z, z = w1.alloc (.cells #[] 51) := ⟨_, rfl⟩
      have VL := Lib.hid (show Hp w [snds (some ⟨w1.heap.size, 0, none⟩) 0 0 [], cbox g2 none 0 0 none 0 0, cbox g1 none 0 0 none 0 0, cbox g0 A n c B m d] wl by rw [hwl]; exact V2.out.lit 51 3 0 [] rfl (by decide))
      obtain ⟨QS, fS, w3, hr3, hv3, _⟩ := run_cat_snds VL.out (i := 0) rfl 22 (B := A) (m := k) (d := c) (C.s.take k) (by rw [List.length_take, HC.out.ls]; omega) (CTS.out.below VL.out.below) (by omega) (by omega)
      rw [Nat.zero_add] at hr3 hv3
      have VM := Lib.hid (show Hp w [snds QS k fS (C.s.take k), cbox g2 none 0 0 none 0 0, cbox g1 none 0 0 none 0 0, cbox g0 A n c B m d] w3 from hv3)
      have HWL := Lib.hid hwl
      have HR3 := Lib.hid hr3
      clear hwl hr3 hv3
      go_upto_region 7 with (at_builtin; rw [← HWL.out]; refine wpList_app_run rfl (.tmp 29) (.tmp 33) 22 rfl HR3.out rfl rfl ?_)
      obtain ⟨g3, hg3⟩ : ∃ z, z = w3.heap.size := ⟨_, rfl⟩
      obtain ⟨w4, hw4⟩ : ∃ z, z = w3.alloc (.cells #[.slice QS k fS, .slice none 0 0] 25) := ⟨_, rfl⟩
      have VN := Lib.hid (show Hp w [cbox g3 QS k fS none 0 0, snds QS k fS (C.s.take k), cbox g2 none 0 0 none 0 0, cbox g1 none 0 0 none 0 0, cbox g0 A n c B m d] w4 by rw [hw4, hg3]; exact VM.out.cbox_new QS k fS none 0 0)
      have HW4 := Lib.hid hw4
      have HG3 := Lib.hid hg3
      clear hw4 hg3 b0 b1 bg e0 ef eg e1 eh f0 ff fg f1 fh
      rw [← HW4.out, ← HG3.out]
      obtain ⟨b0, b1, bg⟩ := VN.out.cbox_at (i := 4) rfl
      obtain ⟨wk, hwk⟩ : ∃ z, z = w4.alloc (.cells #[] 51) := ⟨_, rfl⟩
      have VK := Lib.hid (show Hp w [snds (some ⟨w4.heap.size, 0, none⟩) 0 0 [], cbox g3 QS k fS none 0 0, snds QS k fS (C.s.take k), cbox g2 none 0 0 none 0 0, cbox g1 none 0 0 none 0 0, cbox g0 A n c B m d] wk by rw [hwk]; exact VN.out.lit 51 3 0 [] rfl (by decide))
      obtain ⟨QT, fT, w5, hr5, hv5, _⟩ := run_cat_snds VK.out (i := 0) rfl 22 (B := AA) (m := n - k) (d := c - k) (C.s.drop k) (by rw [List.length_drop, HC.out.ls]) (CDS.out.below VK.out.below) (by omega) (by omega)
      rw [Nat.zero_add] at hr5 hv5
      have VO := Lib.hid (show Hp w [snds QT (n - k) fT (C.s.drop k), cbox g3 QS k fS none 0 0, snds QS k fS (C.s.take k), cbox g2 none 0 0 none 0 0, cbox g1 none 0 0 none 0 0, cbox g0 A n c B m d] w5 from hv5)
      have HWK := Lib.hid hwk
      have HR5 := Lib.hid hr5
      clear hwk hr5 hv5
      go_upto_region 8 with (at_builtin; rw [← HWK.out, ← HAA.out]; refine wpList_app_run rfl (.tmp 36) (.tmp 40) 22 rfl HR5.out rfl rfl ?_)
      obtain ⟨g4, hg4⟩ : ∃ z, z = w5.heap.size := ⟨_, rfl⟩
      obtain ⟨w6, hw6⟩ : ∃ z, z = w5.alloc (.cells #[.slice QT (n - k) fT, .slice none 0 0] 25) := ⟨_, rfl⟩
      have VP := Lib.hid (show Hp w [cbox g4 QT (n - k) fT none 0 0, snds QT (n - k) fT (C.s.drop k), cbox g3 QS k fS none 0 0, snds QS k fS (C.s.take k), cbox g2 none 0 0 none 0 0, cbox g1 none 0 0 none 0 0, cbox g0 A n c B m d] w6 by rw [hw6, hg4]; exact VO.out.cbox_new QT (n - k) fT none 0 0)
      have HW6 := Lib.hid hw6
      have HG4 := Lib.hid hg4
      clear hw6 hg4 b0 b1 bg
      rw [← HW6.out, ← HG4.out]
      try rw [← HAA.out]
      go_wp2_with fail
      go_loopw [10] (fun i wr => ∃ (j ma fa mb fb : Nat) (QA QB : Option Addr), j ≤ m ∧ ma ≤ j ∧ mb ≤ j ∧ i = .int .i64 j ∧ Hp w [cbox g3 QS k fS QA ma fa, nums QA ma fa (ltB (k : Int) (C.b.take j)), cbox g4 QT (n - k) fT QB mb fb, nums QB mb fb (gtB (k : Int) (C.b.take j)), snds QS k fS (C.s.take k), snds QT (n - k) fT (C.s.drop k), cbox g2 none 0 0 none 0 0, cbox g1 none 0 0 none 0 0, cbox g0 A n c B m d] wr) (fun i _ => m - (intOf i).toNat)
      case atStart => exact ⟨0, 0, 0, 0, 0, none, none, Nat.zero_le _, Nat.le_refl _, Nat.le_refl _, rfl, ((VP.out.nil_row (nums none 0 0 []) rfl rfl rfl).nil_row (nums none 0 0 []) rfl rfl rfl).pick [4, 0, 2, 1, 5, 3, 6, 7, 8] (by decide) rfl⟩
      case round =>
        clear VP VO VN VM VL VK V2 V1
        obtain ⟨j, ma, fa, mb, fb, QA, QB, hj, hma, hmb, rfl, hV⟩ := hrel
        obtain ⟨wi, rfl⟩ : ∃ wi : World, wi = wr := ⟨_, rfl⟩
        have V := Lib.hid hV
        clear hV
        obtain ⟨b0, b1, bg⟩ := V.out.cbox_at (i := 8) rfl
        by_cases hlt : j < m
        · obtain ⟨bb, ob, rfl, hbb, x0⟩ := (HC.out.cb.below V.out.below).int (j := j) (by rw [HC.out.lb]; exact hlt)
          have HAT := Lib.hid (ints_get HC.out.lb hlt)
          obtain ⟨a, ha⟩ : ∃ a, C.b.getD j 0 = a := ⟨_, rfl⟩
          have HAE := Lib.hid ha
          rw [ha] at x0 HAT
          have hab := HK.out.brk a (List.mem_of_getElem? HAT.out)
          have hab2 : a ≤ 12 := by have := HK.out.ns; omega
          obtain ⟨hab0, _⟩ := hab
          have hjm : j < C.b.length := by rw [HC.out.lb]; exact hlt
          clear ha
          by_cases hle : a ≤ (k : Int)
          · have HS1 := Lib.hid (show ltB (k : Int) (C.b.take (j + 1)) = ltB (k : Int) (C.b.take j) ++ [a] by rw [take_snoc HAT.out]; unfold ltB; rw [List.filter_append]; simp [hle])
            have HS2 := Lib.hid (show gtB (k : Int) (C.b.take (j + 1)) = gtB (k : Int) (C.b.take j) by rw [take_snoc HAT.out]; unfold gtB; rw [List.filter_append]; simp [hle])
            go_upto_region 12 with fail
            have hKp : Keep [(⟨g0, 1, none⟩, .slice (some ⟨bb, ob, none⟩) m d), (⟨bb, ob + j, none⟩, .int .i64 a)] wi := List.forall_mem_cons.2 ⟨⟨(V.out.cbox_at (i := 8) rfl).2.1, (V.out.cbox_at (i := 8) rfl).2.2⟩, List.forall_mem_cons.2 ⟨⟨((HC.out.cb.below V.out.below).iat hjm HAE.out).1, ((HC.out.cb.below V.out.below).iat hjm HAE.out).2⟩, fun _ h => by simp at h⟩⟩
            refine wp_region_held_drew (S := Keep _) (by kernel_rfl) hKp.drew (fun hHeld => ?_)
            obtain ⟨wg, hwg⟩ : ∃ z, z = wi.drew := ⟨_, rfl⟩
            have Vwg := Lib.hid (show Hp w (cbox g3 QS k fS QA ma fa :: nums QA ma fa (ltB (k : Int) (C.b.take j)) :: cbox g4 QT (n - k) fT QB mb fb :: nums QB mb fb (gtB (k : Int) (C.b.take j)) :: snds QS k fS (C.s.take k) :: snds QT (n - k) fT (C.s.drop k) :: cbox g2 none 0 0 none 0 0 :: cbox g1 none 0 0 none 0 0 :: cbox g0 A n c (some ⟨bb, ob, none⟩) m d :: []) wg by rw [hwg]; exact V.out.go (bdrew _))
            have Bwg := Lib.hid (show Below wi.heap.size wi wg by rw [hwg]; exact bdrew _)
            rw [← hwg] at hHeld ⊢
            clear hwg hKp
            refine tk 0 ?_ rfl ?_ ?_; rotate_left; focus (intro w hSw; clear hSw; go_simp; try (with_reducible rfl))
            try simp only [Act.put, sA, sZ, sS]
            refine tk 2 ?_ rfl ?_ ?_; rotate_left; focus (intro w hSw; clear hSw; go_simp; try (with_reducible rfl))
            try simp only [Act.put, sA, sZ, sS]
            refine tk 3 ?_ rfl ?_ ?_; rotate_left
            · intro wl hSw
              have hSw : Keep _ wl := hSw
              have k0 := (hSw _ (.head _)).1
              dsimp only at k0
              clear hSw
              go_simp
              try (with_reducible rfl)
            try simp only [Act.put, sA, sZ, sS]
            refine tk 4 ?_ rfl ?_ ?_; rotate_left; focus (intro w hSw; clear hSw; go_simp; try (with_reducible rfl))
            try simp only [Act.put, sA, sZ, sS]
            refine tk 5 ?_ rfl ?_ ?_; rotate_left; focus (intro w hSw; clear hSw; go_simp; try (with_reducible rfl))
            try simp only [Act.put, sA, sZ, sS]
            refine tk 6 ?_ rfl ?_ ?_; rotate_left
            · intro wl hSw
              have hSw : Keep _ wl := hSw
              have k0 := (hSw _ (.tail _ (.head _))).1
              dsimp only at k0
              clear hSw
              go_simp
              try (with_reducible rfl)
            try simp only [Act.put, sA, sZ, sS]
            refine wpAnyH_ready (rs := [1, 7]) (by kernel_rfl) (by simp) ?_
            refine AllReadyH.cons (List.getElem?_toArray.trans rfl) (fun K hK => ?_) ?_
            · have yL := (Vwg.out.cbox_at (i := 0) rfl).2.1
              go_simp
              clear yL
              refine hK.out _ _ (hHeld) (fun hHeld => ?_)
              clear hK K
              try simp only [Act.put, sA, sZ, sS]
              refine wpAnyH_ready (rs := [7]) (by kernel_rfl) (by simp) ?_
              refine AllReadyH.cons (List.getElem?_toArray.trans rfl) (fun K hK => ?_) AllReadyH.nil
              obtain ⟨w_1_7, hw_1_7⟩ : ∃ z, z = wg.alloc (.cells #[.int .i64 a] 3) := ⟨_, rfl⟩
              obtain ⟨g_1_7, hg_1_7⟩ : ∃ z, z = wg.heap.size := ⟨_, rfl⟩
              have V_1_7 := Lib.hid (show Hp w (box 3 g_1_7 [.int .i64 a] :: cbox g3 QS k fS QA ma fa :: nums QA ma fa (ltB (k : Int) (C.b.take j)) :: cbox g4 QT (n - k) fT QB mb fb :: nums QB mb fb (gtB (k : Int) (C.b.take j)) :: snds QS k fS (C.s.take k) :: snds QT (n - k) fT (C.s.drop k) :: cbox g2 none 0 0 none 0 0 :: cbox g1 none 0 0 none 0 0 :: cbox g0 A n c (some ⟨bb, ob, none⟩) m d :: []) w_1_7 by rw [hw_1_7, hg_1_7]; exact Vwg.out.box_new _ _)
              have B_1_7 := Lib.hid (show Below wg.heap.size wg w_1_7 by rw [hw_1_7]; exact bnew _ _)
              have HW_1_7 := Lib.hid hw_1_7
              have HG_1_7 := Lib.hid hg_1_7
              clear hw_1_7 hg_1_7
              go_simp
              try rw [← HW_1_7.out]
              try rw [← HG_1_7.out]
              refine hK.out _ _ (hHeld.go B_1_7.out) (fun hHeld => ?_)
              clear hK K
              try simp only [Act.put, sA, sZ, sS]
              refine wpAnyH_ready (rs := [8]) (by kernel_rfl) (by simp) ?_
              refine AllReadyH.cons (List.getElem?_toArray.trans rfl) (fun K hK => ?_) AllReadyH.nil
              obtain ⟨g_1_7_8, cap_1_7_8, w_1_7_8, hr_1_7_8, hv_1_7_8, _⟩ := run_app_num V_1_7.out (i := 2) rfl 23 a (V_1_7.out.box_at (i := 0) (j := 0) rfl rfl).1 (by omega)
              have HR_1_7_8 := Lib.hid hr_1_7_8
              have V_1_7_8 := Lib.hid (show Hp w (box 3 g_1_7 [.int .i64 a] :: cbox g3 QS k fS QA ma fa :: nums (some ⟨g_1_7_8, 0, none⟩) (ma + 1) cap_1_7_8 (ltB (k : Int) (C.b.take j) ++ [a]) :: cbox g4 QT (n - k) fT QB mb fb :: nums QB mb fb (gtB (k : Int) (C.b.take j)) :: snds QS k fS (C.s.take k) :: snds QT (n - k) fT (C.s.drop k) :: cbox g2 none 0 0 none 0 0 :: cbox g1 none 0 0 none 0 0 :: cbox g0 A n c (some ⟨bb, ob, none⟩) m d :: []) w_1_7_8 from hv_1_7_8)
              clear hr_1_7_8 hv_1_7_8
              refine step_app_run rfl (.tmp 58) (.tmp 64) 23 rfl HR_1_7_8.out rfl rfl ?_
              refine hK.out _ _ (List.forall_mem_cons.2 ⟨⟨(V_1_7_8.out.cbox_at (i := 9) rfl).2.1, (V_1_7_8.out.cbox_at (i := 9) rfl).2.2⟩, List.forall_mem_cons.2 ⟨⟨((HC.out.cb.below V_1_7_8.out.below).iat hjm HAE.out).1, ((HC.out.cb.below V_1_7_8.out.below).iat hjm HAE.out).2⟩, fun _ h => by simp at h⟩⟩) (fun hHeld => ?_)
              clear hK K
              try simp only [Act.put, sA, sZ, sS]
              refine tk 9 ?_ rfl ?_ ?_; rotate_left; focus (intro w hSw; clear hSw; go_simp; try (with_reducible rfl))
              try simp only [Act.put, sA, sZ, sS]
              refine wpAnyH_ready (rs := [10]) (by kernel_rfl) (by simp) ?_
              refine AllReadyH.cons (List.getElem?_toArray.trans rfl) (fun K hK => ?_) AllReadyH.nil
              obtain ⟨⟨s0, s1, s2⟩, s3, s4⟩ := V_1_7_8.out.cbox_st (i := 1) rfl
              have XS := Lib.hid (Hp.box_set (T := 25) (g := g3) (cs := [.slice QS k fS, .slice QA ma fa]) V_1_7_8.out (i := 1) rfl 1 (.slice (some ⟨g_1_7_8, 0, none⟩) (ma + 1) cap_1_7_8))
              go_simp
              clear s0 s1 s2 s3 s4
              refine hK.out _ _ (List.forall_mem_cons.2 ⟨⟨(XS.out.cbox_at (i := 9) rfl).2.1, (XS.out.cbox_at (i := 9) rfl).2.2⟩, List.forall_mem_cons.2 ⟨⟨((HC.out.cb.below XS.out.below).iat hjm HAE.out).1, ((HC.out.cb.below XS.out.below).iat hjm HAE.out).2⟩, fun _ h => by simp at h⟩⟩) (fun hHeld => ?_)
              clear hK K
              try simp only [Act.put, sA, sZ, sS]
              refine wpAnyH_done (by kernel_rfl) ?_ _
              have VE := Lib.hid (show Hp w _ _ from XS.out.pick [1, 2, 3, 4, 5, 6, 7, 8, 9] (by decide) (l' := [cbox g3 QS k fS (some ⟨g_1_7_8, 0, none⟩) (ma + 1) cap_1_7_8, nums (some ⟨g_1_7_8, 0, none⟩) (ma + 1) cap_1_7_8 (ltB (k : Int) (C.b.take j) ++ [a]), cbox g4 QT (n - k) fT QB mb fb, nums QB mb fb (gtB (k : Int) (C.b.take j)), snds QS k fS (C.s.take k), snds QT (n - k) fT (C.s.drop k), cbox g2 none 0 0 none 0 0, cbox g1 none 0 0 none 0 0, cbox g0 A n c (some ⟨bb, ob, none⟩) m d]) rfl)
              rw [← HS1.out, ← HS2.out] at VE
              clear hHeld
              go_wp2_with fail
              go_roundw
              case rel => exact ⟨j + 1, _, _, _, _, _, _, by omega, by omega, by omega, by go_num, VE.out⟩
              case measure => simp [intOf]; omega
            refine AllReadyH.cons (List.getElem?_toArray.trans rfl) (fun K hK => ?_) ?_
            · obtain ⟨w_7, hw_7⟩ : ∃ z, z = wg.alloc (.cells #[.int .i64 a] 3) := ⟨_, rfl⟩
              obtain ⟨g_7, hg_7⟩ : ∃ z, z = wg.heap.size := ⟨_, rfl⟩
              have V_7 := Lib.hid (show Hp w (box 3 g_7 [.int .i64 a] :: cbox g3 QS k fS QA ma fa :: nums QA ma fa (ltB (k : Int) (C.b.take j)) :: cbox g4 QT (n - k) fT QB mb fb :: nums QB mb fb (gtB (k : Int) (C.b.take j)) :: snds QS k fS (C.s.take k) :: snds QT (n - k) fT (C.s.drop k) :: cbox g2 none 0 0 none 0 0 :: cbox g1 none 0 0 none 0 0 :: cbox g0 A n c (some ⟨bb, ob, none⟩) m d :: []) w_7 by rw [hw_7, hg_7]; exact Vwg.out.box_new _ _)
              have B_7 := Lib.hid (show Below wg.heap.size wg w_7 by rw [hw_7]; exact bnew _ _)
              have HW_7 := Lib.hid hw_7
              have HG_7 := Lib.hid hg_7
              clear hw_7 hg_7
              go_simp
              try rw [← HW_7.out]
              try rw [← HG_7.out]
              refine hK.out _ _ (hHeld.go B_7.out) (fun hHeld => ?_)
              clear hK K
              try simp only [Act.put, sA, sZ, sS]
              refine wpAnyH_ready (rs := [1]) (by kernel_rfl) (by simp) ?_
              refine AllReadyH.cons (List.getElem?_toArray.trans rfl) (fun K hK => ?_) AllReadyH.nil
              have yL := (V_7.out.cbox_at (i := 1) rfl).2.1
              go_simp
              clear yL
              refine hK.out _ _ (hHeld) (fun hHeld => ?_)
              clear hK K
              try simp only [Act.put, sA, sZ, sS]
              refine wpAnyH_ready (rs := [8]) (by kernel_rfl) (by simp) ?_
              refine AllReadyH.cons (List.getElem?_toArray.trans rfl) (fun K hK => ?_) AllReadyH.nil
              obtain ⟨g_7_1_8, cap_7_1_8, w_7_1_8, hr_7_1_8, hv_7_1_8, _⟩ := run_app_num V_7.out (i := 2) rfl 23 a (V_7.out.box_at (i := 0) (j := 0) rfl rfl).1 (by omega)
              have HR_7_1_8 := Lib.hid hr_7_1_8
              have V_7_1_8 := Lib.hid (show Hp w (box 3 g_7 [.int .i64 a] :: cbox g3 QS k fS QA ma fa :: nums (some ⟨g_7_1_8, 0, none⟩) (ma + 1) cap_7_1_8 (ltB (k : Int) (C.b.take j) ++ [a]) :: cbox g4 QT (n - k) fT QB mb fb :: nums QB mb fb (gtB (k : Int) (C.b.take j)) :: snds QS k fS (C.s.take k) :: snds QT (n - k) fT (C.s.drop k) :: cbox g2 none 0 0 none 0 0 :: cbox g1 none 0 0 none 0 0 :: cbox g0 A n c (some ⟨bb, ob, none⟩) m d :: []) w_7_1_8 from hv_7_1_8)
              clear hr_7_1_8 hv_7_1_8
              refine step_app_run rfl (.tmp 58) (.tmp 64) 23 rfl HR_7_1_8.out rfl rfl ?_
              refine hK.out _ _ (List.forall_mem_cons.2 ⟨⟨(V_7_1_8.out.cbox_at (i := 9) rfl).2.1, (V_7_1_8.out.cbox_at (i := 9) rfl).2.2⟩, List.forall_mem_cons.2 ⟨⟨((HC.out.cb.below V_7_1_8.out.below).iat hjm HAE.out).1, ((HC.out.cb.below V_7_1_8.out.below).iat hjm HAE.out).2⟩, fun _ h => by simp at h⟩⟩) (fun hHeld => ?_)
              clear hK K
              try simp only [Act.put, sA, sZ, sS]
              refine tk 9 ?_ rfl ?_ ?_; rotate_left; focus (intro w hSw; clear hSw; go_simp; try (with_reducible rfl))
              try simp only [Act.put, sA, sZ, sS]
              refine wpAnyH_ready (rs := [10]) (by kernel_rfl) (by simp) ?_
              refine AllReadyH.cons (List.getElem?_toArray.trans rfl) (fun K hK => ?_) AllReadyH.nil
              obtain ⟨⟨s0, s1, s2⟩, s3, s4⟩ := V_7_1_8.out.cbox_st (i := 1) rfl
              have XS := Lib.hid (Hp.box_set (T := 25) (g := g3) (cs := [.slice QS k fS, .slice QA ma fa]) V_7_1_8.out (i := 1) rfl 1 (.slice (some ⟨g_7_1_8, 0, none⟩) (ma + 1) cap_7_1_8))
              go_simp
              clear s0 s1 s2 s3 s4
              refine hK.out _ _ (List.forall_mem_cons.2 ⟨⟨(XS.out.cbox_at (i := 9) rfl).2.1, (XS.out.cbox_at (i := 9) rfl).2.2⟩, List.forall_mem_cons.2 ⟨⟨((HC.out.cb.below XS.out.below).iat hjm HAE.out).1, ((HC.out.cb.below XS.out.below).iat hjm HAE.out).2⟩, fun _ h => by simp at h⟩⟩) (fun hHeld => ?_)
              clear hK K
              try simp only [Act.put, sA, sZ, sS]
              refine wpAnyH_done (by kernel_rfl) ?_ _
              have VE := Lib.hid (show Hp w _ _ from XS.out.pick [1, 2, 3, 4, 5, 6, 7, 8, 9] (by decide) (l' := [cbox g3 QS k fS (some ⟨g_7_1_8, 0, none⟩) (ma + 1) cap_7_1_8, nums (some ⟨g_7_1_8, 0, none⟩) (ma + 1) cap_7_1_8 (ltB (k : Int) (C.b.take j) ++ [a]), cbox g4 QT (n - k) fT QB mb fb, nums QB mb fb (gtB (k : Int) (C.b.take j)), snds QS k fS (C.s.take k), snds QT (n - k) fT (C.s.drop k), cbox g2 none 0 0 none 0 0, cbox g1 none 0 0 none 0 0, cbox g0 A n c (some ⟨bb, ob, none⟩) m d]) rfl)
              rw [← HS1.out, ← HS2.out] at VE
              clear hHeld
              go_wp2_with fail
              go_roundw
              case rel => exact ⟨j + 1, _, _, _, _, _, _, by omega, by omega, by omega, by go_num, VE.out⟩
              case measure => simp [intOf]; omega
            exact AllReadyH.nil
          · have hle2 : ¬ a ≤ (k : Int) := hle
            obtain ⟨zz, hz⟩ : ∃ y, a - (k : Int) = y := ⟨_, rfl⟩
            have hwz : IntKind.i64.wrap (a - (k : Int)) = zz := by rw [IntWalk.i64_in _ (by omega)]; exact hz
            have HS1 := Lib.hid (show ltB (k : Int) (C.b.take (j + 1)) = ltB (k : Int) (C.b.take j) by rw [take_snoc HAT.out]; unfold ltB; rw [List.filter_append]; simp [hle])
            have HS2 := Lib.hid (show gtB (k : Int) (C.b.take (j + 1)) = gtB (k : Int) (C.b.take j) ++ [zz] by rw [take_snoc HAT.out]; unfold gtB; rw [List.filter_append, List.map_append]; simp [hle, hz])
            clear hz
            go_upto_region 13 with fail
            have hKp : Keep [(⟨g0, 1, none⟩, .slice (some ⟨bb, ob, none⟩) m d), (⟨bb, ob + j, none⟩, .int .i64 a)] wi := List.forall_mem_cons.2 ⟨⟨(V.out.cbox_at (i := 8) rfl).2.1, (V.out.cbox_at (i := 8) rfl).2.2⟩, List.forall_mem_cons.2 ⟨⟨((HC.out.cb.below V.out.below).iat hjm HAE.out).1, ((HC.out.cb.below V.out.below).iat hjm HAE.out).2⟩, fun _ h => by simp at h⟩⟩
            refine wp_region_held_drew (S := Keep _) (by kernel_rfl) hKp.drew (fun hHeld => ?_)
            obtain ⟨wg, hwg⟩ : ∃ z, z = wi.drew := ⟨_, rfl⟩
            have Vwg := Lib.hid (show Hp w (cbox g3 QS k fS QA ma fa :: nums QA ma fa (ltB (k : Int) (C.b.take j)) :: cbox g4 QT (n - k) fT QB mb fb :: nums QB mb fb (gtB (k : Int) (C.b.take j)) :: snds QS k fS (C.s.take k) :: snds QT (n - k) fT (C.s.drop k) :: cbox g2 none 0 0 none 0 0 :: cbox g1 none 0 0 none 0 0 :: cbox g0 A n c (some ⟨bb, ob, none⟩) m d :: []) wg by rw [hwg]; exact V.out.go (bdrew _))
            have Bwg := Lib.hid (show Below wi.heap.size wi wg by rw [hwg]; exact bdrew _)
            rw [← hwg] at hHeld ⊢
            clear hwg hKp
            refine tk 0 ?_ rfl ?_ ?_; rotate_left; focus (intro w hSw; clear hSw; go_simp; try (with_reducible rfl))
            try simp only [Act.put, sA, sZ, sS]
            refine tk 2 ?_ rfl ?_ ?_; rotate_left; focus (intro w hSw; clear hSw; go_simp; try (with_reducible rfl))
            try simp only [Act.put, sA, sZ, sS]
            refine tk 3 ?_ rfl ?_ ?_; rotate_left
            · intro wl hSw
              have hSw : Keep _ wl := hSw
              have k0 := (hSw _ (.head _)).1
              dsimp only at k0
              clear hSw
              go_simp
              try (with_reducible rfl)
            try simp only [Act.put, sA, sZ, sS]
            refine tk 4 ?_ rfl ?_ ?_; rotate_left; focus (intro w hSw; clear hSw; go_simp; try (with_reducible rfl))
            try simp only [Act.put, sA, sZ, sS]
            refine tk 5 ?_ rfl ?_ ?_; rotate_left; focus (intro w hSw; clear hSw; go_simp; try (with_reducible rfl))
            try simp only [Act.put, sA, sZ, sS]
            refine tk 6 ?_ rfl ?_ ?_; rotate_left
            · intro wl hSw
              have hSw : Keep _ wl := hSw
              have k0 := (hSw _ (.tail _ (.head _))).1
              dsimp only at k0
              clear hSw
              go_simp
              try (with_reducible rfl)
            try simp only [Act.put, sA, sZ, sS]
            refine tk 7 ?_ rfl ?_ ?_; rotate_left; focus (intro w hSw; clear hSw; go_simp; try (with_reducible rfl))
            try simp only [Act.put, sA, sZ, sS]
            refine tk 8 ?_ rfl ?_ ?_; rotate_left; focus (intro w hSw; clear hSw; go_simp; try (with_reducible rfl))
            try simp only [Act.put, sA, sZ, sS]
            refine wpAnyH_ready (rs := [1, 9]) (by kernel_rfl) (by simp) ?_
            refine AllReadyH.cons (List.getElem?_toArray.trans rfl) (fun K hK => ?_) ?_
            · have yL := (Vwg.out.cbox_at (i := 2) rfl).2.1
              go_simp
              clear yL
              refine hK.out _ _ (hHeld) (fun hHeld => ?_)
              clear hK K
              try simp only [Act.put, sA, sZ, sS]
              refine wpAnyH_ready (rs := [9]) (by kernel_rfl) (by simp) ?_
              refine AllReadyH.cons (List.getElem?_toArray.trans rfl) (fun K hK => ?_) AllReadyH.nil
              obtain ⟨w_1_9, hw_1_9⟩ : ∃ z, z = wg.alloc (.cells #[.int .i64 zz] 3) := ⟨_, rfl⟩
              obtain ⟨g_1_9, hg_1_9⟩ : ∃ z, z = wg.heap.size := ⟨_, rfl⟩
              have V_1_9 := Lib.hid (show Hp w (box 3 g_1_9 [.int .i64 zz] :: cbox g3 QS k fS QA ma fa :: nums QA ma fa (ltB (k : Int) (C.b.take j)) :: cbox g4 QT (n - k) fT QB mb fb :: nums QB mb fb (gtB (k : Int) (C.b.take j)) :: snds QS k fS (C.s.take k) :: snds QT (n - k) fT (C.s.drop k) :: cbox g2 none 0 0 none 0 0 :: cbox g1 none 0 0 none 0 0 :: cbox g0 A n c (some ⟨bb, ob, none⟩) m d :: []) w_1_9 by rw [hw_1_9, hg_1_9]; exact Vwg.out.box_new _ _)
              have B_1_9 := Lib.hid (show Below wg.heap.size wg w_1_9 by rw [hw_1_9]; exact bnew _ _)
              have HW_1_9 := Lib.hid hw_1_9
              have HG_1_9 := Lib.hid hg_1_9
              clear hw_1_9 hg_1_9
              go_simp
              try rw [← HW_1_9.out]
              try rw [← HG_1_9.out]
              refine hK.out _ _ (hHeld.go B_1_9.out) (fun hHeld => ?_)
              clear hK K
              try simp only [Act.put, sA, sZ, sS]
              refine wpAnyH_ready (rs := [10]) (by kernel_rfl) (by simp) ?_
              refine AllReadyH.cons (List.getElem?_toArray.trans rfl) (fun K hK => ?_) AllReadyH.nil
              obtain ⟨g_1_9_10, cap_1_9_10, w_1_9_10, hr_1_9_10, hv_1_9_10, _⟩ := run_app_num V_1_9.out (i := 4) rfl 23 zz (V_1_9.out.box_at (i := 0) (j := 0) rfl rfl).1 (by omega)
              have HR_1_9_10 := Lib.hid hr_1_9_10
              have V_1_9_10 := Lib.hid (show Hp w (box 3 g_1_9 [.int .i64 zz] :: cbox g3 QS k fS QA ma fa :: nums QA ma fa (ltB (k : Int) (C.b.take j)) :: cbox g4 QT (n - k) fT QB mb fb :: nums (some ⟨g_1_9_10, 0, none⟩) (mb + 1) cap_1_9_10 (gtB (k : Int) (C.b.take j) ++ [zz]) :: snds QS k fS (C.s.take k) :: snds QT (n - k) fT (C.s.drop k) :: cbox g2 none 0 0 none 0 0 :: cbox g1 none 0 0 none 0 0 :: cbox g0 A n c (some ⟨bb, ob, none⟩) m d :: []) w_1_9_10 from hv_1_9_10)
              clear hr_1_9_10 hv_1_9_10
              refine step_app_run rfl (.tmp 68) (.tmp 76) 23 rfl HR_1_9_10.out rfl rfl ?_
              refine hK.out _ _ (List.forall_mem_cons.2 ⟨⟨(V_1_9_10.out.cbox_at (i := 9) rfl).2.1, (V_1_9_10.out.cbox_at (i := 9) rfl).2.2⟩, List.forall_mem_cons.2 ⟨⟨((HC.out.cb.below V_1_9_10.out.below).iat hjm HAE.out).1, ((HC.out.cb.below V_1_9_10.out.below).iat hjm HAE.out).2⟩, fun _ h => by simp at h⟩⟩) (fun hHeld => ?_)
              clear hK K
              try simp only [Act.put, sA, sZ, sS]
              refine tk 11 ?_ rfl ?_ ?_; rotate_left; focus (intro w hSw; clear hSw; go_simp; try (with_reducible rfl))
              try simp only [Act.put, sA, sZ, sS]
              refine wpAnyH_ready (rs := [12]) (by kernel_rfl) (by simp) ?_
              refine AllReadyH.cons (List.getElem?_toArray.trans rfl) (fun K hK => ?_) AllReadyH.nil
              obtain ⟨⟨s0, s1, s2⟩, s3, s4⟩ := V_1_9_10.out.cbox_st (i := 3) rfl
              have XS := Lib.hid (Hp.box_set (T := 25) (g := g4) (cs := [.slice QT (n - k) fT, .slice QB mb fb]) V_1_9_10.out (i := 3) rfl 1 (.slice (some ⟨g_1_9_10, 0, none⟩) (mb + 1) cap_1_9_10))
              go_simp
              clear s0 s1 s2 s3 s4
              refine hK.out _ _ (List.forall_mem_cons.2 ⟨⟨(XS.out.cbox_at (i := 9) rfl).2.1, (XS.out.cbox_at (i := 9) rfl).2.2⟩, List.forall_mem_cons.2 ⟨⟨((HC.out.cb.below XS.out.below).iat hjm HAE.out).1, ((HC.out.cb.below XS.out.below).iat hjm HAE.out).2⟩, fun _ h => by simp at h⟩⟩) (fun hHeld => ?_)
              clear hK K
              try simp only [Act.put, sA, sZ, sS]
              refine wpAnyH_done (by kernel_rfl) ?_ _
              have VE := Lib.hid (show Hp w _ _ from XS.out.pick [1, 2, 3, 4, 5, 6, 7, 8, 9] (by decide) (l' := [cbox g3 QS k fS QA ma fa, nums QA ma fa (ltB (k : Int) (C.b.take j)), cbox g4 QT (n - k) fT (some ⟨g_1_9_10, 0, none⟩) (mb + 1) cap_1_9_10, nums (some ⟨g_1_9_10, 0, none⟩) (mb + 1) cap_1_9_10 (gtB (k : Int) (C.b.take j) ++ [zz]), snds QS k fS (C.s.take k), snds QT (n - k) fT (C.s.drop k), cbox g2 none 0 0 none 0 0, cbox g1 none 0 0 none 0 0, cbox g0 A n c (some ⟨bb, ob, none⟩) m d]) rfl)
              rw [← HS1.out, ← HS2.out] at VE
              clear hHeld
              go_wp2_with fail
              go_roundw
              case rel => exact ⟨j + 1, _, _, _, _, _, _, by omega, by omega, by omega, by go_num, VE.out⟩
              case measure => simp [intOf]; omega
            refine AllReadyH.cons (List.getElem?_toArray.trans rfl) (fun K hK => ?_) ?_
            · obtain ⟨w_9, hw_9⟩ : ∃ z, z = wg.alloc (.cells #[.int .i64 zz] 3) := ⟨_, rfl⟩
              obtain ⟨g_9, hg_9⟩ : ∃ z, z = wg.heap.size := ⟨_, rfl⟩
              have V_9 := Lib.hid (show Hp w (box 3 g_9 [.int .i64 zz] :: cbox g3 QS k fS QA ma fa :: nums QA ma fa (ltB (k : Int) (C.b.take j)) :: cbox g4 QT (n - k) fT QB mb fb :: nums QB mb fb (gtB (k : Int) (C.b.take j)) :: snds QS k fS (C.s.take k) :: snds QT (n - k) fT (C.s.drop k) :: cbox g2 none 0 0 none 0 0 :: cbox g1 none 0 0 none 0 0 :: cbox g0 A n c (some ⟨bb, ob, none⟩) m d :: []) w_9 by rw [hw_9, hg_9]; exact Vwg.out.box_new _ _)
              have B_9 := Lib.hid (show Below wg.heap.size wg w_9 by rw [hw_9]; exact bnew _ _)
              have HW_9 := Lib.hid hw_9
              have HG_9 := Lib.hid hg_9
              clear hw_9 hg_9
              go_simp
              try rw [← HW_9.out]
              try rw [← HG_9.out]
              refine hK.out _ _ (hHeld.go B_9.out) (fun hHeld => ?_)
              clear hK K
              try simp only [Act.put, sA, sZ, sS]
              refine wpAnyH_ready (rs := [1]) (by kernel_rfl) (by simp) ?_
              refine AllReadyH.cons (List.getElem?_toArray.trans rfl) (fun K hK => ?_) AllReadyH.nil
              have yL := (V_9.out.cbox_at (i := 3) rfl).2.1
              go_simp
              clear yL
              refine hK.out _ _ (hHeld) (fun hHeld => ?_)
              clear hK K
              try simp only [Act.put, sA, sZ, sS]
              refine wpAnyH_ready (rs := [10]) (by kernel_rfl) (by simp) ?_
              refine AllReadyH.cons (List.getElem?_toArray.trans rfl) (fun K hK => ?_) AllReadyH.nil
              obtain ⟨g_9_1_10, cap_9_1_10, w_9_1_10, hr_9_1_10, hv_9_1_10, _⟩ := run_app_num V_9.out (i := 4) rfl 23 zz (V_9.out.box_at (i := 0) (j := 0) rfl rfl).1 (by omega)
              have HR_9_1_10 := Lib.hid hr_9_1_10
              have V_9_1_10 := Lib.hid (show Hp w (box 3 g_9 [.int .i64 zz] :: cbox g3 QS k fS QA ma fa :: nums QA ma fa (ltB (k : Int) (C.b.take j)) :: cbox g4 QT (n - k) fT QB mb fb :: nums (some ⟨g_9_1_10, 0, none⟩) (mb + 1) cap_9_1_10 (gtB (k : Int) (C.b.take j) ++ [zz]) :: snds QS k fS (C.s.take k) :: snds QT (n - k) fT (C.s.drop k) :: cbox g2 none 0 0 none 0 0 :: cbox g1 none 0 0 none 0 0 :: cbox g0 A n c (some ⟨bb, ob, none⟩) m d :: []) w_9_1_10 from hv_9_1_10)
              clear hr_9_1_10 hv_9_1_10
              refine step_app_run rfl (.tmp 68) (.tmp 76) 23 rfl HR_9_1_10.out rfl rfl ?_
              refine hK.out _ _ (List.forall_mem_cons.2 ⟨⟨(V_9_1_10.out.cbox_at (i := 9) rfl).2.1, (V_9_1_10.out.cbox_at (i := 9) rfl).2.2⟩, List.forall_mem_cons.2 ⟨⟨((HC.out.cb.below V_9_1_10.out.below).iat hjm HAE.out).1, ((HC.out.cb.below V_9_1_10.out.below).iat hjm HAE.out).2⟩, fun _ h => by simp at h⟩⟩) (fun hHeld => ?_)
              clear hK K
              try simp only [Act.put, sA, sZ, sS]
              refine tk 11 ?_ rfl ?_ ?_; rotate_left; focus (intro w hSw; clear hSw; go_simp; try (with_reducible rfl))
              try simp only [Act.put, sA, sZ, sS]
              refine wpAnyH_ready (rs := [12]) (by kernel_rfl) (by simp) ?_
              refine AllReadyH.cons (List.getElem?_toArray.trans rfl) (fun K hK => ?_) AllReadyH.nil
              obtain ⟨⟨s0, s1, s2⟩, s3, s4⟩ := V_9_1_10.out.cbox_st (i := 3) rfl
              have XS := Lib.hid (Hp.box_set (T := 25) (g := g4) (cs := [.slice QT (n - k) fT, .slice QB mb fb]) V_9_1_10.out (i := 3) rfl 1 (.slice (some ⟨g_9_1_10, 0, none⟩) (mb + 1) cap_9_1_10))
              go_simp
              clear s0 s1 s2 s3 s4
              refine hK.out _ _ (List.forall_mem_cons.2 ⟨⟨(XS.out.cbox_at (i := 9) rfl).2.1, (XS.out.cbox_at (i := 9) rfl).2.2⟩, List.forall_mem_cons.2 ⟨⟨((HC.out.cb.below XS.out.below).iat hjm HAE.out).1, ((HC.out.cb.below XS.out.below).iat hjm HAE.out).2⟩, fun _ h => by simp at h⟩⟩) (fun hHeld => ?_)
              clear hK K
              try simp only [Act.put, sA, sZ, sS]
              refine wpAnyH_done (by kernel_rfl) ?_ _
              have VE := Lib.hid (show Hp w _ _ from XS.out.pick [1, 2, 3, 4, 5, 6, 7, 8, 9] (by decide) (l' := [cbox g3 QS k fS QA ma fa, nums QA ma fa (ltB (k : Int) (C.b.take j)), cbox g4 QT (n - k) fT (some ⟨g_9_1_10, 0, none⟩) (mb + 1) cap_9_1_10, nums (some ⟨g_9_1_10, 0, none⟩) (mb + 1) cap_9_1_10 (gtB (k : Int) (C.b.take j) ++ [zz]), snds QS k fS (C.s.take k), snds QT (n - k) fT (C.s.drop k), cbox g2 none 0 0 none 0 0, cbox g1 none 0 0 none 0 0, cbox g0 A n c (some ⟨bb, ob, none⟩) m d]) rfl)
              rw [← HS1.out, ← HS2.out] at VE
              clear hHeld
              go_wp2_with fail
              go_roundw
              case rel => exact ⟨j + 1, _, _, _, _, _, _, by omega, by omega, by omega, by go_num, VE.out⟩
              case measure => simp [intOf]; omega
            exact AllReadyH.nil
        · have HEE := Lib.hid (show C.b.take j = C.b from take_all (by rw [HC.out.lb]; omega))
          obtain rfl : m = j := by omega
          have hLA := Lib.hid (V.out.num_len (i := 1) rfl)
          have hLB := Lib.hid (V.out.num_len (i := 3) rfl)
          rw [HEE.out] at V hLA hLB
          go_upto_region 14 with fail
          have hKp : Keep [(⟨g3, 0, none⟩, .slice QS k fS), (⟨g3, 1, none⟩, .slice QA ma fa), (⟨g4, 0, none⟩, .slice QT (n - k) fT), (⟨g4, 1, none⟩, .slice QB mb fb)] wi := List.forall_mem_cons.2 ⟨⟨(V.out.cbox_at (i := 0) rfl).1, (V.out.cbox_at (i := 0) rfl).2.2⟩, List.forall_mem_cons.2 ⟨⟨(V.out.cbox_at (i := 0) rfl).2.1, (V.out.cbox_at (i := 0) rfl).2.2⟩, List.forall_mem_cons.2 ⟨⟨(V.out.cbox_at (i := 2) rfl).1, (V.out.cbox_at (i := 2) rfl).2.2⟩, List.forall_mem_cons.2 ⟨⟨(V.out.cbox_at (i := 2) rfl).2.1, (V.out.cbox_at (i := 2) rfl).2.2⟩, fun _ h => by simp at h⟩⟩⟩⟩
          refine wp_region_held_drew (S := Keep _) (by kernel_rfl) hKp.drew (fun hHeld => ?_)
          obtain ⟨wh, hwh⟩ : ∃ z, z = wi.drew := ⟨_, rfl⟩
          have Vwh := Lib.hid (show Hp w (cbox g3 QS k fS QA ma fa :: nums QA ma fa (ltB (k : Int) C.b) :: cbox g4 QT (n - k) fT QB mb fb :: nums QB mb fb (gtB (k : Int) C.b) :: snds QS k fS (C.s.take k) :: snds QT (n - k) fT (C.s.drop k) :: cbox g2 none 0 0 none 0 0 :: cbox g1 none 0 0 none 0 0 :: cbox g0 A n c B m d :: []) wh by rw [hwh]; exact V.out.go (bdrew _))
          have Bwh := Lib.hid (show Below wi.heap.size wi wh by rw [hwh]; exact bdrew _)
          rw [← hwh] at hHeld ⊢
          clear hwh hKp
          refine tk 0 ?_ rfl ?_ ?_; rotate_left
          · intro wl hSw
            have hSw : Keep _ wl := hSw
            have k0 := (hSw _ (.head _)).1
            have k1 := (hSw _ (.tail _ (.head _))).1
            dsimp only at k0 k1
            clear hSw
            go_simp
            try (with_reducible rfl)
          try simp only [Act.put, sA, sZ, sS]
          refine tk 1 ?_ rfl ?_ ?_; rotate_left
          · intro wl hSw
            have hSw : Keep _ wl := hSw
            have k0 := (hSw _ (.tail _ (.tail _ (.head _)))).1
            have k1 := (hSw _ (.tail _ (.tail _ (.tail _ (.head _))))).1
            dsimp only at k0 k1
            clear hSw
            go_simp
            try (with_reducible rfl)
          try simp only [Act.put, sA, sZ, sS]
          refine wpAnyH_ready (rs := [2]) (by kernel_rfl) (by simp) ?_
          refine AllReadyH.cons (List.getElem?_toArray.trans rfl) (fun K hK => ?_) AllReadyH.nil
          obtain ⟨⟨s0, s1, s2⟩, s3, s4⟩ := Vwh.out.cbox_st (i := 7) rfl
          have X2 := Lib.hid (Vwh.out.cbox_set (i := 7) rfl QS k fS QA ma fa)
          go_simp
          clear s0 s1 s2 s3 s4
          refine hK.out _ _ (List.forall_mem_cons.2 ⟨⟨(X2.out.cbox_at (i := 0) rfl).1, (X2.out.cbox_at (i := 0) rfl).2.2⟩, List.forall_mem_cons.2 ⟨⟨(X2.out.cbox_at (i := 0) rfl).2.1, (X2.out.cbox_at (i := 0) rfl).2.2⟩, List.forall_mem_cons.2 ⟨⟨(X2.out.cbox_at (i := 2) rfl).1, (X2.out.cbox_at (i := 2) rfl).2.2⟩, List.forall_mem_cons.2 ⟨⟨(X2.out.cbox_at (i := 2) rfl).2.1, (X2.out.cbox_at (i := 2) rfl).2.2⟩, fun _ h => by simp at h⟩⟩⟩⟩) (fun hHeld => ?_)
          clear hK K
          try simp only [Act.put, sA, sZ, sS]
          refine wpAnyH_ready (rs := [3]) (by kernel_rfl) (by simp) ?_
          refine AllReadyH.cons (List.getElem?_toArray.trans rfl) (fun K hK => ?_) AllReadyH.nil
          obtain ⟨⟨s0, s1, s2⟩, s3, s4⟩ := X2.out.cbox_st (i := 6) rfl
          have X3 := Lib.hid (X2.out.cbox_set (i := 6) rfl QT (n - k) fT QB mb fb)
          go_simp
          clear s0 s1 s2 s3 s4
          refine hK.out _ _ (List.forall_mem_cons.2 ⟨⟨(X3.out.cbox_at (i := 0) rfl).1, (X3.out.cbox_at (i := 0) rfl).2.2⟩, List.forall_mem_cons.2 ⟨⟨(X3.out.cbox_at (i := 0) rfl).2.1, (X3.out.cbox_at (i := 0) rfl).2.2⟩, List.forall_mem_cons.2 ⟨⟨(X3.out.cbox_at (i := 2) rfl).1, (X3.out.cbox_at (i := 2) rfl).2.2⟩, List.forall_mem_cons.2 ⟨⟨(X3.out.cbox_at (i := 2) rfl).2.1, (X3.out.cbox_at (i := 2) rfl).2.2⟩, fun _ h => by simp at h⟩⟩⟩⟩) (fun hHeld => ?_)
          clear hK K
          try simp only [Act.put, sA, sZ, sS]
          refine tk 4 ?_ rfl ?_ ?_; rotate_left; focus (intro w hSw; clear hSw; go_simp; try (with_reducible rfl))
          try simp only [Act.put, sA, sZ, sS]
          refine wpAnyH_done (by kernel_rfl) ?_ _
          clear hHeld
          obtain ⟨u0, u1, ug⟩ := X3.out.cbox_at (i := 7) rfl
          obtain ⟨t0, t1, tg⟩ := X3.out.cbox_at (i := 6) rfl
          go_wp2_with fail
          refine bodyPost_ret (v := .tuple #[.agg #[.slice QS k fS, .slice QA ma fa], .agg #[.slice QT (n - k) fT, .slice QB mb fb], .int .i64 0]) (by simp [results, Try.results28, go_sem, u0, u1, t0, t1]) rfl ?_
          refine ⟨QS, k, fS, QA, ma, fa, QT, n - k, fT, QB, mb, fb, by rw [HR.out], ?_, ?_, X3.out.below⟩
          · rw [HR.out]
            exact ⟨by show (C.s.take k).length = k; rw [List.length_take, HC.out.ls]; omega, hLA.out, by omega, by omega, fun x hx => HC.out.ht x (List.mem_of_mem_take hx), X3.out.cells (i := 4) (A := QS) (c := fS) rfl rfl, X3.out.cells (i := 1) (A := QA) (c := fa) rfl rfl⟩
          · rw [HR.out]
            exact ⟨by show (C.s.drop k).length = n - k; rw [List.length_drop, HC.out.ls], hLB.out, by omega, by omega, fun x hx => HC.out.ht x (List.mem_of_mem_drop hx), X3.out.cells (i := 5) (A := QT) (c := fT) rfl rfl, X3.out.cells (i := 3) (A := QB) (c := fb) rfl rfl⟩
  · have HR := Lib.hid (show splR C a = (⟨[], []⟩, ⟨[], []⟩, v) by unfold splR; rw [HV.out, if_pos h0])
    have hne : (v != 0) = true := bne_yes h0
    obtain ⟨⟨y0, yf, yg⟩, y1, yh⟩ := (V2.out.cbox_set (i := 1) rfl none 0 0 none 0 0).cbox_st (i := 0) rfl
    have V3 := Lib.hid ((V2.out.cbox_set (i := 1) rfl none 0 0 none 0 0).cbox_set (i := 0) rfl none 0 0 none 0 0)
    obtain ⟨u0, u1, ug⟩ := V3.out.cbox_at (i := 1) rfl
    obtain ⟨t0, t1, tg⟩ := V3.out.cbox_at (i := 0) rfl
    clear h0
    go_wp2_with fail
    refine bodyPost_ret (v := .tuple #[.agg #[.slice none 0 0, .slice none 0 0], .agg #[.slice none 0 0, .slice none 0 0], .int .i64 v]) (by simp [results, Try.results28, go_sem, u0, u1, t0, t1]) rfl ?_
    refine ⟨none, 0, 0, none, 0, 0, none, 0, 0, none, 0, 0, by rw [HR.out], ?_, ?_, V3.out.below⟩ <;> (rw [HR.out]; exact cin_none _)
end Go.Proofs.Ythcdbhancfpldaa
