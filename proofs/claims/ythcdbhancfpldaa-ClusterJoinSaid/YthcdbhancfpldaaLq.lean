/- Contract of Join of the reference. -/
import Derived.Test.YthcdbhancfpldaaLp
import Derived.Test.YthcdbhancfpldaaLm
namespace Go.Proofs.Ythcdbhancfpldaa
open Go.RowKit
set_option linter.unusedVariables false
set_option linter.unusedSimpArgs false
set_option maxRecDepth 100000

set_option maxHeartbeats 16000000 in
theorem rjoin_any (X Y : Clu) (A : Option Addr) (n c : Nat) (B : Option Addr) (m d : Nat) (P : Option Addr) (p e : Nat) (Q : Option Addr) (q f : Nat) (w : World) (hX : CIn w A n B m X) (hY : CIn w P p Q q Y) :
    Calls Try.prog 25 #[.agg #[.slice A n c, .slice B m d], .agg #[.slice P p e, .slice Q q f]] w (JnPost X Y w) := by
  have HX := Lib.hid hX
  have HY := Lib.hid hY
  obtain ⟨g0, hg0⟩ : ∃ z, z = w.heap.size := ⟨_, rfl⟩
  obtain ⟨g1, hg1⟩ : ∃ z, z = w.heap.size + 1 := ⟨_, rfl⟩
  obtain ⟨g2, hg2⟩ : ∃ z, z = g1 + 1 := ⟨_, rfl⟩
  obtain ⟨W0, hW0⟩ : ∃ z, z = ((w.alloc (.cells #[.slice A n c, .slice B m d] 25)).alloc (.cells #[.slice P p e, .slice Q q f] 25)).alloc (.cells #[.slice none 0 0, .slice none 0 0] 25) := ⟨_, rfl⟩
  have V1 := Lib.hid (show Hp w [cbox g2 none 0 0 none 0 0, cbox g1 P p e Q q f, cbox g0 A n c B m d] W0 by
    have := (((Hp.start w).cbox_new A n c B m d).cbox_new P p e Q q f).cbox_new none 0 0 none 0 0
    rw [show ((w.alloc (.cells #[.slice A n c, .slice B m d] 25)).alloc (.cells #[.slice P p e, .slice Q q f] 25)).heap.size = w.heap.size + 1 + 1 by simp, show (w.alloc (.cells #[.slice A n c, .slice B m d] 25)).heap.size = w.heap.size + 1 by simp, ← hg1, ← hg2, ← hg0] at this
    rw [hW0]; exact this)
  have HW0 := Lib.hid hW0
  have HG0 := Lib.hid hg0
  have HG1 := Lib.hid hg1
  have HG2 := Lib.hid hg2
  clear hX hY hW0 hg0 hg1 hg2
  obtain ⟨b0, b1, bg⟩ := V1.out.cbox_at (i := 2) rfl
  go_enter Try.func25, Try.ntmps25
  go_upto_region 1 with fail
  rw [← HW0.out, ← HG1.out, ← HG2.out, ← HG0.out]
  go_wp2_with fail
  refine (rcvalid_any X A n c B m d _ (HX.out.below V1.out.below)).mono ?_
  rintro r w1 ⟨rfl, hb1⟩
  have V2 := Lib.hid (V1.out.go hb1)
  clear hb1 b0 b1 bg
  obtain ⟨v, hv⟩ : ∃ v, vC X = v := ⟨_, rfl⟩
  have HV := Lib.hid hv
  rw [hv]
  clear hv
  by_cases h0 : v = 0
  · subst h0
    obtain ⟨e0, e1, eg⟩ := V2.out.cbox_at (i := 1) rfl
    go_wp2_with fail
    refine (rcvalid_any Y P p e Q q f _ (HY.out.below V2.out.below)).mono ?_
    rintro r w2 ⟨rfl, hb2⟩
    have V3 := Lib.hid (V2.out.go hb2)
    clear hb2 e0 e1 eg
    obtain ⟨u, hu⟩ : ∃ u, vC Y = u := ⟨_, rfl⟩
    have HU := Lib.hid hu
    rw [hu]
    clear hu
    by_cases h1 : u = 0
    · subst h1
      have HKX := Lib.hid (vC_zero.1 HV.out)
      have HKY := Lib.hid (vC_zero.1 HU.out)
      have hn : n ≤ 12 := by rw [← HX.out.ls]; exact HKX.out.ns
      have hm : m ≤ 12 := by rw [← HX.out.lb]; exact HKX.out.nb
      have hp : p ≤ 12 := by rw [← HY.out.ls]; exact HKY.out.ns
      have hq : q ≤ 12 := by rw [← HY.out.lb]; exact HKY.out.nb
      have HBY := Lib.hid (show ∀ a ∈ Y.b, -1000000000 ≤ a ∧ a ≤ 1000000000 from fun a ha => by
        have h1 := HKY.out.brk a ha
        have h2 := HKY.out.ns
        omega)
      have HR := Lib.hid (show jnR X Y = if 12 < n + p ∨ 12 < m + q then (⟨[], []⟩, 3) else (jnC X Y, 0) by
        unfold jnR; rw [if_neg (by simp [HV.out]), if_neg (by simp [HU.out]), HX.out.ls, HX.out.lb, HY.out.ls, HY.out.lb])
      have hwn : IntKind.i64.wrap ((n : Int) + (p : Int)) = ((n + p : Nat) : Int) := by rw [IntWalk.i64_in _ (by omega)]; omega
      have hwm : IntKind.i64.wrap ((m : Int) + (q : Int)) = ((m + q : Nat) : Int) := by rw [IntWalk.i64_in _ (by omega)]; omega
      obtain ⟨b0, b1, bg⟩ := V3.out.cbox_at (i := 2) rfl
      obtain ⟨e0, e1, eg⟩ := V3.out.cbox_at (i := 1) rfl
      obtain ⟨⟨s0, s1, s2⟩, s3, s4⟩ := V3.out.cbox_st (i := 0) rfl
      by_cases hbig : 12 < n + p ∨ 12 < m + q
      · have HE := Lib.hid (show jnR X Y = (⟨[], []⟩, 3) by rw [HR.out, if_pos hbig])
        have V6 := Lib.hid (V3.out.cbox_set (i := 0) rfl none 0 0 none 0 0)
        obtain ⟨u0, u1, ug⟩ := V6.out.cbox_at (i := 0) rfl
        rcases hbig with hbig | hbig
        · have hb1 : (12 : Int) < ((n + p : Nat) : Int) := by omega
          go_wp2_with fail
          refine bodyPost_ret (v := .tuple #[.agg #[.slice none 0 0, .slice none 0 0], .int .i64 3]) (by simp [results, Try.results25, go_sem, u0, u1]) rfl ?_
          exact ⟨none, 0, 0, none, 0, 0, by rw [HE.out], by rw [HE.out]; exact cin_none _, by rw [HE.out]; exact ((V6.out.nil_row (nums none 0 0 []) rfl rfl rfl).nil_row (snds none 0 0 []) rfl rfl rfl).pick [0, 1] (by decide) rfl⟩
        · have hb1 : (12 : Int) < ((m + q : Nat) : Int) := by omega
          by_cases hb3 : 12 < n + p
          · have hb4 : (12 : Int) < ((n + p : Nat) : Int) := by omega
            go_wp2_with fail
            refine bodyPost_ret (v := .tuple #[.agg #[.slice none 0 0, .slice none 0 0], .int .i64 3]) (by simp [results, Try.results25, go_sem, u0, u1]) rfl ?_
            exact ⟨none, 0, 0, none, 0, 0, by rw [HE.out], by rw [HE.out]; exact cin_none _, by rw [HE.out]; exact ((V6.out.nil_row (nums none 0 0 []) rfl rfl rfl).nil_row (snds none 0 0 []) rfl rfl rfl).pick [0, 1] (by decide) rfl⟩
          · have hb4 : ¬ (12 : Int) < ((n + p : Nat) : Int) := by omega
            go_wp2_with fail
            refine bodyPost_ret (v := .tuple #[.agg #[.slice none 0 0, .slice none 0 0], .int .i64 3]) (by simp [results, Try.results25, go_sem, u0, u1]) rfl ?_
            exact ⟨none, 0, 0, none, 0, 0, by rw [HE.out], by rw [HE.out]; exact cin_none _, by rw [HE.out]; exact ((V6.out.nil_row (nums none 0 0 []) rfl rfl rfl).nil_row (snds none 0 0 []) rfl rfl rfl).pick [0, 1] (by decide) rfl⟩
      · have HE := Lib.hid (show jnR X Y = (jnC X Y, 0) by rw [HR.out, if_neg hbig])
        have hb1 : ¬ (12 : Int) < ((n + p : Nat) : Int) := by omega
        have hb2 : ¬ (12 : Int) < ((m + q : Nat) : Int) := by omega
        go_upto_region 9 with fail
        clear hwn hwm b0 b1 bg e0 e1 eg s0 s1 s2 s3 s4
        go_cut [8] (fun r wx => ∃ g C1 f1 C2 f2, r = .pointer (some ⟨g, 0, none⟩) ∧ Hp w [cbox g C1 (n + p) f1 C2 m f2, nums C2 m f2 X.b, snds C1 (n + p) f1 (X.s ++ Y.s), cbox g2 none 0 0 none 0 0, cbox g1 P p e Q q f, cbox g0 A n c B m d] wx)
        case first =>
          have hKp : Keep [(⟨g0, 0, none⟩, .slice A n c), (⟨g0, 1, none⟩, .slice B m d), (⟨g1, 0, none⟩, .slice P p e)] w2 := List.forall_mem_cons.2 ⟨⟨(V3.out.cbox_at (i := 2) rfl).1, (V3.out.cbox_at (i := 2) rfl).2.2⟩, List.forall_mem_cons.2 ⟨⟨(V3.out.cbox_at (i := 2) rfl).2.1, (V3.out.cbox_at (i := 2) rfl).2.2⟩, List.forall_mem_cons.2 ⟨⟨(V3.out.cbox_at (i := 1) rfl).1, (V3.out.cbox_at (i := 1) rfl).2.2⟩, fun _ h => by simp at h⟩⟩⟩
          refine wp_region_held_drew (S := Keep _) (by kernel_rfl) hKp.drew (fun hHeld => ?_)
          obtain ⟨wf, hwf⟩ : ∃ z, z = w2.drew := ⟨_, rfl⟩
          have Vwf := Lib.hid (show Hp w (cbox g2 none 0 0 none 0 0 :: cbox g1 P p e Q q f :: cbox g0 A n c B m d :: []) wf by rw [hwf]; exact V3.out.go (bdrew _))
          have Bwf := Lib.hid (show Below w2.heap.size w2 wf by rw [hwf]; exact bdrew _)
          rw [← hwf] at hHeld ⊢
          clear hwf hKp
          refine tk 1 ?_ rfl ?_ ?_; rotate_left; focus (intro w hSw; clear hSw; go_simp; try (with_reducible rfl))
          try simp only [Act.put, sA, sZ, sS]
          refine tk 2 ?_ rfl ?_ ?_; rotate_left
          · intro wl hSw
            have hSw : Keep _ wl := hSw
            have k0 := (hSw _ (.head _)).1
            dsimp only at k0
            clear hSw
            go_simp
            try (with_reducible rfl)
          try simp only [Act.put, sA, sZ, sS]
          refine tk 4 ?_ rfl ?_ ?_; rotate_left; focus (intro w hSw; clear hSw; go_simp; try (with_reducible rfl))
          try simp only [Act.put, sA, sZ, sS]
          refine tk 5 ?_ rfl ?_ ?_; rotate_left
          · intro wl hSw
            have hSw : Keep _ wl := hSw
            have k0 := (hSw _ (.tail _ (.tail _ (.head _)))).1
            dsimp only at k0
            clear hSw
            go_simp
            try (with_reducible rfl)
          try simp only [Act.put, sA, sZ, sS]
          refine tk 8 ?_ rfl ?_ ?_; rotate_left; focus (intro w hSw; clear hSw; go_simp; try (with_reducible rfl))
          try simp only [Act.put, sA, sZ, sS]
          refine tk 9 ?_ rfl ?_ ?_; rotate_left
          · intro wl hSw
            have hSw : Keep _ wl := hSw
            have k0 := (hSw _ (.tail _ (.head _))).1
            dsimp only at k0
            clear hSw
            go_simp
            try (with_reducible rfl)
          try simp only [Act.put, sA, sZ, sS]
          refine wpAnyH_ready (rs := [0, 7, 12]) (by kernel_rfl) (by simp) ?_
          refine AllReadyH.cons (List.getElem?_toArray.trans rfl) (fun K hK => ?_) ?_
          · obtain ⟨w_0, hw_0⟩ : ∃ z, z = wf.alloc (.cells #[] 51) := ⟨_, rfl⟩
            obtain ⟨g_0, hg_0⟩ : ∃ z, z = wf.heap.size := ⟨_, rfl⟩
            have V_0 := Lib.hid (show Hp w (snds (some ⟨g_0, 0, none⟩) 0 0 [] :: cbox g2 none 0 0 none 0 0 :: cbox g1 P p e Q q f :: cbox g0 A n c B m d :: []) w_0 by rw [hw_0, hg_0]; exact Vwf.out.lit 51 3 0 [] rfl (by decide))
            have B_0 := Lib.hid (show Below wf.heap.size wf w_0 by rw [hw_0]; exact bnew _ _)
            have HW_0 := Lib.hid hw_0
            have HG_0 := Lib.hid hg_0
            clear hw_0 hg_0
            go_simp
            try rw [← HW_0.out]
            try rw [← HG_0.out]
            refine hK.out _ _ (hHeld.go B_0.out) (fun hHeld => ?_)
            clear hK K
            try simp only [Act.put, sA, sZ, sS]
            refine wpAnyH_ready (rs := [3, 7, 12]) (by kernel_rfl) (by simp) ?_
            refine AllReadyH.cons (List.getElem?_toArray.trans rfl) (fun K hK => ?_) ?_
            · obtain ⟨Ca, fa, w_0_3, hr_0_3, hv_0_3, _⟩ := run_cat_snds V_0.out (i := 0) rfl 22 X.s HX.out.ls (HX.out.cs.below V_0.out.below) (by omega) (by omega)
              rw [Nat.zero_add] at hr_0_3 hv_0_3
              have HR_0_3 := Lib.hid hr_0_3
              have V_0_3 := Lib.hid (show Hp w (snds Ca n fa X.s :: cbox g2 none 0 0 none 0 0 :: cbox g1 P p e Q q f :: cbox g0 A n c B m d :: []) w_0_3 from hv_0_3)
              clear hr_0_3 hv_0_3
              refine step_app_run rfl (.tmp 41) (.tmp 43) 22 rfl HR_0_3.out rfl rfl ?_
              refine hK.out _ _ (List.forall_mem_cons.2 ⟨⟨(V_0_3.out.cbox_at (i := 3) rfl).1, (V_0_3.out.cbox_at (i := 3) rfl).2.2⟩, List.forall_mem_cons.2 ⟨⟨(V_0_3.out.cbox_at (i := 3) rfl).2.1, (V_0_3.out.cbox_at (i := 3) rfl).2.2⟩, List.forall_mem_cons.2 ⟨⟨(V_0_3.out.cbox_at (i := 2) rfl).1, (V_0_3.out.cbox_at (i := 2) rfl).2.2⟩, fun _ h => by simp at h⟩⟩⟩) (fun hHeld => ?_)
              clear hK K
              try simp only [Act.put, sA, sZ, sS]
              refine wpAnyH_ready (rs := [6, 7, 12]) (by kernel_rfl) (by simp) ?_
              refine AllReadyH.cons (List.getElem?_toArray.trans rfl) (fun K hK => ?_) ?_
              · obtain ⟨C1, f1, w_0_3_6, hr_0_3_6, hv_0_3_6, _⟩ := run_cat_snds V_0_3.out (i := 0) rfl 22 Y.s HY.out.ls (HY.out.cs.below V_0_3.out.below) (by omega) (by omega)
                have HR_0_3_6 := Lib.hid hr_0_3_6
                have V_0_3_6 := Lib.hid (show Hp w (snds C1 (n + p) f1 (X.s ++ Y.s) :: cbox g2 none 0 0 none 0 0 :: cbox g1 P p e Q q f :: cbox g0 A n c B m d :: []) w_0_3_6 from hv_0_3_6)
                clear hr_0_3_6 hv_0_3_6
                refine step_app_run rfl (.tmp 44) (.tmp 46) 22 rfl HR_0_3_6.out rfl rfl ?_
                refine hK.out _ _ (List.forall_mem_cons.2 ⟨⟨(V_0_3_6.out.cbox_at (i := 3) rfl).1, (V_0_3_6.out.cbox_at (i := 3) rfl).2.2⟩, List.forall_mem_cons.2 ⟨⟨(V_0_3_6.out.cbox_at (i := 3) rfl).2.1, (V_0_3_6.out.cbox_at (i := 3) rfl).2.2⟩, List.forall_mem_cons.2 ⟨⟨(V_0_3_6.out.cbox_at (i := 2) rfl).1, (V_0_3_6.out.cbox_at (i := 2) rfl).2.2⟩, fun _ h => by simp at h⟩⟩⟩) (fun hHeld => ?_)
                clear hK K
                try simp only [Act.put, sA, sZ, sS]
                refine wpAnyH_ready (rs := [7, 12]) (by kernel_rfl) (by simp) ?_
                refine AllReadyH.cons (List.getElem?_toArray.trans rfl) (fun K hK => ?_) ?_
                · obtain ⟨w_0_3_6_7, hw_0_3_6_7⟩ : ∃ z, z = w_0_3_6.alloc (.cells #[] 3) := ⟨_, rfl⟩
                  obtain ⟨g_0_3_6_7, hg_0_3_6_7⟩ : ∃ z, z = w_0_3_6.heap.size := ⟨_, rfl⟩
                  have V_0_3_6_7 := Lib.hid (show Hp w (nums (some ⟨g_0_3_6_7, 0, none⟩) 0 0 [] :: snds C1 (n + p) f1 (X.s ++ Y.s) :: cbox g2 none 0 0 none 0 0 :: cbox g1 P p e Q q f :: cbox g0 A n c B m d :: []) w_0_3_6_7 by rw [hw_0_3_6_7, hg_0_3_6_7]; exact V_0_3_6.out.lit 3 1 0 [] rfl (by decide))
                  have B_0_3_6_7 := Lib.hid (show Below w_0_3_6.heap.size w_0_3_6 w_0_3_6_7 by rw [hw_0_3_6_7]; exact bnew _ _)
                  have HW_0_3_6_7 := Lib.hid hw_0_3_6_7
                  have HG_0_3_6_7 := Lib.hid hg_0_3_6_7
                  clear hw_0_3_6_7 hg_0_3_6_7
                  go_simp
                  try rw [← HW_0_3_6_7.out]
                  try rw [← HG_0_3_6_7.out]
                  refine hK.out _ _ (hHeld.go B_0_3_6_7.out) (fun hHeld => ?_)
                  clear hK K
                  try simp only [Act.put, sA, sZ, sS]
                  refine wpAnyH_ready (rs := [10, 12]) (by kernel_rfl) (by simp) ?_
                  refine AllReadyH.cons (List.getElem?_toArray.trans rfl) (fun K hK => ?_) ?_
                  · obtain ⟨C2, f2, w_0_3_6_7_10, hr_0_3_6_7_10, hv_0_3_6_7_10, _⟩ := run_cat_nums V_0_3_6_7.out (i := 0) rfl 23 X.b HX.out.lb (HX.out.cb.below V_0_3_6_7.out.below) (by omega) (by omega)
                    rw [Nat.zero_add] at hr_0_3_6_7_10 hv_0_3_6_7_10
                    have HR_0_3_6_7_10 := Lib.hid hr_0_3_6_7_10
                    have V_0_3_6_7_10 := Lib.hid (show Hp w (nums C2 m f2 X.b :: snds C1 (n + p) f1 (X.s ++ Y.s) :: cbox g2 none 0 0 none 0 0 :: cbox g1 P p e Q q f :: cbox g0 A n c B m d :: []) w_0_3_6_7_10 from hv_0_3_6_7_10)
                    clear hr_0_3_6_7_10 hv_0_3_6_7_10
                    refine step_app_run rfl (.tmp 48) (.tmp 50) 23 rfl HR_0_3_6_7_10.out rfl rfl ?_
                    refine hK.out _ _ (List.forall_mem_cons.2 ⟨⟨(V_0_3_6_7_10.out.cbox_at (i := 4) rfl).1, (V_0_3_6_7_10.out.cbox_at (i := 4) rfl).2.2⟩, List.forall_mem_cons.2 ⟨⟨(V_0_3_6_7_10.out.cbox_at (i := 4) rfl).2.1, (V_0_3_6_7_10.out.cbox_at (i := 4) rfl).2.2⟩, List.forall_mem_cons.2 ⟨⟨(V_0_3_6_7_10.out.cbox_at (i := 3) rfl).1, (V_0_3_6_7_10.out.cbox_at (i := 3) rfl).2.2⟩, fun _ h => by simp at h⟩⟩⟩) (fun hHeld => ?_)
                    clear hK K
                    try simp only [Act.put, sA, sZ, sS]
                    refine tk 11 ?_ rfl ?_ ?_; rotate_left; focus (intro w hSw; clear hSw; go_simp; try (with_reducible rfl))
                    try simp only [Act.put, sA, sZ, sS]
                    refine wpAnyH_ready (rs := [12]) (by kernel_rfl) (by simp) ?_
                    refine AllReadyH.cons (List.getElem?_toArray.trans rfl) (fun K hK => ?_) AllReadyH.nil
                    obtain ⟨w_0_3_6_7_10_12, hw_0_3_6_7_10_12⟩ : ∃ z, z = w_0_3_6_7_10.alloc (.cells #[.slice none 0 0, .slice none 0 0] 25) := ⟨_, rfl⟩
                    obtain ⟨g_0_3_6_7_10_12, hg_0_3_6_7_10_12⟩ : ∃ z, z = w_0_3_6_7_10.heap.size := ⟨_, rfl⟩
                    have V_0_3_6_7_10_12 := Lib.hid (show Hp w (cbox g_0_3_6_7_10_12 none 0 0 none 0 0 :: nums C2 m f2 X.b :: snds C1 (n + p) f1 (X.s ++ Y.s) :: cbox g2 none 0 0 none 0 0 :: cbox g1 P p e Q q f :: cbox g0 A n c B m d :: []) w_0_3_6_7_10_12 by rw [hw_0_3_6_7_10_12, hg_0_3_6_7_10_12]; exact V_0_3_6_7_10.out.cbox_new none 0 0 none 0 0)
                    have B_0_3_6_7_10_12 := Lib.hid (show Below w_0_3_6_7_10.heap.size w_0_3_6_7_10 w_0_3_6_7_10_12 by rw [hw_0_3_6_7_10_12]; exact bnew _ _)
                    have HW_0_3_6_7_10_12 := Lib.hid hw_0_3_6_7_10_12
                    have HG_0_3_6_7_10_12 := Lib.hid hg_0_3_6_7_10_12
                    clear hw_0_3_6_7_10_12 hg_0_3_6_7_10_12
                    go_simp
                    try rw [← HW_0_3_6_7_10_12.out]
                    try rw [← HG_0_3_6_7_10_12.out]
                    refine hK.out _ _ (hHeld.go B_0_3_6_7_10_12.out) (fun hHeld => ?_)
                    clear hK K
                    try simp only [Act.put, sA, sZ, sS]
                    refine wpAnyH_ready (rs := [13]) (by kernel_rfl) (by simp) ?_
                    refine AllReadyH.cons (List.getElem?_toArray.trans rfl) (fun K hK => ?_) AllReadyH.nil
                    obtain ⟨⟨s0, s1, s2⟩, s3, s4⟩ := V_0_3_6_7_10_12.out.cbox_st (i := 0) rfl
                    have VX := Lib.hid (V_0_3_6_7_10_12.out.cbox_set (i := 0) rfl C1 (n + p) f1 C2 m f2)
                    go_simp
                    refine hK.out _ _ (List.forall_mem_cons.2 ⟨⟨(VX.out.cbox_at (i := 5) rfl).1, (VX.out.cbox_at (i := 5) rfl).2.2⟩, List.forall_mem_cons.2 ⟨⟨(VX.out.cbox_at (i := 5) rfl).2.1, (VX.out.cbox_at (i := 5) rfl).2.2⟩, List.forall_mem_cons.2 ⟨⟨(VX.out.cbox_at (i := 4) rfl).1, (VX.out.cbox_at (i := 4) rfl).2.2⟩, fun _ h => by simp at h⟩⟩⟩) (fun hHeld => ?_)
                    clear hK K
                    try simp only [Act.put, sA, sZ, sS]
                    refine wpAnyH_done (by kernel_rfl) ?_ _
                    clear hHeld
                    go_wp2_with fail
                    go_meet
                    exact ⟨_, _, _, _, _, rfl, VX.out.pick [0, 1, 2, 3, 4, 5] (by decide) rfl⟩
                  refine AllReadyH.cons (List.getElem?_toArray.trans rfl) (fun K hK => ?_) ?_
                  · obtain ⟨w_0_3_6_7_12, hw_0_3_6_7_12⟩ : ∃ z, z = w_0_3_6_7.alloc (.cells #[.slice none 0 0, .slice none 0 0] 25) := ⟨_, rfl⟩
                    obtain ⟨g_0_3_6_7_12, hg_0_3_6_7_12⟩ : ∃ z, z = w_0_3_6_7.heap.size := ⟨_, rfl⟩
                    have V_0_3_6_7_12 := Lib.hid (show Hp w (cbox g_0_3_6_7_12 none 0 0 none 0 0 :: nums (some ⟨g_0_3_6_7, 0, none⟩) 0 0 [] :: snds C1 (n + p) f1 (X.s ++ Y.s) :: cbox g2 none 0 0 none 0 0 :: cbox g1 P p e Q q f :: cbox g0 A n c B m d :: []) w_0_3_6_7_12 by rw [hw_0_3_6_7_12, hg_0_3_6_7_12]; exact V_0_3_6_7.out.cbox_new none 0 0 none 0 0)
                    have B_0_3_6_7_12 := Lib.hid (show Below w_0_3_6_7.heap.size w_0_3_6_7 w_0_3_6_7_12 by rw [hw_0_3_6_7_12]; exact bnew _ _)
                    have HW_0_3_6_7_12 := Lib.hid hw_0_3_6_7_12
                    have HG_0_3_6_7_12 := Lib.hid hg_0_3_6_7_12
                    clear hw_0_3_6_7_12 hg_0_3_6_7_12
                    go_simp
                    try rw [← HW_0_3_6_7_12.out]
                    try rw [← HG_0_3_6_7_12.out]
                    refine hK.out _ _ (hHeld.go B_0_3_6_7_12.out) (fun hHeld => ?_)
                    clear hK K
                    try simp only [Act.put, sA, sZ, sS]
                    refine wpAnyH_ready (rs := [10]) (by kernel_rfl) (by simp) ?_
                    refine AllReadyH.cons (List.getElem?_toArray.trans rfl) (fun K hK => ?_) AllReadyH.nil
                    obtain ⟨C2, f2, w_0_3_6_7_12_10, hr_0_3_6_7_12_10, hv_0_3_6_7_12_10, _⟩ := run_cat_nums V_0_3_6_7_12.out (i := 1) rfl 23 X.b HX.out.lb (HX.out.cb.below V_0_3_6_7_12.out.below) (by omega) (by omega)
                    rw [Nat.zero_add] at hr_0_3_6_7_12_10 hv_0_3_6_7_12_10
                    have HR_0_3_6_7_12_10 := Lib.hid hr_0_3_6_7_12_10
                    have V_0_3_6_7_12_10 := Lib.hid (show Hp w (cbox g_0_3_6_7_12 none 0 0 none 0 0 :: nums C2 m f2 X.b :: snds C1 (n + p) f1 (X.s ++ Y.s) :: cbox g2 none 0 0 none 0 0 :: cbox g1 P p e Q q f :: cbox g0 A n c B m d :: []) w_0_3_6_7_12_10 from hv_0_3_6_7_12_10)
                    clear hr_0_3_6_7_12_10 hv_0_3_6_7_12_10
                    refine step_app_run rfl (.tmp 48) (.tmp 50) 23 rfl HR_0_3_6_7_12_10.out rfl rfl ?_
                    refine hK.out _ _ (List.forall_mem_cons.2 ⟨⟨(V_0_3_6_7_12_10.out.cbox_at (i := 5) rfl).1, (V_0_3_6_7_12_10.out.cbox_at (i := 5) rfl).2.2⟩, List.forall_mem_cons.2 ⟨⟨(V_0_3_6_7_12_10.out.cbox_at (i := 5) rfl).2.1, (V_0_3_6_7_12_10.out.cbox_at (i := 5) rfl).2.2⟩, List.forall_mem_cons.2 ⟨⟨(V_0_3_6_7_12_10.out.cbox_at (i := 4) rfl).1, (V_0_3_6_7_12_10.out.cbox_at (i := 4) rfl).2.2⟩, fun _ h => by simp at h⟩⟩⟩) (fun hHeld => ?_)
                    clear hK K
                    try simp only [Act.put, sA, sZ, sS]
                    refine tk 11 ?_ rfl ?_ ?_; rotate_left; focus (intro w hSw; clear hSw; go_simp; try (with_reducible rfl))
                    try simp only [Act.put, sA, sZ, sS]
                    refine wpAnyH_ready (rs := [13]) (by kernel_rfl) (by simp) ?_
                    refine AllReadyH.cons (List.getElem?_toArray.trans rfl) (fun K hK => ?_) AllReadyH.nil
                    obtain ⟨⟨s0, s1, s2⟩, s3, s4⟩ := V_0_3_6_7_12_10.out.cbox_st (i := 0) rfl
                    have VX := Lib.hid (V_0_3_6_7_12_10.out.cbox_set (i := 0) rfl C1 (n + p) f1 C2 m f2)
                    go_simp
                    refine hK.out _ _ (List.forall_mem_cons.2 ⟨⟨(VX.out.cbox_at (i := 5) rfl).1, (VX.out.cbox_at (i := 5) rfl).2.2⟩, List.forall_mem_cons.2 ⟨⟨(VX.out.cbox_at (i := 5) rfl).2.1, (VX.out.cbox_at (i := 5) rfl).2.2⟩, List.forall_mem_cons.2 ⟨⟨(VX.out.cbox_at (i := 4) rfl).1, (VX.out.cbox_at (i := 4) rfl).2.2⟩, fun _ h => by simp at h⟩⟩⟩) (fun hHeld => ?_)
                    clear hK K
                    try simp only [Act.put, sA, sZ, sS]
                    refine wpAnyH_done (by kernel_rfl) ?_ _
                    clear hHeld
                    go_wp2_with fail
                    go_meet
                    exact ⟨_, _, _, _, _, rfl, VX.out.pick [0, 1, 2, 3, 4, 5] (by decide) rfl⟩
                  exact AllReadyH.nil
                refine AllReadyH.cons (List.getElem?_toArray.trans rfl) (fun K hK => ?_) ?_
                · obtain ⟨w_0_3_6_12, hw_0_3_6_12⟩ : ∃ z, z = w_0_3_6.alloc (.cells #[.slice none 0 0, .slice none 0 0] 25) := ⟨_, rfl⟩
                  obtain ⟨g_0_3_6_12, hg_0_3_6_12⟩ : ∃ z, z = w_0_3_6.heap.size := ⟨_, rfl⟩
                  have V_0_3_6_12 := Lib.hid (show Hp w (cbox g_0_3_6_12 none 0 0 none 0 0 :: snds C1 (n + p) f1 (X.s ++ Y.s) :: cbox g2 none 0 0 none 0 0 :: cbox g1 P p e Q q f :: cbox g0 A n c B m d :: []) w_0_3_6_12 by rw [hw_0_3_6_12, hg_0_3_6_12]; exact V_0_3_6.out.cbox_new none 0 0 none 0 0)
                  have B_0_3_6_12 := Lib.hid (show Below w_0_3_6.heap.size w_0_3_6 w_0_3_6_12 by rw [hw_0_3_6_12]; exact bnew _ _)
                  have HW_0_3_6_12 := Lib.hid hw_0_3_6_12
                  have HG_0_3_6_12 := Lib.hid hg_0_3_6_12
                  clear hw_0_3_6_12 hg_0_3_6_12
                  go_simp
                  try rw [← HW_0_3_6_12.out]
                  try rw [← HG_0_3_6_12.out]
                  refine hK.out _ _ (hHeld.go B_0_3_6_12.out) (fun hHeld => ?_)
                  clear hK K
                  try simp only [Act.put, sA, sZ, sS]
                  refine wpAnyH_ready (rs := [7]) (by kernel_rfl) (by simp) ?_
                  refine AllReadyH.cons (List.getElem?_toArray.trans rfl) (fun K hK => ?_) AllReadyH.nil
                  obtain ⟨w_0_3_6_12_7, hw_0_3_6_12_7⟩ : ∃ z, z = w_0_3_6_12.alloc (.cells #[] 3) := ⟨_, rfl⟩
                  obtain ⟨g_0_3_6_12_7, hg_0_3_6_12_7⟩ : ∃ z, z = w_0_3_6_12.heap.size := ⟨_, rfl⟩
                  have V_0_3_6_12_7 := Lib.hid (show Hp w (nums (some ⟨g_0_3_6_12_7, 0, none⟩) 0 0 [] :: cbox g_0_3_6_12 none 0 0 none 0 0 :: snds C1 (n + p) f1 (X.s ++ Y.s) :: cbox g2 none 0 0 none 0 0 :: cbox g1 P p e Q q f :: cbox g0 A n c B m d :: []) w_0_3_6_12_7 by rw [hw_0_3_6_12_7, hg_0_3_6_12_7]; exact V_0_3_6_12.out.lit 3 1 0 [] rfl (by decide))
                  have B_0_3_6_12_7 := Lib.hid (show Below w_0_3_6_12.heap.size w_0_3_6_12 w_0_3_6_12_7 by rw [hw_0_3_6_12_7]; exact bnew _ _)
                  have HW_0_3_6_12_7 := Lib.hid hw_0_3_6_12_7
                  have HG_0_3_6_12_7 := Lib.hid hg_0_3_6_12_7
                  clear hw_0_3_6_12_7 hg_0_3_6_12_7
                  go_simp
                  try rw [← HW_0_3_6_12_7.out]
                  try rw [← HG_0_3_6_12_7.out]
                  refine hK.out _ _ (hHeld.go B_0_3_6_12_7.out) (fun hHeld => ?_)
                  clear hK K
                  try simp only [Act.put, sA, sZ, sS]
                  refine wpAnyH_ready (rs := [10]) (by kernel_rfl) (by simp) ?_
                  refine AllReadyH.cons (List.getElem?_toArray.trans rfl) (fun K hK => ?_) AllReadyH.nil
                  obtain ⟨C2, f2, w_0_3_6_12_7_10, hr_0_3_6_12_7_10, hv_0_3_6_12_7_10, _⟩ := run_cat_nums V_0_3_6_12_7.out (i := 0) rfl 23 X.b HX.out.lb (HX.out.cb.below V_0_3_6_12_7.out.below) (by omega) (by omega)
                  rw [Nat.zero_add] at hr_0_3_6_12_7_10 hv_0_3_6_12_7_10
                  have HR_0_3_6_12_7_10 := Lib.hid hr_0_3_6_12_7_10
                  have V_0_3_6_12_7_10 := Lib.hid (show Hp w (nums C2 m f2 X.b :: cbox g_0_3_6_12 none 0 0 none 0 0 :: snds C1 (n + p) f1 (X.s ++ Y.s) :: cbox g2 none 0 0 none 0 0 :: cbox g1 P p e Q q f :: cbox g0 A n c B m d :: []) w_0_3_6_12_7_10 from hv_0_3_6_12_7_10)
                  clear hr_0_3_6_12_7_10 hv_0_3_6_12_7_10
                  refine step_app_run rfl (.tmp 48) (.tmp 50) 23 rfl HR_0_3_6_12_7_10.out rfl rfl ?_
                  refine hK.out _ _ (List.forall_mem_cons.2 ⟨⟨(V_0_3_6_12_7_10.out.cbox_at (i := 5) rfl).1, (V_0_3_6_12_7_10.out.cbox_at (i := 5) rfl).2.2⟩, List.forall_mem_cons.2 ⟨⟨(V_0_3_6_12_7_10.out.cbox_at (i := 5) rfl).2.1, (V_0_3_6_12_7_10.out.cbox_at (i := 5) rfl).2.2⟩, List.forall_mem_cons.2 ⟨⟨(V_0_3_6_12_7_10.out.cbox_at (i := 4) rfl).1, (V_0_3_6_12_7_10.out.cbox_at (i := 4) rfl).2.2⟩, fun _ h => by simp at h⟩⟩⟩) (fun hHeld => ?_)
                  clear hK K
                  try simp only [Act.put, sA, sZ, sS]
                  refine tk 11 ?_ rfl ?_ ?_; rotate_left; focus (intro w hSw; clear hSw; go_simp; try (with_reducible rfl))
                  try simp only [Act.put, sA, sZ, sS]
                  refine wpAnyH_ready (rs := [13]) (by kernel_rfl) (by simp) ?_
                  refine AllReadyH.cons (List.getElem?_toArray.trans rfl) (fun K hK => ?_) AllReadyH.nil
                  obtain ⟨⟨s0, s1, s2⟩, s3, s4⟩ := V_0_3_6_12_7_10.out.cbox_st (i := 1) rfl
                  have VX := Lib.hid (V_0_3_6_12_7_10.out.cbox_set (i := 1) rfl C1 (n + p) f1 C2 m f2)
                  go_simp
                  refine hK.out _ _ (List.forall_mem_cons.2 ⟨⟨(VX.out.cbox_at (i := 5) rfl).1, (VX.out.cbox_at (i := 5) rfl).2.2⟩, List.forall_mem_cons.2 ⟨⟨(VX.out.cbox_at (i := 5) rfl).2.1, (VX.out.cbox_at (i := 5) rfl).2.2⟩, List.forall_mem_cons.2 ⟨⟨(VX.out.cbox_at (i := 4) rfl).1, (VX.out.cbox_at (i := 4) rfl).2.2⟩, fun _ h => by simp at h⟩⟩⟩) (fun hHeld => ?_)
                  clear hK K
                  try simp only [Act.put, sA, sZ, sS]
                  refine wpAnyH_done (by kernel_rfl) ?_ _
                  clear hHeld
                  go_wp2_with fail
                  go_meet
                  exact ⟨_, _, _, _, _, rfl, VX.out.pick [1, 0, 2, 3, 4, 5] (by decide) rfl⟩
                exact AllReadyH.nil
              refine AllReadyH.cons (List.getElem?_toArray.trans rfl) (fun K hK => ?_) ?_
              · obtain ⟨w_0_3_7, hw_0_3_7⟩ : ∃ z, z = w_0_3.alloc (.cells #[] 3) := ⟨_, rfl⟩
                obtain ⟨g_0_3_7, hg_0_3_7⟩ : ∃ z, z = w_0_3.heap.size := ⟨_, rfl⟩
                have V_0_3_7 := Lib.hid (show Hp w (nums (some ⟨g_0_3_7, 0, none⟩) 0 0 [] :: snds Ca n fa X.s :: cbox g2 none 0 0 none 0 0 :: cbox g1 P p e Q q f :: cbox g0 A n c B m d :: []) w_0_3_7 by rw [hw_0_3_7, hg_0_3_7]; exact V_0_3.out.lit 3 1 0 [] rfl (by decide))
                have B_0_3_7 := Lib.hid (show Below w_0_3.heap.size w_0_3 w_0_3_7 by rw [hw_0_3_7]; exact bnew _ _)
                have HW_0_3_7 := Lib.hid hw_0_3_7
                have HG_0_3_7 := Lib.hid hg_0_3_7
                clear hw_0_3_7 hg_0_3_7
                go_simp
                try rw [← HW_0_3_7.out]
                try rw [← HG_0_3_7.out]
                refine hK.out _ _ (hHeld.go B_0_3_7.out) (fun hHeld => ?_)
                clear hK K
                try simp only [Act.put, sA, sZ, sS]
                refine wpAnyH_ready (rs := [6, 12]) (by kernel_rfl) (by simp) ?_
                refine AllReadyH.cons (List.getElem?_toArray.trans rfl) (fun K hK => ?_) ?_
                · obtain ⟨C1, f1, w_0_3_7_6, hr_0_3_7_6, hv_0_3_7_6, _⟩ := run_cat_snds V_0_3_7.out (i := 1) rfl 22 Y.s HY.out.ls (HY.out.cs.below V_0_3_7.out.below) (by omega) (by omega)
                  have HR_0_3_7_6 := Lib.hid hr_0_3_7_6
                  have V_0_3_7_6 := Lib.hid (show Hp w (nums (some ⟨g_0_3_7, 0, none⟩) 0 0 [] :: snds C1 (n + p) f1 (X.s ++ Y.s) :: cbox g2 none 0 0 none 0 0 :: cbox g1 P p e Q q f :: cbox g0 A n c B m d :: []) w_0_3_7_6 from hv_0_3_7_6)
                  clear hr_0_3_7_6 hv_0_3_7_6
                  refine step_app_run rfl (.tmp 44) (.tmp 46) 22 rfl HR_0_3_7_6.out rfl rfl ?_
                  refine hK.out _ _ (List.forall_mem_cons.2 ⟨⟨(V_0_3_7_6.out.cbox_at (i := 4) rfl).1, (V_0_3_7_6.out.cbox_at (i := 4) rfl).2.2⟩, List.forall_mem_cons.2 ⟨⟨(V_0_3_7_6.out.cbox_at (i := 4) rfl).2.1, (V_0_3_7_6.out.cbox_at (i := 4) rfl).2.2⟩, List.forall_mem_cons.2 ⟨⟨(V_0_3_7_6.out.cbox_at (i := 3) rfl).1, (V_0_3_7_6.out.cbox_at (i := 3) rfl).2.2⟩, fun _ h => by simp at h⟩⟩⟩) (fun hHeld => ?_)
                  clear hK K
                  try simp only [Act.put, sA, sZ, sS]
                  refine wpAnyH_ready (rs := [10, 12]) (by kernel_rfl) (by simp) ?_
                  refine AllReadyH.cons (List.getElem?_toArray.trans rfl) (fun K hK => ?_) ?_
                  · obtain ⟨C2, f2, w_0_3_7_6_10, hr_0_3_7_6_10, hv_0_3_7_6_10, _⟩ := run_cat_nums V_0_3_7_6.out (i := 0) rfl 23 X.b HX.out.lb (HX.out.cb.below V_0_3_7_6.out.below) (by omega) (by omega)
                    rw [Nat.zero_add] at hr_0_3_7_6_10 hv_0_3_7_6_10
                    have HR_0_3_7_6_10 := Lib.hid hr_0_3_7_6_10
                    have V_0_3_7_6_10 := Lib.hid (show Hp w (nums C2 m f2 X.b :: snds C1 (n + p) f1 (X.s ++ Y.s) :: cbox g2 none 0 0 none 0 0 :: cbox g1 P p e Q q f :: cbox g0 A n c B m d :: []) w_0_3_7_6_10 from hv_0_3_7_6_10)
                    clear hr_0_3_7_6_10 hv_0_3_7_6_10
                    refine step_app_run rfl (.tmp 48) (.tmp 50) 23 rfl HR_0_3_7_6_10.out rfl rfl ?_
                    refine hK.out _ _ (List.forall_mem_cons.2 ⟨⟨(V_0_3_7_6_10.out.cbox_at (i := 4) rfl).1, (V_0_3_7_6_10.out.cbox_at (i := 4) rfl).2.2⟩, List.forall_mem_cons.2 ⟨⟨(V_0_3_7_6_10.out.cbox_at (i := 4) rfl).2.1, (V_0_3_7_6_10.out.cbox_at (i := 4) rfl).2.2⟩, List.forall_mem_cons.2 ⟨⟨(V_0_3_7_6_10.out.cbox_at (i := 3) rfl).1, (V_0_3_7_6_10.out.cbox_at (i := 3) rfl).2.2⟩, fun _ h => by simp at h⟩⟩⟩) (fun hHeld => ?_)
                    clear hK K
                    try simp only [Act.put, sA, sZ, sS]
                    refine tk 11 ?_ rfl ?_ ?_; rotate_left; focus (intro w hSw; clear hSw; go_simp; try (with_reducible rfl))
                    try simp only [Act.put, sA, sZ, sS]
                    refine wpAnyH_ready (rs := [12]) (by kernel_rfl) (by simp) ?_
                    refine AllReadyH.cons (List.getElem?_toArray.trans rfl) (fun K hK => ?_) AllReadyH.nil
                    obtain ⟨w_0_3_7_6_10_12, hw_0_3_7_6_10_12⟩ : ∃ z, z = w_0_3_7_6_10.alloc (.cells #[.slice none 0 0, .slice none 0 0] 25) := ⟨_, rfl⟩
                    obtain ⟨g_0_3_7_6_10_12, hg_0_3_7_6_10_12⟩ : ∃ z, z = w_0_3_7_6_10.heap.size := ⟨_, rfl⟩
                    have V_0_3_7_6_10_12 := Lib.hid (show Hp w (cbox g_0_3_7_6_10_12 none 0 0 none 0 0 :: nums C2 m f2 X.b :: snds C1 (n + p) f1 (X.s ++ Y.s) :: cbox g2 none 0 0 none 0 0 :: cbox g1 P p e Q q f :: cbox g0 A n c B m d :: []) w_0_3_7_6_10_12 by rw [hw_0_3_7_6_10_12, hg_0_3_7_6_10_12]; exact V_0_3_7_6_10.out.cbox_new none 0 0 none 0 0)
                    have B_0_3_7_6_10_12 := Lib.hid (show Below w_0_3_7_6_10.heap.size w_0_3_7_6_10 w_0_3_7_6_10_12 by rw [hw_0_3_7_6_10_12]; exact bnew _ _)
                    have HW_0_3_7_6_10_12 := Lib.hid hw_0_3_7_6_10_12
                    have HG_0_3_7_6_10_12 := Lib.hid hg_0_3_7_6_10_12
                    clear hw_0_3_7_6_10_12 hg_0_3_7_6_10_12
                    go_simp
                    try rw [← HW_0_3_7_6_10_12.out]
                    try rw [← HG_0_3_7_6_10_12.out]
                    refine hK.out _ _ (hHeld.go B_0_3_7_6_10_12.out) (fun hHeld => ?_)
                    clear hK K
                    try simp only [Act.put, sA, sZ, sS]
                    refine wpAnyH_ready (rs := [13]) (by kernel_rfl) (by simp) ?_
                    refine AllReadyH.cons (List.getElem?_toArray.trans rfl) (fun K hK => ?_) AllReadyH.nil
                    obtain ⟨⟨s0, s1, s2⟩, s3, s4⟩ := V_0_3_7_6_10_12.out.cbox_st (i := 0) rfl
                    have VX := Lib.hid (V_0_3_7_6_10_12.out.cbox_set (i := 0) rfl C1 (n + p) f1 C2 m f2)
                    go_simp
                    refine hK.out _ _ (List.forall_mem_cons.2 ⟨⟨(VX.out.cbox_at (i := 5) rfl).1, (VX.out.cbox_at (i := 5) rfl).2.2⟩, List.forall_mem_cons.2 ⟨⟨(VX.out.cbox_at (i := 5) rfl).2.1, (VX.out.cbox_at (i := 5) rfl).2.2⟩, List.forall_mem_cons.2 ⟨⟨(VX.out.cbox_at (i := 4) rfl).1, (VX.out.cbox_at (i := 4) rfl).2.2⟩, fun _ h => by simp at h⟩⟩⟩) (fun hHeld => ?_)
                    clear hK K
                    try simp only [Act.put, sA, sZ, sS]
                    refine wpAnyH_done (by kernel_rfl) ?_ _
                    clear hHeld
                    go_wp2_with fail
                    go_meet
                    exact ⟨_, _, _, _, _, rfl, VX.out.pick [0, 1, 2, 3, 4, 5] (by decide) rfl⟩
                  refine AllReadyH.cons (List.getElem?_toArray.trans rfl) (fun K hK => ?_) ?_
                  · obtain ⟨w_0_3_7_6_12, hw_0_3_7_6_12⟩ : ∃ z, z = w_0_3_7_6.alloc (.cells #[.slice none 0 0, .slice none 0 0] 25) := ⟨_, rfl⟩
                    obtain ⟨g_0_3_7_6_12, hg_0_3_7_6_12⟩ : ∃ z, z = w_0_3_7_6.heap.size := ⟨_, rfl⟩
                    have V_0_3_7_6_12 := Lib.hid (show Hp w (cbox g_0_3_7_6_12 none 0 0 none 0 0 :: nums (some ⟨g_0_3_7, 0, none⟩) 0 0 [] :: snds C1 (n + p) f1 (X.s ++ Y.s) :: cbox g2 none 0 0 none 0 0 :: cbox g1 P p e Q q f :: cbox g0 A n c B m d :: []) w_0_3_7_6_12 by rw [hw_0_3_7_6_12, hg_0_3_7_6_12]; exact V_0_3_7_6.out.cbox_new none 0 0 none 0 0)
                    have B_0_3_7_6_12 := Lib.hid (show Below w_0_3_7_6.heap.size w_0_3_7_6 w_0_3_7_6_12 by rw [hw_0_3_7_6_12]; exact bnew _ _)
                    have HW_0_3_7_6_12 := Lib.hid hw_0_3_7_6_12
                    have HG_0_3_7_6_12 := Lib.hid hg_0_3_7_6_12
                    clear hw_0_3_7_6_12 hg_0_3_7_6_12
                    go_simp
                    try rw [← HW_0_3_7_6_12.out]
                    try rw [← HG_0_3_7_6_12.out]
                    refine hK.out _ _ (hHeld.go B_0_3_7_6_12.out) (fun hHeld => ?_)
                    clear hK K
                    try simp only [Act.put, sA, sZ, sS]
                    refine wpAnyH_ready (rs := [10]) (by kernel_rfl) (by simp) ?_
                    refine AllReadyH.cons (List.getElem?_toArray.trans rfl) (fun K hK => ?_) AllReadyH.nil
                    obtain ⟨C2, f2, w_0_3_7_6_12_10, hr_0_3_7_6_12_10, hv_0_3_7_6_12_10, _⟩ := run_cat_nums V_0_3_7_6_12.out (i := 1) rfl 23 X.b HX.out.lb (HX.out.cb.below V_0_3_7_6_12.out.below) (by omega) (by omega)
                    rw [Nat.zero_add] at hr_0_3_7_6_12_10 hv_0_3_7_6_12_10
                    have HR_0_3_7_6_12_10 := Lib.hid hr_0_3_7_6_12_10
                    have V_0_3_7_6_12_10 := Lib.hid (show Hp w (cbox g_0_3_7_6_12 none 0 0 none 0 0 :: nums C2 m f2 X.b :: snds C1 (n + p) f1 (X.s ++ Y.s) :: cbox g2 none 0 0 none 0 0 :: cbox g1 P p e Q q f :: cbox g0 A n c B m d :: []) w_0_3_7_6_12_10 from hv_0_3_7_6_12_10)
                    clear hr_0_3_7_6_12_10 hv_0_3_7_6_12_10
                    refine step_app_run rfl (.tmp 48) (.tmp 50) 23 rfl HR_0_3_7_6_12_10.out rfl rfl ?_
                    refine hK.out _ _ (List.forall_mem_cons.2 ⟨⟨(V_0_3_7_6_12_10.out.cbox_at (i := 5) rfl).1, (V_0_3_7_6_12_10.out.cbox_at (i := 5) rfl).2.2⟩, List.forall_mem_cons.2 ⟨⟨(V_0_3_7_6_12_10.out.cbox_at (i := 5) rfl).2.1, (V_0_3_7_6_12_10.out.cbox_at (i := 5) rfl).2.2⟩, List.forall_mem_cons.2 ⟨⟨(V_0_3_7_6_12_10.out.cbox_at (i := 4) rfl).1, (V_0_3_7_6_12_10.out.cbox_at (i := 4) rfl).2.2⟩, fun _ h => by simp at h⟩⟩⟩) (fun hHeld => ?_)
                    clear hK K
                    try simp only [Act.put, sA, sZ, sS]
                    refine tk 11 ?_ rfl ?_ ?_; rotate_left; focus (intro w hSw; clear hSw; go_simp; try (with_reducible rfl))
                    try simp only [Act.put, sA, sZ, sS]
                    refine wpAnyH_ready (rs := [13]) (by kernel_rfl) (by simp) ?_
                    refine AllReadyH.cons (List.getElem?_toArray.trans rfl) (fun K hK => ?_) AllReadyH.nil
                    obtain ⟨⟨s0, s1, s2⟩, s3, s4⟩ := V_0_3_7_6_12_10.out.cbox_st (i := 0) rfl
                    have VX := Lib.hid (V_0_3_7_6_12_10.out.cbox_set (i := 0) rfl C1 (n + p) f1 C2 m f2)
                    go_simp
                    refine hK.out _ _ (List.forall_mem_cons.2 ⟨⟨(VX.out.cbox_at (i := 5) rfl).1, (VX.out.cbox_at (i := 5) rfl).2.2⟩, List.forall_mem_cons.2 ⟨⟨(VX.out.cbox_at (i := 5) rfl).2.1, (VX.out.cbox_at (i := 5) rfl).2.2⟩, List.forall_mem_cons.2 ⟨⟨(VX.out.cbox_at (i := 4) rfl).1, (VX.out.cbox_at (i := 4) rfl).2.2⟩, fun _ h => by simp at h⟩⟩⟩) (fun hHeld => ?_)
                    clear hK K
                    try simp only [Act.put, sA, sZ, sS]
                    refine wpAnyH_done (by kernel_rfl) ?_ _
                    clear hHeld
                    go_wp2_with fail
                    go_meet
                    exact ⟨_, _, _, _, _, rfl, VX.out.pick [0, 1, 2, 3, 4, 5] (by decide) rfl⟩
                  exact AllReadyH.nil
                refine AllReadyH.cons (List.getElem?_toArray.trans rfl) (fun K hK => ?_) ?_
                · obtain ⟨w_0_3_7_12, hw_0_3_7_12⟩ : ∃ z, z = w_0_3_7.alloc (.cells #[.slice none 0 0, .slice none 0 0] 25) := ⟨_, rfl⟩
                  obtain ⟨g_0_3_7_12, hg_0_3_7_12⟩ : ∃ z, z = w_0_3_7.heap.size := ⟨_, rfl⟩
                  have V_0_3_7_12 := Lib.hid (show Hp w (cbox g_0_3_7_12 none 0 0 none 0 0 :: nums (some ⟨g_0_3_7, 0, none⟩) 0 0 [] :: snds Ca n fa X.s :: cbox g2 none 0 0 none 0 0 :: cbox g1 P p e Q q f :: cbox g0 A n c B m d :: []) w_0_3_7_12 by rw [hw_0_3_7_12, hg_0_3_7_12]; exact V_0_3_7.out.cbox_new none 0 0 none 0 0)
                  have B_0_3_7_12 := Lib.hid (show Below w_0_3_7.heap.size w_0_3_7 w_0_3_7_12 by rw [hw_0_3_7_12]; exact bnew _ _)
                  have HW_0_3_7_12 := Lib.hid hw_0_3_7_12
                  have HG_0_3_7_12 := Lib.hid hg_0_3_7_12
                  clear hw_0_3_7_12 hg_0_3_7_12
                  go_simp
                  try rw [← HW_0_3_7_12.out]
                  try rw [← HG_0_3_7_12.out]
                  refine hK.out _ _ (hHeld.go B_0_3_7_12.out) (fun hHeld => ?_)
                  clear hK K
                  try simp only [Act.put, sA, sZ, sS]
                  refine wpAnyH_ready (rs := [6]) (by kernel_rfl) (by simp) ?_
                  refine AllReadyH.cons (List.getElem?_toArray.trans rfl) (fun K hK => ?_) AllReadyH.nil
                  obtain ⟨C1, f1, w_0_3_7_12_6, hr_0_3_7_12_6, hv_0_3_7_12_6, _⟩ := run_cat_snds V_0_3_7_12.out (i := 2) rfl 22 Y.s HY.out.ls (HY.out.cs.below V_0_3_7_12.out.below) (by omega) (by omega)
                  have HR_0_3_7_12_6 := Lib.hid hr_0_3_7_12_6
                  have V_0_3_7_12_6 := Lib.hid (show Hp w (cbox g_0_3_7_12 none 0 0 none 0 0 :: nums (some ⟨g_0_3_7, 0, none⟩) 0 0 [] :: snds C1 (n + p) f1 (X.s ++ Y.s) :: cbox g2 none 0 0 none 0 0 :: cbox g1 P p e Q q f :: cbox g0 A n c B m d :: []) w_0_3_7_12_6 from hv_0_3_7_12_6)
                  clear hr_0_3_7_12_6 hv_0_3_7_12_6
                  refine step_app_run rfl (.tmp 44) (.tmp 46) 22 rfl HR_0_3_7_12_6.out rfl rfl ?_
                  refine hK.out _ _ (List.forall_mem_cons.2 ⟨⟨(V_0_3_7_12_6.out.cbox_at (i := 5) rfl).1, (V_0_3_7_12_6.out.cbox_at (i := 5) rfl).2.2⟩, List.forall_mem_cons.2 ⟨⟨(V_0_3_7_12_6.out.cbox_at (i := 5) rfl).2.1, (V_0_3_7_12_6.out.cbox_at (i := 5) rfl).2.2⟩, List.forall_mem_cons.2 ⟨⟨(V_0_3_7_12_6.out.cbox_at (i := 4) rfl).1, (V_0_3_7_12_6.out.cbox_at (i := 4) rfl).2.2⟩, fun _ h => by simp at h⟩⟩⟩) (fun hHeld => ?_)
                  clear hK K
                  try simp only [Act.put, sA, sZ, sS]
                  refine wpAnyH_ready (rs := [10]) (by kernel_rfl) (by simp) ?_
                  refine AllReadyH.cons (List.getElem?_toArray.trans rfl) (fun K hK => ?_) AllReadyH.nil
                  obtain ⟨C2, f2, w_0_3_7_12_6_10, hr_0_3_7_12_6_10, hv_0_3_7_12_6_10, _⟩ := run_cat_nums V_0_3_7_12_6.out (i := 1) rfl 23 X.b HX.out.lb (HX.out.cb.below V_0_3_7_12_6.out.below) (by omega) (by omega)
                  rw [Nat.zero_add] at hr_0_3_7_12_6_10 hv_0_3_7_12_6_10
                  have HR_0_3_7_12_6_10 := Lib.hid hr_0_3_7_12_6_10
                  have V_0_3_7_12_6_10 := Lib.hid (show Hp w (cbox g_0_3_7_12 none 0 0 none 0 0 :: nums C2 m f2 X.b :: snds C1 (n + p) f1 (X.s ++ Y.s) :: cbox g2 none 0 0 none 0 0 :: cbox g1 P p e Q q f :: cbox g0 A n c B m d :: []) w_0_3_7_12_6_10 from hv_0_3_7_12_6_10)
                  clear hr_0_3_7_12_6_10 hv_0_3_7_12_6_10
                  refine step_app_run rfl (.tmp 48) (.tmp 50) 23 rfl HR_0_3_7_12_6_10.out rfl rfl ?_
                  refine hK.out _ _ (List.forall_mem_cons.2 ⟨⟨(V_0_3_7_12_6_10.out.cbox_at (i := 5) rfl).1, (V_0_3_7_12_6_10.out.cbox_at (i := 5) rfl).2.2⟩, List.forall_mem_cons.2 ⟨⟨(V_0_3_7_12_6_10.out.cbox_at (i := 5) rfl).2.1, (V_0_3_7_12_6_10.out.cbox_at (i := 5) rfl).2.2⟩, List.forall_mem_cons.2 ⟨⟨(V_0_3_7_12_6_10.out.cbox_at (i := 4) rfl).1, (V_0_3_7_12_6_10.out.cbox_at (i := 4) rfl).2.2⟩, fun _ h => by simp at h⟩⟩⟩) (fun hHeld => ?_)
                  clear hK K
                  try simp only [Act.put, sA, sZ, sS]
                  refine tk 11 ?_ rfl ?_ ?_; rotate_left; focus (intro w hSw; clear hSw; go_simp; try (with_reducible rfl))
                  try simp only [Act.put, sA, sZ, sS]
                  refine wpAnyH_ready (rs := [13]) (by kernel_rfl) (by simp) ?_
                  refine AllReadyH.cons (List.getElem?_toArray.trans rfl) (fun K hK => ?_) AllReadyH.nil
                  obtain ⟨⟨s0, s1, s2⟩, s3, s4⟩ := V_0_3_7_12_6_10.out.cbox_st (i := 0) rfl
                  have VX := Lib.hid (V_0_3_7_12_6_10.out.cbox_set (i := 0) rfl C1 (n + p) f1 C2 m f2)
                  go_simp
                  refine hK.out _ _ (List.forall_mem_cons.2 ⟨⟨(VX.out.cbox_at (i := 5) rfl).1, (VX.out.cbox_at (i := 5) rfl).2.2⟩, List.forall_mem_cons.2 ⟨⟨(VX.out.cbox_at (i := 5) rfl).2.1, (VX.out.cbox_at (i := 5) rfl).2.2⟩, List.forall_mem_cons.2 ⟨⟨(VX.out.cbox_at (i := 4) rfl).1, (VX.out.cbox_at (i := 4) rfl).2.2⟩, fun _ h => by simp at h⟩⟩⟩) (fun hHeld => ?_)
                  clear hK K
                  try simp only [Act.put, sA, sZ, sS]
                  refine wpAnyH_done (by kernel_rfl) ?_ _
                  clear hHeld
                  go_wp2_with fail
                  go_meet
                  exact ⟨_, _, _, _, _, rfl, VX.out.pick [0, 1, 2, 3, 4, 5] (by decide) rfl⟩
                exact AllReadyH.nil
              refine AllReadyH.cons (List.getElem?_toArray.trans rfl) (fun K hK => ?_) ?_
              · obtain ⟨w_0_3_12, hw_0_3_12⟩ : ∃ z, z = w_0_3.alloc (.cells #[.slice none 0 0, .slice none 0 0] 25) := ⟨_, rfl⟩
                obtain ⟨g_0_3_12, hg_0_3_12⟩ : ∃ z, z = w_0_3.heap.size := ⟨_, rfl⟩
                have V_0_3_12 := Lib.hid (show Hp w (cbox g_0_3_12 none 0 0 none 0 0 :: snds Ca n fa X.s :: cbox g2 none 0 0 none 0 0 :: cbox g1 P p e Q q f :: cbox g0 A n c B m d :: []) w_0_3_12 by rw [hw_0_3_12, hg_0_3_12]; exact V_0_3.out.cbox_new none 0 0 none 0 0)
                have B_0_3_12 := Lib.hid (show Below w_0_3.heap.size w_0_3 w_0_3_12 by rw [hw_0_3_12]; exact bnew _ _)
                have HW_0_3_12 := Lib.hid hw_0_3_12
                have HG_0_3_12 := Lib.hid hg_0_3_12
                clear hw_0_3_12 hg_0_3_12
                go_simp
                try rw [← HW_0_3_12.out]
                try rw [← HG_0_3_12.out]
                refine hK.out _ _ (hHeld.go B_0_3_12.out) (fun hHeld => ?_)
                clear hK K
                try simp only [Act.put, sA, sZ, sS]
                refine wpAnyH_ready (rs := [6, 7]) (by kernel_rfl) (by simp) ?_
                refine AllReadyH.cons (List.getElem?_toArray.trans rfl) (fun K hK => ?_) ?_
                · obtain ⟨C1, f1, w_0_3_12_6, hr_0_3_12_6, hv_0_3_12_6, _⟩ := run_cat_snds V_0_3_12.out (i := 1) rfl 22 Y.s HY.out.ls (HY.out.cs.below V_0_3_12.out.below) (by omega) (by omega)
                  have HR_0_3_12_6 := Lib.hid hr_0_3_12_6
                  have V_0_3_12_6 := Lib.hid (show Hp w (cbox g_0_3_12 none 0 0 none 0 0 :: snds C1 (n + p) f1 (X.s ++ Y.s) :: cbox g2 none 0 0 none 0 0 :: cbox g1 P p e Q q f :: cbox g0 A n c B m d :: []) w_0_3_12_6 from hv_0_3_12_6)
                  clear hr_0_3_12_6 hv_0_3_12_6
                  refine step_app_run rfl (.tmp 44) (.tmp 46) 22 rfl HR_0_3_12_6.out rfl rfl ?_
                  refine hK.out _ _ (List.forall_mem_cons.2 ⟨⟨(V_0_3_12_6.out.cbox_at (i := 4) rfl).1, (V_0_3_12_6.out.cbox_at (i := 4) rfl).2.2⟩, List.forall_mem_cons.2 ⟨⟨(V_0_3_12_6.out.cbox_at (i := 4) rfl).2.1, (V_0_3_12_6.out.cbox_at (i := 4) rfl).2.2⟩, List.forall_mem_cons.2 ⟨⟨(V_0_3_12_6.out.cbox_at (i := 3) rfl).1, (V_0_3_12_6.out.cbox_at (i := 3) rfl).2.2⟩, fun _ h => by simp at h⟩⟩⟩) (fun hHeld => ?_)
                  clear hK K
                  try simp only [Act.put, sA, sZ, sS]
                  refine wpAnyH_ready (rs := [7]) (by kernel_rfl) (by simp) ?_
                  refine AllReadyH.cons (List.getElem?_toArray.trans rfl) (fun K hK => ?_) AllReadyH.nil
                  obtain ⟨w_0_3_12_6_7, hw_0_3_12_6_7⟩ : ∃ z, z = w_0_3_12_6.alloc (.cells #[] 3) := ⟨_, rfl⟩
                  obtain ⟨g_0_3_12_6_7, hg_0_3_12_6_7⟩ : ∃ z, z = w_0_3_12_6.heap.size := ⟨_, rfl⟩
                  have V_0_3_12_6_7 := Lib.hid (show Hp w (nums (some ⟨g_0_3_12_6_7, 0, none⟩) 0 0 [] :: cbox g_0_3_12 none 0 0 none 0 0 :: snds C1 (n + p) f1 (X.s ++ Y.s) :: cbox g2 none 0 0 none 0 0 :: cbox g1 P p e Q q f :: cbox g0 A n c B m d :: []) w_0_3_12_6_7 by rw [hw_0_3_12_6_7, hg_0_3_12_6_7]; exact V_0_3_12_6.out.lit 3 1 0 [] rfl (by decide))
                  have B_0_3_12_6_7 := Lib.hid (show Below w_0_3_12_6.heap.size w_0_3_12_6 w_0_3_12_6_7 by rw [hw_0_3_12_6_7]; exact bnew _ _)
                  have HW_0_3_12_6_7 := Lib.hid hw_0_3_12_6_7
                  have HG_0_3_12_6_7 := Lib.hid hg_0_3_12_6_7
                  clear hw_0_3_12_6_7 hg_0_3_12_6_7
                  go_simp
                  try rw [← HW_0_3_12_6_7.out]
                  try rw [← HG_0_3_12_6_7.out]
                  refine hK.out _ _ (hHeld.go B_0_3_12_6_7.out) (fun hHeld => ?_)
                  clear hK K
                  try simp only [Act.put, sA, sZ, sS]
                  refine wpAnyH_ready (rs := [10]) (by kernel_rfl) (by simp) ?_
                  refine AllReadyH.cons (List.getElem?_toArray.trans rfl) (fun K hK => ?_) AllReadyH.nil
                  obtain ⟨C2, f2, w_0_3_12_6_7_10, hr_0_3_12_6_7_10, hv_0_3_12_6_7_10, _⟩ := run_cat_nums V_0_3_12_6_7.out (i := 0) rfl 23 X.b HX.out.lb (HX.out.cb.below V_0_3_12_6_7.out.below) (by omega) (by omega)
                  rw [Nat.zero_add] at hr_0_3_12_6_7_10 hv_0_3_12_6_7_10
                  have HR_0_3_12_6_7_10 := Lib.hid hr_0_3_12_6_7_10
                  have V_0_3_12_6_7_10 := Lib.hid (show Hp w (nums C2 m f2 X.b :: cbox g_0_3_12 none 0 0 none 0 0 :: snds C1 (n + p) f1 (X.s ++ Y.s) :: cbox g2 none 0 0 none 0 0 :: cbox g1 P p e Q q f :: cbox g0 A n c B m d :: []) w_0_3_12_6_7_10 from hv_0_3_12_6_7_10)
                  clear hr_0_3_12_6_7_10 hv_0_3_12_6_7_10
                  refine step_app_run rfl (.tmp 48) (.tmp 50) 23 rfl HR_0_3_12_6_7_10.out rfl rfl ?_
                  refine hK.out _ _ (List.forall_mem_cons.2 ⟨⟨(V_0_3_12_6_7_10.out.cbox_at (i := 5) rfl).1, (V_0_3_12_6_7_10.out.cbox_at (i := 5) rfl).2.2⟩, List.forall_mem_cons.2 ⟨⟨(V_0_3_12_6_7_10.out.cbox_at (i := 5) rfl).2.1, (V_0_3_12_6_7_10.out.cbox_at (i := 5) rfl).2.2⟩, List.forall_mem_cons.2 ⟨⟨(V_0_3_12_6_7_10.out.cbox_at (i := 4) rfl).1, (V_0_3_12_6_7_10.out.cbox_at (i := 4) rfl).2.2⟩, fun _ h => by simp at h⟩⟩⟩) (fun hHeld => ?_)
                  clear hK K
                  try simp only [Act.put, sA, sZ, sS]
                  refine tk 11 ?_ rfl ?_ ?_; rotate_left; focus (intro w hSw; clear hSw; go_simp; try (with_reducible rfl))
                  try simp only [Act.put, sA, sZ, sS]
                  refine wpAnyH_ready (rs := [13]) (by kernel_rfl) (by simp) ?_
                  refine AllReadyH.cons (List.getElem?_toArray.trans rfl) (fun K hK => ?_) AllReadyH.nil
                  obtain ⟨⟨s0, s1, s2⟩, s3, s4⟩ := V_0_3_12_6_7_10.out.cbox_st (i := 1) rfl
                  have VX := Lib.hid (V_0_3_12_6_7_10.out.cbox_set (i := 1) rfl C1 (n + p) f1 C2 m f2)
                  go_simp
                  refine hK.out _ _ (List.forall_mem_cons.2 ⟨⟨(VX.out.cbox_at (i := 5) rfl).1, (VX.out.cbox_at (i := 5) rfl).2.2⟩, List.forall_mem_cons.2 ⟨⟨(VX.out.cbox_at (i := 5) rfl).2.1, (VX.out.cbox_at (i := 5) rfl).2.2⟩, List.forall_mem_cons.2 ⟨⟨(VX.out.cbox_at (i := 4) rfl).1, (VX.out.cbox_at (i := 4) rfl).2.2⟩, fun _ h => by simp at h⟩⟩⟩) (fun hHeld => ?_)
                  clear hK K
                  try simp only [Act.put, sA, sZ, sS]
                  refine wpAnyH_done (by kernel_rfl) ?_ _
                  clear hHeld
                  go_wp2_with fail
                  go_meet
                  exact ⟨_, _, _, _, _, rfl, VX.out.pick [1, 0, 2, 3, 4, 5] (by decide) rfl⟩
                refine AllReadyH.cons (List.getElem?_toArray.trans rfl) (fun K hK => ?_) ?_
                · obtain ⟨w_0_3_12_7, hw_0_3_12_7⟩ : ∃ z, z = w_0_3_12.alloc (.cells #[] 3) := ⟨_, rfl⟩
                  obtain ⟨g_0_3_12_7, hg_0_3_12_7⟩ : ∃ z, z = w_0_3_12.heap.size := ⟨_, rfl⟩
                  have V_0_3_12_7 := Lib.hid (show Hp w (nums (some ⟨g_0_3_12_7, 0, none⟩) 0 0 [] :: cbox g_0_3_12 none 0 0 none 0 0 :: snds Ca n fa X.s :: cbox g2 none 0 0 none 0 0 :: cbox g1 P p e Q q f :: cbox g0 A n c B m d :: []) w_0_3_12_7 by rw [hw_0_3_12_7, hg_0_3_12_7]; exact V_0_3_12.out.lit 3 1 0 [] rfl (by decide))
                  have B_0_3_12_7 := Lib.hid (show Below w_0_3_12.heap.size w_0_3_12 w_0_3_12_7 by rw [hw_0_3_12_7]; exact bnew _ _)
                  have HW_0_3_12_7 := Lib.hid hw_0_3_12_7
                  have HG_0_3_12_7 := Lib.hid hg_0_3_12_7
                  clear hw_0_3_12_7 hg_0_3_12_7
                  go_simp
                  try rw [← HW_0_3_12_7.out]
                  try rw [← HG_0_3_12_7.out]
                  refine hK.out _ _ (hHeld.go B_0_3_12_7.out) (fun hHeld => ?_)
                  clear hK K
                  try simp only [Act.put, sA, sZ, sS]
                  refine wpAnyH_ready (rs := [6]) (by kernel_rfl) (by simp) ?_
                  refine AllReadyH.cons (List.getElem?_toArray.trans rfl) (fun K hK => ?_) AllReadyH.nil
                  obtain ⟨C1, f1, w_0_3_12_7_6, hr_0_3_12_7_6, hv_0_3_12_7_6, _⟩ := run_cat_snds V_0_3_12_7.out (i := 2) rfl 22 Y.s HY.out.ls (HY.out.cs.below V_0_3_12_7.out.below) (by omega) (by omega)
                  have HR_0_3_12_7_6 := Lib.hid hr_0_3_12_7_6
                  have V_0_3_12_7_6 := Lib.hid (show Hp w (nums (some ⟨g_0_3_12_7, 0, none⟩) 0 0 [] :: cbox g_0_3_12 none 0 0 none 0 0 :: snds C1 (n + p) f1 (X.s ++ Y.s) :: cbox g2 none 0 0 none 0 0 :: cbox g1 P p e Q q f :: cbox g0 A n c B m d :: []) w_0_3_12_7_6 from hv_0_3_12_7_6)
                  clear hr_0_3_12_7_6 hv_0_3_12_7_6
                  refine step_app_run rfl (.tmp 44) (.tmp 46) 22 rfl HR_0_3_12_7_6.out rfl rfl ?_
                  refine hK.out _ _ (List.forall_mem_cons.2 ⟨⟨(V_0_3_12_7_6.out.cbox_at (i := 5) rfl).1, (V_0_3_12_7_6.out.cbox_at (i := 5) rfl).2.2⟩, List.forall_mem_cons.2 ⟨⟨(V_0_3_12_7_6.out.cbox_at (i := 5) rfl).2.1, (V_0_3_12_7_6.out.cbox_at (i := 5) rfl).2.2⟩, List.forall_mem_cons.2 ⟨⟨(V_0_3_12_7_6.out.cbox_at (i := 4) rfl).1, (V_0_3_12_7_6.out.cbox_at (i := 4) rfl).2.2⟩, fun _ h => by simp at h⟩⟩⟩) (fun hHeld => ?_)
                  clear hK K
                  try simp only [Act.put, sA, sZ, sS]
                  refine wpAnyH_ready (rs := [10]) (by kernel_rfl) (by simp) ?_
                  refine AllReadyH.cons (List.getElem?_toArray.trans rfl) (fun K hK => ?_) AllReadyH.nil
                  obtain ⟨C2, f2, w_0_3_12_7_6_10, hr_0_3_12_7_6_10, hv_0_3_12_7_6_10, _⟩ := run_cat_nums V_0_3_12_7_6.out (i := 0) rfl 23 X.b HX.out.lb (HX.out.cb.below V_0_3_12_7_6.out.below) (by omega) (by omega)
                  rw [Nat.zero_add] at hr_0_3_12_7_6_10 hv_0_3_12_7_6_10
                  have HR_0_3_12_7_6_10 := Lib.hid hr_0_3_12_7_6_10
                  have V_0_3_12_7_6_10 := Lib.hid (show Hp w (nums C2 m f2 X.b :: cbox g_0_3_12 none 0 0 none 0 0 :: snds C1 (n + p) f1 (X.s ++ Y.s) :: cbox g2 none 0 0 none 0 0 :: cbox g1 P p e Q q f :: cbox g0 A n c B m d :: []) w_0_3_12_7_6_10 from hv_0_3_12_7_6_10)
                  clear hr_0_3_12_7_6_10 hv_0_3_12_7_6_10
                  refine step_app_run rfl (.tmp 48) (.tmp 50) 23 rfl HR_0_3_12_7_6_10.out rfl rfl ?_
                  refine hK.out _ _ (List.forall_mem_cons.2 ⟨⟨(V_0_3_12_7_6_10.out.cbox_at (i := 5) rfl).1, (V_0_3_12_7_6_10.out.cbox_at (i := 5) rfl).2.2⟩, List.forall_mem_cons.2 ⟨⟨(V_0_3_12_7_6_10.out.cbox_at (i := 5) rfl).2.1, (V_0_3_12_7_6_10.out.cbox_at (i := 5) rfl).2.2⟩, List.forall_mem_cons.2 ⟨⟨(V_0_3_12_7_6_10.out.cbox_at (i := 4) rfl).1, (V_0_3_12_7_6_10.out.cbox_at (i := 4) rfl).2.2⟩, fun _ h => by simp at h⟩⟩⟩) (fun hHeld => ?_)
                  clear hK K
                  try simp only [Act.put, sA, sZ, sS]
                  refine tk 11 ?_ rfl ?_ ?_; rotate_left; focus (intro w hSw; clear hSw; go_simp; try (with_reducible rfl))
                  try simp only [Act.put, sA, sZ, sS]
                  refine wpAnyH_ready (rs := [13]) (by kernel_rfl) (by simp) ?_
                  refine AllReadyH.cons (List.getElem?_toArray.trans rfl) (fun K hK => ?_) AllReadyH.nil
                  obtain ⟨⟨s0, s1, s2⟩, s3, s4⟩ := V_0_3_12_7_6_10.out.cbox_st (i := 1) rfl
                  have VX := Lib.hid (V_0_3_12_7_6_10.out.cbox_set (i := 1) rfl C1 (n + p) f1 C2 m f2)
                  go_simp
                  refine hK.out _ _ (List.forall_mem_cons.2 ⟨⟨(VX.out.cbox_at (i := 5) rfl).1, (VX.out.cbox_at (i := 5) rfl).2.2⟩, List.forall_mem_cons.2 ⟨⟨(VX.out.cbox_at (i := 5) rfl).2.1, (VX.out.cbox_at (i := 5) rfl).2.2⟩, List.forall_mem_cons.2 ⟨⟨(VX.out.cbox_at (i := 4) rfl).1, (VX.out.cbox_at (i := 4) rfl).2.2⟩, fun _ h => by simp at h⟩⟩⟩) (fun hHeld => ?_)
                  clear hK K
                  try simp only [Act.put, sA, sZ, sS]
                  refine wpAnyH_done (by kernel_rfl) ?_ _
                  clear hHeld
                  go_wp2_with fail
                  go_meet
                  exact ⟨_, _, _, _, _, rfl, VX.out.pick [1, 0, 2, 3, 4, 5] (by decide) rfl⟩
                exact AllReadyH.nil
              exact AllReadyH.nil
            refine AllReadyH.cons (List.getElem?_toArray.trans rfl) (fun K hK => ?_) ?_
            · obtain ⟨w_0_7, hw_0_7⟩ : ∃ z, z = w_0.alloc (.cells #[] 3) := ⟨_, rfl⟩
              obtain ⟨g_0_7, hg_0_7⟩ : ∃ z, z = w_0.heap.size := ⟨_, rfl⟩
              have V_0_7 := Lib.hid (show Hp w (nums (some ⟨g_0_7, 0, none⟩) 0 0 [] :: snds (some ⟨g_0, 0, none⟩) 0 0 [] :: cbox g2 none 0 0 none 0 0 :: cbox g1 P p e Q q f :: cbox g0 A n c B m d :: []) w_0_7 by rw [hw_0_7, hg_0_7]; exact V_0.out.lit 3 1 0 [] rfl (by decide))
              have B_0_7 := Lib.hid (show Below w_0.heap.size w_0 w_0_7 by rw [hw_0_7]; exact bnew _ _)
              have HW_0_7 := Lib.hid hw_0_7
              have HG_0_7 := Lib.hid hg_0_7
              clear hw_0_7 hg_0_7
              go_simp
              try rw [← HW_0_7.out]
              try rw [← HG_0_7.out]
              refine hK.out _ _ (hHeld.go B_0_7.out) (fun hHeld => ?_)
              clear hK K
              try simp only [Act.put, sA, sZ, sS]
              refine wpAnyH_ready (rs := [3, 12]) (by kernel_rfl) (by simp) ?_
              refine AllReadyH.cons (List.getElem?_toArray.trans rfl) (fun K hK => ?_) ?_
              · obtain ⟨Ca, fa, w_0_7_3, hr_0_7_3, hv_0_7_3, _⟩ := run_cat_snds V_0_7.out (i := 1) rfl 22 X.s HX.out.ls (HX.out.cs.below V_0_7.out.below) (by omega) (by omega)
                rw [Nat.zero_add] at hr_0_7_3 hv_0_7_3
                have HR_0_7_3 := Lib.hid hr_0_7_3
                have V_0_7_3 := Lib.hid (show Hp w (nums (some ⟨g_0_7, 0, none⟩) 0 0 [] :: snds Ca n fa X.s :: cbox g2 none 0 0 none 0 0 :: cbox g1 P p e Q q f :: cbox g0 A n c B m d :: []) w_0_7_3 from hv_0_7_3)
                clear hr_0_7_3 hv_0_7_3
                refine step_app_run rfl (.tmp 41) (.tmp 43) 22 rfl HR_0_7_3.out rfl rfl ?_
                refine hK.out _ _ (List.forall_mem_cons.2 ⟨⟨(V_0_7_3.out.cbox_at (i := 4) rfl).1, (V_0_7_3.out.cbox_at (i := 4) rfl).2.2⟩, List.forall_mem_cons.2 ⟨⟨(V_0_7_3.out.cbox_at (i := 4) rfl).2.1, (V_0_7_3.out.cbox_at (i := 4) rfl).2.2⟩, List.forall_mem_cons.2 ⟨⟨(V_0_7_3.out.cbox_at (i := 3) rfl).1, (V_0_7_3.out.cbox_at (i := 3) rfl).2.2⟩, fun _ h => by simp at h⟩⟩⟩) (fun hHeld => ?_)
                clear hK K
                try simp only [Act.put, sA, sZ, sS]
                refine wpAnyH_ready (rs := [6, 12]) (by kernel_rfl) (by simp) ?_
                refine AllReadyH.cons (List.getElem?_toArray.trans rfl) (fun K hK => ?_) ?_
                · obtain ⟨C1, f1, w_0_7_3_6, hr_0_7_3_6, hv_0_7_3_6, _⟩ := run_cat_snds V_0_7_3.out (i := 1) rfl 22 Y.s HY.out.ls (HY.out.cs.below V_0_7_3.out.below) (by omega) (by omega)
                  have HR_0_7_3_6 := Lib.hid hr_0_7_3_6
                  have V_0_7_3_6 := Lib.hid (show Hp w (nums (some ⟨g_0_7, 0, none⟩) 0 0 [] :: snds C1 (n + p) f1 (X.s ++ Y.s) :: cbox g2 none 0 0 none 0 0 :: cbox g1 P p e Q q f :: cbox g0 A n c B m d :: []) w_0_7_3_6 from hv_0_7_3_6)
                  clear hr_0_7_3_6 hv_0_7_3_6
                  refine step_app_run rfl (.tmp 44) (.tmp 46) 22 rfl HR_0_7_3_6.out rfl rfl ?_
                  refine hK.out _ _ (List.forall_mem_cons.2 ⟨⟨(V_0_7_3_6.out.cbox_at (i := 4) rfl).1, (V_0_7_3_6.out.cbox_at (i := 4) rfl).2.2⟩, List.forall_mem_cons.2 ⟨⟨(V_0_7_3_6.out.cbox_at (i := 4) rfl).2.1, (V_0_7_3_6.out.cbox_at (i := 4) rfl).2.2⟩, List.forall_mem_cons.2 ⟨⟨(V_0_7_3_6.out.cbox_at (i := 3) rfl).1, (V_0_7_3_6.out.cbox_at (i := 3) rfl).2.2⟩, fun _ h => by simp at h⟩⟩⟩) (fun hHeld => ?_)
                  clear hK K
                  try simp only [Act.put, sA, sZ, sS]
                  refine wpAnyH_ready (rs := [10, 12]) (by kernel_rfl) (by simp) ?_
                  refine AllReadyH.cons (List.getElem?_toArray.trans rfl) (fun K hK => ?_) ?_
                  · obtain ⟨C2, f2, w_0_7_3_6_10, hr_0_7_3_6_10, hv_0_7_3_6_10, _⟩ := run_cat_nums V_0_7_3_6.out (i := 0) rfl 23 X.b HX.out.lb (HX.out.cb.below V_0_7_3_6.out.below) (by omega) (by omega)
                    rw [Nat.zero_add] at hr_0_7_3_6_10 hv_0_7_3_6_10
                    have HR_0_7_3_6_10 := Lib.hid hr_0_7_3_6_10
                    have V_0_7_3_6_10 := Lib.hid (show Hp w (nums C2 m f2 X.b :: snds C1 (n + p) f1 (X.s ++ Y.s) :: cbox g2 none 0 0 none 0 0 :: cbox g1 P p e Q q f :: cbox g0 A n c B m d :: []) w_0_7_3_6_10 from hv_0_7_3_6_10)
                    clear hr_0_7_3_6_10 hv_0_7_3_6_10
                    refine step_app_run rfl (.tmp 48) (.tmp 50) 23 rfl HR_0_7_3_6_10.out rfl rfl ?_
                    refine hK.out _ _ (List.forall_mem_cons.2 ⟨⟨(V_0_7_3_6_10.out.cbox_at (i := 4) rfl).1, (V_0_7_3_6_10.out.cbox_at (i := 4) rfl).2.2⟩, List.forall_mem_cons.2 ⟨⟨(V_0_7_3_6_10.out.cbox_at (i := 4) rfl).2.1, (V_0_7_3_6_10.out.cbox_at (i := 4) rfl).2.2⟩, List.forall_mem_cons.2 ⟨⟨(V_0_7_3_6_10.out.cbox_at (i := 3) rfl).1, (V_0_7_3_6_10.out.cbox_at (i := 3) rfl).2.2⟩, fun _ h => by simp at h⟩⟩⟩) (fun hHeld => ?_)
                    clear hK K
                    try simp only [Act.put, sA, sZ, sS]
                    refine tk 11 ?_ rfl ?_ ?_; rotate_left; focus (intro w hSw; clear hSw; go_simp; try (with_reducible rfl))
                    try simp only [Act.put, sA, sZ, sS]
                    refine wpAnyH_ready (rs := [12]) (by kernel_rfl) (by simp) ?_
                    refine AllReadyH.cons (List.getElem?_toArray.trans rfl) (fun K hK => ?_) AllReadyH.nil
                    obtain ⟨w_0_7_3_6_10_12, hw_0_7_3_6_10_12⟩ : ∃ z, z = w_0_7_3_6_10.alloc (.cells #[.slice none 0 0, .slice none 0 0] 25) := ⟨_, rfl⟩
                    obtain ⟨g_0_7_3_6_10_12, hg_0_7_3_6_10_12⟩ : ∃ z, z = w_0_7_3_6_10.heap.size := ⟨_, rfl⟩
                    have V_0_7_3_6_10_12 := Lib.hid (show Hp w (cbox g_0_7_3_6_10_12 none 0 0 none 0 0 :: nums C2 m f2 X.b :: snds C1 (n + p) f1 (X.s ++ Y.s) :: cbox g2 none 0 0 none 0 0 :: cbox g1 P p e Q q f :: cbox g0 A n c B m d :: []) w_0_7_3_6_10_12 by rw [hw_0_7_3_6_10_12, hg_0_7_3_6_10_12]; exact V_0_7_3_6_10.out.cbox_new none 0 0 none 0 0)
                    have B_0_7_3_6_10_12 := Lib.hid (show Below w_0_7_3_6_10.heap.size w_0_7_3_6_10 w_0_7_3_6_10_12 by rw [hw_0_7_3_6_10_12]; exact bnew _ _)
                    have HW_0_7_3_6_10_12 := Lib.hid hw_0_7_3_6_10_12
                    have HG_0_7_3_6_10_12 := Lib.hid hg_0_7_3_6_10_12
                    clear hw_0_7_3_6_10_12 hg_0_7_3_6_10_12
                    go_simp
                    try rw [← HW_0_7_3_6_10_12.out]
                    try rw [← HG_0_7_3_6_10_12.out]
                    refine hK.out _ _ (hHeld.go B_0_7_3_6_10_12.out) (fun hHeld => ?_)
                    clear hK K
                    try simp only [Act.put, sA, sZ, sS]
                    refine wpAnyH_ready (rs := [13]) (by kernel_rfl) (by simp) ?_
                    refine AllReadyH.cons (List.getElem?_toArray.trans rfl) (fun K hK => ?_) AllReadyH.nil
                    obtain ⟨⟨s0, s1, s2⟩, s3, s4⟩ := V_0_7_3_6_10_12.out.cbox_st (i := 0) rfl
                    have VX := Lib.hid (V_0_7_3_6_10_12.out.cbox_set (i := 0) rfl C1 (n + p) f1 C2 m f2)
                    go_simp
                    refine hK.out _ _ (List.forall_mem_cons.2 ⟨⟨(VX.out.cbox_at (i := 5) rfl).1, (VX.out.cbox_at (i := 5) rfl).2.2⟩, List.forall_mem_cons.2 ⟨⟨(VX.out.cbox_at (i := 5) rfl).2.1, (VX.out.cbox_at (i := 5) rfl).2.2⟩, List.forall_mem_cons.2 ⟨⟨(VX.out.cbox_at (i := 4) rfl).1, (VX.out.cbox_at (i := 4) rfl).2.2⟩, fun _ h => by simp at h⟩⟩⟩) (fun hHeld => ?_)
                    clear hK K
                    try simp only [Act.put, sA, sZ, sS]
                    refine wpAnyH_done (by kernel_rfl) ?_ _
                    clear hHeld
                    go_wp2_with fail
                    go_meet
                    exact ⟨_, _, _, _, _, rfl, VX.out.pick [0, 1, 2, 3, 4, 5] (by decide) rfl⟩
                  refine AllReadyH.cons (List.getElem?_toArray.trans rfl) (fun K hK => ?_) ?_
                  · obtain ⟨w_0_7_3_6_12, hw_0_7_3_6_12⟩ : ∃ z, z = w_0_7_3_6.alloc (.cells #[.slice none 0 0, .slice none 0 0] 25) := ⟨_, rfl⟩
                    obtain ⟨g_0_7_3_6_12, hg_0_7_3_6_12⟩ : ∃ z, z = w_0_7_3_6.heap.size := ⟨_, rfl⟩
                    have V_0_7_3_6_12 := Lib.hid (show Hp w (cbox g_0_7_3_6_12 none 0 0 none 0 0 :: nums (some ⟨g_0_7, 0, none⟩) 0 0 [] :: snds C1 (n + p) f1 (X.s ++ Y.s) :: cbox g2 none 0 0 none 0 0 :: cbox g1 P p e Q q f :: cbox g0 A n c B m d :: []) w_0_7_3_6_12 by rw [hw_0_7_3_6_12, hg_0_7_3_6_12]; exact V_0_7_3_6.out.cbox_new none 0 0 none 0 0)
                    have B_0_7_3_6_12 := Lib.hid (show Below w_0_7_3_6.heap.size w_0_7_3_6 w_0_7_3_6_12 by rw [hw_0_7_3_6_12]; exact bnew _ _)
                    have HW_0_7_3_6_12 := Lib.hid hw_0_7_3_6_12
                    have HG_0_7_3_6_12 := Lib.hid hg_0_7_3_6_12
                    clear hw_0_7_3_6_12 hg_0_7_3_6_12
                    go_simp
                    try rw [← HW_0_7_3_6_12.out]
                    try rw [← HG_0_7_3_6_12.out]
                    refine hK.out _ _ (hHeld.go B_0_7_3_6_12.out) (fun hHeld => ?_)
                    clear hK K
                    try simp only [Act.put, sA, sZ, sS]
                    refine wpAnyH_ready (rs := [10]) (by kernel_rfl) (by simp) ?_
                    refine AllReadyH.cons (List.getElem?_toArray.trans rfl) (fun K hK => ?_) AllReadyH.nil
                    obtain ⟨C2, f2, w_0_7_3_6_12_10, hr_0_7_3_6_12_10, hv_0_7_3_6_12_10, _⟩ := run_cat_nums V_0_7_3_6_12.out (i := 1) rfl 23 X.b HX.out.lb (HX.out.cb.below V_0_7_3_6_12.out.below) (by omega) (by omega)
                    rw [Nat.zero_add] at hr_0_7_3_6_12_10 hv_0_7_3_6_12_10
                    have HR_0_7_3_6_12_10 := Lib.hid hr_0_7_3_6_12_10
                    have V_0_7_3_6_12_10 := Lib.hid (show Hp w (cbox g_0_7_3_6_12 none 0 0 none 0 0 :: nums C2 m f2 X.b :: snds C1 (n + p) f1 (X.s ++ Y.s) :: cbox g2 none 0 0 none 0 0 :: cbox g1 P p e Q q f :: cbox g0 A n c B m d :: []) w_0_7_3_6_12_10 from hv_0_7_3_6_12_10)
                    clear hr_0_7_3_6_12_10 hv_0_7_3_6_12_10
                    refine step_app_run rfl (.tmp 48) (.tmp 50) 23 rfl HR_0_7_3_6_12_10.out rfl rfl ?_
                    refine hK.out _ _ (List.forall_mem_cons.2 ⟨⟨(V_0_7_3_6_12_10.out.cbox_at (i := 5) rfl).1, (V_0_7_3_6_12_10.out.cbox_at (i := 5) rfl).2.2⟩, List.forall_mem_cons.2 ⟨⟨(V_0_7_3_6_12_10.out.cbox_at (i := 5) rfl).2.1, (V_0_7_3_6_12_10.out.cbox_at (i := 5) rfl).2.2⟩, List.forall_mem_cons.2 ⟨⟨(V_0_7_3_6_12_10.out.cbox_at (i := 4) rfl).1, (V_0_7_3_6_12_10.out.cbox_at (i := 4) rfl).2.2⟩, fun _ h => by simp at h⟩⟩⟩) (fun hHeld => ?_)
                    clear hK K
                    try simp only [Act.put, sA, sZ, sS]
                    refine tk 11 ?_ rfl ?_ ?_; rotate_left; focus (intro w hSw; clear hSw; go_simp; try (with_reducible rfl))
                    try simp only [Act.put, sA, sZ, sS]
                    refine wpAnyH_ready (rs := [13]) (by kernel_rfl) (by simp) ?_
                    refine AllReadyH.cons (List.getElem?_toArray.trans rfl) (fun K hK => ?_) AllReadyH.nil
                    obtain ⟨⟨s0, s1, s2⟩, s3, s4⟩ := V_0_7_3_6_12_10.out.cbox_st (i := 0) rfl
                    have VX := Lib.hid (V_0_7_3_6_12_10.out.cbox_set (i := 0) rfl C1 (n + p) f1 C2 m f2)
                    go_simp
                    refine hK.out _ _ (List.forall_mem_cons.2 ⟨⟨(VX.out.cbox_at (i := 5) rfl).1, (VX.out.cbox_at (i := 5) rfl).2.2⟩, List.forall_mem_cons.2 ⟨⟨(VX.out.cbox_at (i := 5) rfl).2.1, (VX.out.cbox_at (i := 5) rfl).2.2⟩, List.forall_mem_cons.2 ⟨⟨(VX.out.cbox_at (i := 4) rfl).1, (VX.out.cbox_at (i := 4) rfl).2.2⟩, fun _ h => by simp at h⟩⟩⟩) (fun hHeld => ?_)
                    clear hK K
                    try simp only [Act.put, sA, sZ, sS]
                    refine wpAnyH_done (by kernel_rfl) ?_ _
                    clear hHeld
                    go_wp2_with fail
                    go_meet
                    exact ⟨_, _, _, _, _, rfl, VX.out.pick [0, 1, 2, 3, 4, 5] (by decide) rfl⟩
                  exact AllReadyH.nil
                refine AllReadyH.cons (List.getElem?_toArray.trans rfl) (fun K hK => ?_) ?_
                · obtain ⟨w_0_7_3_12, hw_0_7_3_12⟩ : ∃ z, z = w_0_7_3.alloc (.cells #[.slice none 0 0, .slice none 0 0] 25) := ⟨_, rfl⟩
                  obtain ⟨g_0_7_3_12, hg_0_7_3_12⟩ : ∃ z, z = w_0_7_3.heap.size := ⟨_, rfl⟩
                  have V_0_7_3_12 := Lib.hid (show Hp w (cbox g_0_7_3_12 none 0 0 none 0 0 :: nums (some ⟨g_0_7, 0, none⟩) 0 0 [] :: snds Ca n fa X.s :: cbox g2 none 0 0 none 0 0 :: cbox g1 P p e Q q f :: cbox g0 A n c B m d :: []) w_0_7_3_12 by rw [hw_0_7_3_12, hg_0_7_3_12]; exact V_0_7_3.out.cbox_new none 0 0 none 0 0)
                  have B_0_7_3_12 := Lib.hid (show Below w_0_7_3.heap.size w_0_7_3 w_0_7_3_12 by rw [hw_0_7_3_12]; exact bnew _ _)
                  have HW_0_7_3_12 := Lib.hid hw_0_7_3_12
                  have HG_0_7_3_12 := Lib.hid hg_0_7_3_12
                  clear hw_0_7_3_12 hg_0_7_3_12
                  go_simp
                  try rw [← HW_0_7_3_12.out]
                  try rw [← HG_0_7_3_12.out]
                  refine hK.out _ _ (hHeld.go B_0_7_3_12.out) (fun hHeld => ?_)
                  clear hK K
                  try simp only [Act.put, sA, sZ, sS]
                  refine wpAnyH_ready (rs := [6]) (by kernel_rfl) (by simp) ?_
                  refine AllReadyH.cons (List.getElem?_toArray.trans rfl) (fun K hK => ?_) AllReadyH.nil
                  obtain ⟨C1, f1, w_0_7_3_12_6, hr_0_7_3_12_6, hv_0_7_3_12_6, _⟩ := run_cat_snds V_0_7_3_12.out (i := 2) rfl 22 Y.s HY.out.ls (HY.out.cs.below V_0_7_3_12.out.below) (by omega) (by omega)
                  have HR_0_7_3_12_6 := Lib.hid hr_0_7_3_12_6
                  have V_0_7_3_12_6 := Lib.hid (show Hp w (cbox g_0_7_3_12 none 0 0 none 0 0 :: nums (some ⟨g_0_7, 0, none⟩) 0 0 [] :: snds C1 (n + p) f1 (X.s ++ Y.s) :: cbox g2 none 0 0 none 0 0 :: cbox g1 P p e Q q f :: cbox g0 A n c B m d :: []) w_0_7_3_12_6 from hv_0_7_3_12_6)
                  clear hr_0_7_3_12_6 hv_0_7_3_12_6
                  refine step_app_run rfl (.tmp 44) (.tmp 46) 22 rfl HR_0_7_3_12_6.out rfl rfl ?_
                  refine hK.out _ _ (List.forall_mem_cons.2 ⟨⟨(V_0_7_3_12_6.out.cbox_at (i := 5) rfl).1, (V_0_7_3_12_6.out.cbox_at (i := 5) rfl).2.2⟩, List.forall_mem_cons.2 ⟨⟨(V_0_7_3_12_6.out.cbox_at (i := 5) rfl).2.1, (V_0_7_3_12_6.out.cbox_at (i := 5) rfl).2.2⟩, List.forall_mem_cons.2 ⟨⟨(V_0_7_3_12_6.out.cbox_at (i := 4) rfl).1, (V_0_7_3_12_6.out.cbox_at (i := 4) rfl).2.2⟩, fun _ h => by simp at h⟩⟩⟩) (fun hHeld => ?_)
                  clear hK K
                  try simp only [Act.put, sA, sZ, sS]
                  refine wpAnyH_ready (rs := [10]) (by kernel_rfl) (by simp) ?_
                  refine AllReadyH.cons (List.getElem?_toArray.trans rfl) (fun K hK => ?_) AllReadyH.nil
                  obtain ⟨C2, f2, w_0_7_3_12_6_10, hr_0_7_3_12_6_10, hv_0_7_3_12_6_10, _⟩ := run_cat_nums V_0_7_3_12_6.out (i := 1) rfl 23 X.b HX.out.lb (HX.out.cb.below V_0_7_3_12_6.out.below) (by omega) (by omega)
                  rw [Nat.zero_add] at hr_0_7_3_12_6_10 hv_0_7_3_12_6_10
                  have HR_0_7_3_12_6_10 := Lib.hid hr_0_7_3_12_6_10
                  have V_0_7_3_12_6_10 := Lib.hid (show Hp w (cbox g_0_7_3_12 none 0 0 none 0 0 :: nums C2 m f2 X.b :: snds C1 (n + p) f1 (X.s ++ Y.s) :: cbox g2 none 0 0 none 0 0 :: cbox g1 P p e Q q f :: cbox g0 A n c B m d :: []) w_0_7_3_12_6_10 from hv_0_7_3_12_6_10)
                  clear hr_0_7_3_12_6_10 hv_0_7_3_12_6_10
                  refine step_app_run rfl (.tmp 48) (.tmp 50) 23 rfl HR_0_7_3_12_6_10.out rfl rfl ?_
                  refine hK.out _ _ (List.forall_mem_cons.2 ⟨⟨(V_0_7_3_12_6_10.out.cbox_at (i := 5) rfl).1, (V_0_7_3_12_6_10.out.cbox_at (i := 5) rfl).2.2⟩, List.forall_mem_cons.2 ⟨⟨(V_0_7_3_12_6_10.out.cbox_at (i := 5) rfl).2.1, (V_0_7_3_12_6_10.out.cbox_at (i := 5) rfl).2.2⟩, List.forall_mem_cons.2 ⟨⟨(V_0_7_3_12_6_10.out.cbox_at (i := 4) rfl).1, (V_0_7_3_12_6_10.out.cbox_at (i := 4) rfl).2.2⟩, fun _ h => by simp at h⟩⟩⟩) (fun hHeld => ?_)
                  clear hK K
                  try simp only [Act.put, sA, sZ, sS]
                  refine tk 11 ?_ rfl ?_ ?_; rotate_left; focus (intro w hSw; clear hSw; go_simp; try (with_reducible rfl))
                  try simp only [Act.put, sA, sZ, sS]
                  refine wpAnyH_ready (rs := [13]) (by kernel_rfl) (by simp) ?_
                  refine AllReadyH.cons (List.getElem?_toArray.trans rfl) (fun K hK => ?_) AllReadyH.nil
                  obtain ⟨⟨s0, s1, s2⟩, s3, s4⟩ := V_0_7_3_12_6_10.out.cbox_st (i := 0) rfl
                  have VX := Lib.hid (V_0_7_3_12_6_10.out.cbox_set (i := 0) rfl C1 (n + p) f1 C2 m f2)
                  go_simp
                  refine hK.out _ _ (List.forall_mem_cons.2 ⟨⟨(VX.out.cbox_at (i := 5) rfl).1, (VX.out.cbox_at (i := 5) rfl).2.2⟩, List.forall_mem_cons.2 ⟨⟨(VX.out.cbox_at (i := 5) rfl).2.1, (VX.out.cbox_at (i := 5) rfl).2.2⟩, List.forall_mem_cons.2 ⟨⟨(VX.out.cbox_at (i := 4) rfl).1, (VX.out.cbox_at (i := 4) rfl).2.2⟩, fun _ h => by simp at h⟩⟩⟩) (fun hHeld => ?_)
                  clear hK K
                  try simp only [Act.put, sA, sZ, sS]
                  refine wpAnyH_done (by kernel_rfl) ?_ _
                  clear hHeld
                  go_wp2_with fail
                  go_meet
                  exact ⟨_, _, _, _, _, rfl, VX.out.pick [0, 1, 2, 3, 4, 5] (by decide) rfl⟩
                exact AllReadyH.nil
              refine AllReadyH.cons (List.getElem?_toArray.trans rfl) (fun K hK => ?_) ?_
              · obtain ⟨w_0_7_12, hw_0_7_12⟩ : ∃ z, z = w_0_7.alloc (.cells #[.slice none 0 0, .slice none 0 0] 25) := ⟨_, rfl⟩
                obtain ⟨g_0_7_12, hg_0_7_12⟩ : ∃ z, z = w_0_7.heap.size := ⟨_, rfl⟩
                have V_0_7_12 := Lib.hid (show Hp w (cbox g_0_7_12 none 0 0 none 0 0 :: nums (some ⟨g_0_7, 0, none⟩) 0 0 [] :: snds (some ⟨g_0, 0, none⟩) 0 0 [] :: cbox g2 none 0 0 none 0 0 :: cbox g1 P p e Q q f :: cbox g0 A n c B m d :: []) w_0_7_12 by rw [hw_0_7_12, hg_0_7_12]; exact V_0_7.out.cbox_new none 0 0 none 0 0)
                have B_0_7_12 := Lib.hid (show Below w_0_7.heap.size w_0_7 w_0_7_12 by rw [hw_0_7_12]; exact bnew _ _)
                have HW_0_7_12 := Lib.hid hw_0_7_12
                have HG_0_7_12 := Lib.hid hg_0_7_12
                clear hw_0_7_12 hg_0_7_12
                go_simp
                try rw [← HW_0_7_12.out]
                try rw [← HG_0_7_12.out]
                refine hK.out _ _ (hHeld.go B_0_7_12.out) (fun hHeld => ?_)
                clear hK K
                try simp only [Act.put, sA, sZ, sS]
                refine wpAnyH_ready (rs := [3]) (by kernel_rfl) (by simp) ?_
                refine AllReadyH.cons (List.getElem?_toArray.trans rfl) (fun K hK => ?_) AllReadyH.nil
                obtain ⟨Ca, fa, w_0_7_12_3, hr_0_7_12_3, hv_0_7_12_3, _⟩ := run_cat_snds V_0_7_12.out (i := 2) rfl 22 X.s HX.out.ls (HX.out.cs.below V_0_7_12.out.below) (by omega) (by omega)
                rw [Nat.zero_add] at hr_0_7_12_3 hv_0_7_12_3
                have HR_0_7_12_3 := Lib.hid hr_0_7_12_3
                have V_0_7_12_3 := Lib.hid (show Hp w (cbox g_0_7_12 none 0 0 none 0 0 :: nums (some ⟨g_0_7, 0, none⟩) 0 0 [] :: snds Ca n fa X.s :: cbox g2 none 0 0 none 0 0 :: cbox g1 P p e Q q f :: cbox g0 A n c B m d :: []) w_0_7_12_3 from hv_0_7_12_3)
                clear hr_0_7_12_3 hv_0_7_12_3
                refine step_app_run rfl (.tmp 41) (.tmp 43) 22 rfl HR_0_7_12_3.out rfl rfl ?_
                refine hK.out _ _ (List.forall_mem_cons.2 ⟨⟨(V_0_7_12_3.out.cbox_at (i := 5) rfl).1, (V_0_7_12_3.out.cbox_at (i := 5) rfl).2.2⟩, List.forall_mem_cons.2 ⟨⟨(V_0_7_12_3.out.cbox_at (i := 5) rfl).2.1, (V_0_7_12_3.out.cbox_at (i := 5) rfl).2.2⟩, List.forall_mem_cons.2 ⟨⟨(V_0_7_12_3.out.cbox_at (i := 4) rfl).1, (V_0_7_12_3.out.cbox_at (i := 4) rfl).2.2⟩, fun _ h => by simp at h⟩⟩⟩) (fun hHeld => ?_)
                clear hK K
                try simp only [Act.put, sA, sZ, sS]
                refine wpAnyH_ready (rs := [6]) (by kernel_rfl) (by simp) ?_
                refine AllReadyH.cons (List.getElem?_toArray.trans rfl) (fun K hK => ?_) AllReadyH.nil
                obtain ⟨C1, f1, w_0_7_12_3_6, hr_0_7_12_3_6, hv_0_7_12_3_6, _⟩ := run_cat_snds V_0_7_12_3.out (i := 2) rfl 22 Y.s HY.out.ls (HY.out.cs.below V_0_7_12_3.out.below) (by omega) (by omega)
                have HR_0_7_12_3_6 := Lib.hid hr_0_7_12_3_6
                have V_0_7_12_3_6 := Lib.hid (show Hp w (cbox g_0_7_12 none 0 0 none 0 0 :: nums (some ⟨g_0_7, 0, none⟩) 0 0 [] :: snds C1 (n + p) f1 (X.s ++ Y.s) :: cbox g2 none 0 0 none 0 0 :: cbox g1 P p e Q q f :: cbox g0 A n c B m d :: []) w_0_7_12_3_6 from hv_0_7_12_3_6)
                clear hr_0_7_12_3_6 hv_0_7_12_3_6
                refine step_app_run rfl (.tmp 44) (.tmp 46) 22 rfl HR_0_7_12_3_6.out rfl rfl ?_
                refine hK.out _ _ (List.forall_mem_cons.2 ⟨⟨(V_0_7_12_3_6.out.cbox_at (i := 5) rfl).1, (V_0_7_12_3_6.out.cbox_at (i := 5) rfl).2.2⟩, List.forall_mem_cons.2 ⟨⟨(V_0_7_12_3_6.out.cbox_at (i := 5) rfl).2.1, (V_0_7_12_3_6.out.cbox_at (i := 5) rfl).2.2⟩, List.forall_mem_cons.2 ⟨⟨(V_0_7_12_3_6.out.cbox_at (i := 4) rfl).1, (V_0_7_12_3_6.out.cbox_at (i := 4) rfl).2.2⟩, fun _ h => by simp at h⟩⟩⟩) (fun hHeld => ?_)
                clear hK K
                try simp only [Act.put, sA, sZ, sS]
                refine wpAnyH_ready (rs := [10]) (by kernel_rfl) (by simp) ?_
                refine AllReadyH.cons (List.getElem?_toArray.trans rfl) (fun K hK => ?_) AllReadyH.nil
                obtain ⟨C2, f2, w_0_7_12_3_6_10, hr_0_7_12_3_6_10, hv_0_7_12_3_6_10, _⟩ := run_cat_nums V_0_7_12_3_6.out (i := 1) rfl 23 X.b HX.out.lb (HX.out.cb.below V_0_7_12_3_6.out.below) (by omega) (by omega)
                rw [Nat.zero_add] at hr_0_7_12_3_6_10 hv_0_7_12_3_6_10
                have HR_0_7_12_3_6_10 := Lib.hid hr_0_7_12_3_6_10
                have V_0_7_12_3_6_10 := Lib.hid (show Hp w (cbox g_0_7_12 none 0 0 none 0 0 :: nums C2 m f2 X.b :: snds C1 (n + p) f1 (X.s ++ Y.s) :: cbox g2 none 0 0 none 0 0 :: cbox g1 P p e Q q f :: cbox g0 A n c B m d :: []) w_0_7_12_3_6_10 from hv_0_7_12_3_6_10)
                clear hr_0_7_12_3_6_10 hv_0_7_12_3_6_10
                refine step_app_run rfl (.tmp 48) (.tmp 50) 23 rfl HR_0_7_12_3_6_10.out rfl rfl ?_
                refine hK.out _ _ (List.forall_mem_cons.2 ⟨⟨(V_0_7_12_3_6_10.out.cbox_at (i := 5) rfl).1, (V_0_7_12_3_6_10.out.cbox_at (i := 5) rfl).2.2⟩, List.forall_mem_cons.2 ⟨⟨(V_0_7_12_3_6_10.out.cbox_at (i := 5) rfl).2.1, (V_0_7_12_3_6_10.out.cbox_at (i := 5) rfl).2.2⟩, List.forall_mem_cons.2 ⟨⟨(V_0_7_12_3_6_10.out.cbox_at (i := 4) rfl).1, (V_0_7_12_3_6_10.out.cbox_at (i := 4) rfl).2.2⟩, fun _ h => by simp at h⟩⟩⟩) (fun hHeld => ?_)
                clear hK K
                try simp only [Act.put, sA, sZ, sS]
                refine tk 11 ?_ rfl ?_ ?_; rotate_left; focus (intro w hSw; clear hSw; go_simp; try (with_reducible rfl))
                try simp only [Act.put, sA, sZ, sS]
                refine wpAnyH_ready (rs := [13]) (by kernel_rfl) (by simp) ?_
                refine AllReadyH.cons (List.getElem?_toArray.trans rfl) (fun K hK => ?_) AllReadyH.nil
                obtain ⟨⟨s0, s1, s2⟩, s3, s4⟩ := V_0_7_12_3_6_10.out.cbox_st (i := 0) rfl
                have VX := Lib.hid (V_0_7_12_3_6_10.out.cbox_set (i := 0) rfl C1 (n + p) f1 C2 m f2)
                go_simp
                refine hK.out _ _ (List.forall_mem_cons.2 ⟨⟨(VX.out.cbox_at (i := 5) rfl).1, (VX.out.cbox_at (i := 5) rfl).2.2⟩, List.forall_mem_cons.2 ⟨⟨(VX.out.cbox_at (i := 5) rfl).2.1, (VX.out.cbox_at (i := 5) rfl).2.2⟩, List.forall_mem_cons.2 ⟨⟨(VX.out.cbox_at (i := 4) rfl).1, (VX.out.cbox_at (i := 4) rfl).2.2⟩, fun _ h => by simp at h⟩⟩⟩) (fun hHeld => ?_)
                clear hK K
                try simp only [Act.put, sA, sZ, sS]
                refine wpAnyH_done (by kernel_rfl) ?_ _
                clear hHeld
                go_wp2_with fail
                go_meet
                exact ⟨_, _, _, _, _, rfl, VX.out.pick [0, 1, 2, 3, 4, 5] (by decide) rfl⟩
              exact AllReadyH.nil
            refine AllReadyH.cons (List.getElem?_toArray.trans rfl) (fun K hK => ?_) ?_
            · obtain ⟨w_0_12, hw_0_12⟩ : ∃ z, z = w_0.alloc (.cells #[.slice none 0 0, .slice none 0 0] 25) := ⟨_, rfl⟩
              obtain ⟨g_0_12, hg_0_12⟩ : ∃ z, z = w_0.heap.size := ⟨_, rfl⟩
              have V_0_12 := Lib.hid (show Hp w (cbox g_0_12 none 0 0 none 0 0 :: snds (some ⟨g_0, 0, none⟩) 0 0 [] :: cbox g2 none 0 0 none 0 0 :: cbox g1 P p e Q q f :: cbox g0 A n c B m d :: []) w_0_12 by rw [hw_0_12, hg_0_12]; exact V_0.out.cbox_new none 0 0 none 0 0)
              have B_0_12 := Lib.hid (show Below w_0.heap.size w_0 w_0_12 by rw [hw_0_12]; exact bnew _ _)
              have HW_0_12 := Lib.hid hw_0_12
              have HG_0_12 := Lib.hid hg_0_12
              clear hw_0_12 hg_0_12
              go_simp
              try rw [← HW_0_12.out]
              try rw [← HG_0_12.out]
              refine hK.out _ _ (hHeld.go B_0_12.out) (fun hHeld => ?_)
              clear hK K
              try simp only [Act.put, sA, sZ, sS]
              refine wpAnyH_ready (rs := [3, 7]) (by kernel_rfl) (by simp) ?_
              refine AllReadyH.cons (List.getElem?_toArray.trans rfl) (fun K hK => ?_) ?_
              · obtain ⟨Ca, fa, w_0_12_3, hr_0_12_3, hv_0_12_3, _⟩ := run_cat_snds V_0_12.out (i := 1) rfl 22 X.s HX.out.ls (HX.out.cs.below V_0_12.out.below) (by omega) (by omega)
                rw [Nat.zero_add] at hr_0_12_3 hv_0_12_3
                have HR_0_12_3 := Lib.hid hr_0_12_3
                have V_0_12_3 := Lib.hid (show Hp w (cbox g_0_12 none 0 0 none 0 0 :: snds Ca n fa X.s :: cbox g2 none 0 0 none 0 0 :: cbox g1 P p e Q q f :: cbox g0 A n c B m d :: []) w_0_12_3 from hv_0_12_3)
                clear hr_0_12_3 hv_0_12_3
                refine step_app_run rfl (.tmp 41) (.tmp 43) 22 rfl HR_0_12_3.out rfl rfl ?_
                refine hK.out _ _ (List.forall_mem_cons.2 ⟨⟨(V_0_12_3.out.cbox_at (i := 4) rfl).1, (V_0_12_3.out.cbox_at (i := 4) rfl).2.2⟩, List.forall_mem_cons.2 ⟨⟨(V_0_12_3.out.cbox_at (i := 4) rfl).2.1, (V_0_12_3.out.cbox_at (i := 4) rfl).2.2⟩, List.forall_mem_cons.2 ⟨⟨(V_0_12_3.out.cbox_at (i := 3) rfl).1, (V_0_12_3.out.cbox_at (i := 3) rfl).2.2⟩, fun _ h => by simp at h⟩⟩⟩) (fun hHeld => ?_)
                clear hK K
                try simp only [Act.put, sA, sZ, sS]
                refine wpAnyH_ready (rs := [6, 7]) (by kernel_rfl) (by simp) ?_
                refine AllReadyH.cons (List.getElem?_toArray.trans rfl) (fun K hK => ?_) ?_
                · obtain ⟨C1, f1, w_0_12_3_6, hr_0_12_3_6, hv_0_12_3_6, _⟩ := run_cat_snds V_0_12_3.out (i := 1) rfl 22 Y.s HY.out.ls (HY.out.cs.below V_0_12_3.out.below) (by omega) (by omega)
                  have HR_0_12_3_6 := Lib.hid hr_0_12_3_6
                  have V_0_12_3_6 := Lib.hid (show Hp w (cbox g_0_12 none 0 0 none 0 0 :: snds C1 (n + p) f1 (X.s ++ Y.s) :: cbox g2 none 0 0 none 0 0 :: cbox g1 P p e Q q f :: cbox g0 A n c B m d :: []) w_0_12_3_6 from hv_0_12_3_6)
                  clear hr_0_12_3_6 hv_0_12_3_6
                  refine step_app_run rfl (.tmp 44) (.tmp 46) 22 rfl HR_0_12_3_6.out rfl rfl ?_
                  refine hK.out _ _ (List.forall_mem_cons.2 ⟨⟨(V_0_12_3_6.out.cbox_at (i := 4) rfl).1, (V_0_12_3_6.out.cbox_at (i := 4) rfl).2.2⟩, List.forall_mem_cons.2 ⟨⟨(V_0_12_3_6.out.cbox_at (i := 4) rfl).2.1, (V_0_12_3_6.out.cbox_at (i := 4) rfl).2.2⟩, List.forall_mem_cons.2 ⟨⟨(V_0_12_3_6.out.cbox_at (i := 3) rfl).1, (V_0_12_3_6.out.cbox_at (i := 3) rfl).2.2⟩, fun _ h => by simp at h⟩⟩⟩) (fun hHeld => ?_)
                  clear hK K
                  try simp only [Act.put, sA, sZ, sS]
                  refine wpAnyH_ready (rs := [7]) (by kernel_rfl) (by simp) ?_
                  refine AllReadyH.cons (List.getElem?_toArray.trans rfl) (fun K hK => ?_) AllReadyH.nil
                  obtain ⟨w_0_12_3_6_7, hw_0_12_3_6_7⟩ : ∃ z, z = w_0_12_3_6.alloc (.cells #[] 3) := ⟨_, rfl⟩
                  obtain ⟨g_0_12_3_6_7, hg_0_12_3_6_7⟩ : ∃ z, z = w_0_12_3_6.heap.size := ⟨_, rfl⟩
                  have V_0_12_3_6_7 := Lib.hid (show Hp w (nums (some ⟨g_0_12_3_6_7, 0, none⟩) 0 0 [] :: cbox g_0_12 none 0 0 none 0 0 :: snds C1 (n + p) f1 (X.s ++ Y.s) :: cbox g2 none 0 0 none 0 0 :: cbox g1 P p e Q q f :: cbox g0 A n c B m d :: []) w_0_12_3_6_7 by rw [hw_0_12_3_6_7, hg_0_12_3_6_7]; exact V_0_12_3_6.out.lit 3 1 0 [] rfl (by decide))
                  have B_0_12_3_6_7 := Lib.hid (show Below w_0_12_3_6.heap.size w_0_12_3_6 w_0_12_3_6_7 by rw [hw_0_12_3_6_7]; exact bnew _ _)
                  have HW_0_12_3_6_7 := Lib.hid hw_0_12_3_6_7
                  have HG_0_12_3_6_7 := Lib.hid hg_0_12_3_6_7
                  clear hw_0_12_3_6_7 hg_0_12_3_6_7
                  go_simp
                  try rw [← HW_0_12_3_6_7.out]
                  try rw [← HG_0_12_3_6_7.out]
                  refine hK.out _ _ (hHeld.go B_0_12_3_6_7.out) (fun hHeld => ?_)
                  clear hK K
                  try simp only [Act.put, sA, sZ, sS]
                  refine wpAnyH_ready (rs := [10]) (by kernel_rfl) (by simp) ?_
                  refine AllReadyH.cons (List.getElem?_toArray.trans rfl) (fun K hK => ?_) AllReadyH.nil
                  obtain ⟨C2, f2, w_0_12_3_6_7_10, hr_0_12_3_6_7_10, hv_0_12_3_6_7_10, _⟩ := run_cat_nums V_0_12_3_6_7.out (i := 0) rfl 23 X.b HX.out.lb (HX.out.cb.below V_0_12_3_6_7.out.below) (by omega) (by omega)
                  rw [Nat.zero_add] at hr_0_12_3_6_7_10 hv_0_12_3_6_7_10
                  have HR_0_12_3_6_7_10 := Lib.hid hr_0_12_3_6_7_10
                  have V_0_12_3_6_7_10 := Lib.hid (show Hp w (nums C2 m f2 X.b :: cbox g_0_12 none 0 0 none 0 0 :: snds C1 (n + p) f1 (X.s ++ Y.s) :: cbox g2 none 0 0 none 0 0 :: cbox g1 P p e Q q f :: cbox g0 A n c B m d :: []) w_0_12_3_6_7_10 from hv_0_12_3_6_7_10)
                  clear hr_0_12_3_6_7_10 hv_0_12_3_6_7_10
                  refine step_app_run rfl (.tmp 48) (.tmp 50) 23 rfl HR_0_12_3_6_7_10.out rfl rfl ?_
                  refine hK.out _ _ (List.forall_mem_cons.2 ⟨⟨(V_0_12_3_6_7_10.out.cbox_at (i := 5) rfl).1, (V_0_12_3_6_7_10.out.cbox_at (i := 5) rfl).2.2⟩, List.forall_mem_cons.2 ⟨⟨(V_0_12_3_6_7_10.out.cbox_at (i := 5) rfl).2.1, (V_0_12_3_6_7_10.out.cbox_at (i := 5) rfl).2.2⟩, List.forall_mem_cons.2 ⟨⟨(V_0_12_3_6_7_10.out.cbox_at (i := 4) rfl).1, (V_0_12_3_6_7_10.out.cbox_at (i := 4) rfl).2.2⟩, fun _ h => by simp at h⟩⟩⟩) (fun hHeld => ?_)
                  clear hK K
                  try simp only [Act.put, sA, sZ, sS]
                  refine tk 11 ?_ rfl ?_ ?_; rotate_left; focus (intro w hSw; clear hSw; go_simp; try (with_reducible rfl))
                  try simp only [Act.put, sA, sZ, sS]
                  refine wpAnyH_ready (rs := [13]) (by kernel_rfl) (by simp) ?_
                  refine AllReadyH.cons (List.getElem?_toArray.trans rfl) (fun K hK => ?_) AllReadyH.nil
                  obtain ⟨⟨s0, s1, s2⟩, s3, s4⟩ := V_0_12_3_6_7_10.out.cbox_st (i := 1) rfl
                  have VX := Lib.hid (V_0_12_3_6_7_10.out.cbox_set (i := 1) rfl C1 (n + p) f1 C2 m f2)
                  go_simp
                  refine hK.out _ _ (List.forall_mem_cons.2 ⟨⟨(VX.out.cbox_at (i := 5) rfl).1, (VX.out.cbox_at (i := 5) rfl).2.2⟩, List.forall_mem_cons.2 ⟨⟨(VX.out.cbox_at (i := 5) rfl).2.1, (VX.out.cbox_at (i := 5) rfl).2.2⟩, List.forall_mem_cons.2 ⟨⟨(VX.out.cbox_at (i := 4) rfl).1, (VX.out.cbox_at (i := 4) rfl).2.2⟩, fun _ h => by simp at h⟩⟩⟩) (fun hHeld => ?_)
                  clear hK K
                  try simp only [Act.put, sA, sZ, sS]
                  refine wpAnyH_done (by kernel_rfl) ?_ _
                  clear hHeld
                  go_wp2_with fail
                  go_meet
                  exact ⟨_, _, _, _, _, rfl, VX.out.pick [1, 0, 2, 3, 4, 5] (by decide) rfl⟩
                refine AllReadyH.cons (List.getElem?_toArray.trans rfl) (fun K hK => ?_) ?_
                · obtain ⟨w_0_12_3_7, hw_0_12_3_7⟩ : ∃ z, z = w_0_12_3.alloc (.cells #[] 3) := ⟨_, rfl⟩
                  obtain ⟨g_0_12_3_7, hg_0_12_3_7⟩ : ∃ z, z = w_0_12_3.heap.size := ⟨_, rfl⟩
                  have V_0_12_3_7 := Lib.hid (show Hp w (nums (some ⟨g_0_12_3_7, 0, none⟩) 0 0 [] :: cbox g_0_12 none 0 0 none 0 0 :: snds Ca n fa X.s :: cbox g2 none 0 0 none 0 0 :: cbox g1 P p e Q q f :: cbox g0 A n c B m d :: []) w_0_12_3_7 by rw [hw_0_12_3_7, hg_0_12_3_7]; exact V_0_12_3.out.lit 3 1 0 [] rfl (by decide))
                  have B_0_12_3_7 := Lib.hid (show Below w_0_12_3.heap.size w_0_12_3 w_0_12_3_7 by rw [hw_0_12_3_7]; exact bnew _ _)
                  have HW_0_12_3_7 := Lib.hid hw_0_12_3_7
                  have HG_0_12_3_7 := Lib.hid hg_0_12_3_7
                  clear hw_0_12_3_7 hg_0_12_3_7
                  go_simp
                  try rw [← HW_0_12_3_7.out]
                  try rw [← HG_0_12_3_7.out]
                  refine hK.out _ _ (hHeld.go B_0_12_3_7.out) (fun hHeld => ?_)
                  clear hK K
                  try simp only [Act.put, sA, sZ, sS]
                  refine wpAnyH_ready (rs := [6]) (by kernel_rfl) (by simp) ?_
                  refine AllReadyH.cons (List.getElem?_toArray.trans rfl) (fun K hK => ?_) AllReadyH.nil
                  obtain ⟨C1, f1, w_0_12_3_7_6, hr_0_12_3_7_6, hv_0_12_3_7_6, _⟩ := run_cat_snds V_0_12_3_7.out (i := 2) rfl 22 Y.s HY.out.ls (HY.out.cs.below V_0_12_3_7.out.below) (by omega) (by omega)
                  have HR_0_12_3_7_6 := Lib.hid hr_0_12_3_7_6
                  have V_0_12_3_7_6 := Lib.hid (show Hp w (nums (some ⟨g_0_12_3_7, 0, none⟩) 0 0 [] :: cbox g_0_12 none 0 0 none 0 0 :: snds C1 (n + p) f1 (X.s ++ Y.s) :: cbox g2 none 0 0 none 0 0 :: cbox g1 P p e Q q f :: cbox g0 A n c B m d :: []) w_0_12_3_7_6 from hv_0_12_3_7_6)
                  clear hr_0_12_3_7_6 hv_0_12_3_7_6
                  refine step_app_run rfl (.tmp 44) (.tmp 46) 22 rfl HR_0_12_3_7_6.out rfl rfl ?_
                  refine hK.out _ _ (List.forall_mem_cons.2 ⟨⟨(V_0_12_3_7_6.out.cbox_at (i := 5) rfl).1, (V_0_12_3_7_6.out.cbox_at (i := 5) rfl).2.2⟩, List.forall_mem_cons.2 ⟨⟨(V_0_12_3_7_6.out.cbox_at (i := 5) rfl).2.1, (V_0_12_3_7_6.out.cbox_at (i := 5) rfl).2.2⟩, List.forall_mem_cons.2 ⟨⟨(V_0_12_3_7_6.out.cbox_at (i := 4) rfl).1, (V_0_12_3_7_6.out.cbox_at (i := 4) rfl).2.2⟩, fun _ h => by simp at h⟩⟩⟩) (fun hHeld => ?_)
                  clear hK K
                  try simp only [Act.put, sA, sZ, sS]
                  refine wpAnyH_ready (rs := [10]) (by kernel_rfl) (by simp) ?_
                  refine AllReadyH.cons (List.getElem?_toArray.trans rfl) (fun K hK => ?_) AllReadyH.nil
                  obtain ⟨C2, f2, w_0_12_3_7_6_10, hr_0_12_3_7_6_10, hv_0_12_3_7_6_10, _⟩ := run_cat_nums V_0_12_3_7_6.out (i := 0) rfl 23 X.b HX.out.lb (HX.out.cb.below V_0_12_3_7_6.out.below) (by omega) (by omega)
                  rw [Nat.zero_add] at hr_0_12_3_7_6_10 hv_0_12_3_7_6_10
                  have HR_0_12_3_7_6_10 := Lib.hid hr_0_12_3_7_6_10
                  have V_0_12_3_7_6_10 := Lib.hid (show Hp w (nums C2 m f2 X.b :: cbox g_0_12 none 0 0 none 0 0 :: snds C1 (n + p) f1 (X.s ++ Y.s) :: cbox g2 none 0 0 none 0 0 :: cbox g1 P p e Q q f :: cbox g0 A n c B m d :: []) w_0_12_3_7_6_10 from hv_0_12_3_7_6_10)
                  clear hr_0_12_3_7_6_10 hv_0_12_3_7_6_10
                  refine step_app_run rfl (.tmp 48) (.tmp 50) 23 rfl HR_0_12_3_7_6_10.out rfl rfl ?_
                  refine hK.out _ _ (List.forall_mem_cons.2 ⟨⟨(V_0_12_3_7_6_10.out.cbox_at (i := 5) rfl).1, (V_0_12_3_7_6_10.out.cbox_at (i := 5) rfl).2.2⟩, List.forall_mem_cons.2 ⟨⟨(V_0_12_3_7_6_10.out.cbox_at (i := 5) rfl).2.1, (V_0_12_3_7_6_10.out.cbox_at (i := 5) rfl).2.2⟩, List.forall_mem_cons.2 ⟨⟨(V_0_12_3_7_6_10.out.cbox_at (i := 4) rfl).1, (V_0_12_3_7_6_10.out.cbox_at (i := 4) rfl).2.2⟩, fun _ h => by simp at h⟩⟩⟩) (fun hHeld => ?_)
                  clear hK K
                  try simp only [Act.put, sA, sZ, sS]
                  refine tk 11 ?_ rfl ?_ ?_; rotate_left; focus (intro w hSw; clear hSw; go_simp; try (with_reducible rfl))
                  try simp only [Act.put, sA, sZ, sS]
                  refine wpAnyH_ready (rs := [13]) (by kernel_rfl) (by simp) ?_
                  refine AllReadyH.cons (List.getElem?_toArray.trans rfl) (fun K hK => ?_) AllReadyH.nil
                  obtain ⟨⟨s0, s1, s2⟩, s3, s4⟩ := V_0_12_3_7_6_10.out.cbox_st (i := 1) rfl
                  have VX := Lib.hid (V_0_12_3_7_6_10.out.cbox_set (i := 1) rfl C1 (n + p) f1 C2 m f2)
                  go_simp
                  refine hK.out _ _ (List.forall_mem_cons.2 ⟨⟨(VX.out.cbox_at (i := 5) rfl).1, (VX.out.cbox_at (i := 5) rfl).2.2⟩, List.forall_mem_cons.2 ⟨⟨(VX.out.cbox_at (i := 5) rfl).2.1, (VX.out.cbox_at (i := 5) rfl).2.2⟩, List.forall_mem_cons.2 ⟨⟨(VX.out.cbox_at (i := 4) rfl).1, (VX.out.cbox_at (i := 4) rfl).2.2⟩, fun _ h => by simp at h⟩⟩⟩) (fun hHeld => ?_)
                  clear hK K
                  try simp only [Act.put, sA, sZ, sS]
                  refine wpAnyH_done (by kernel_rfl) ?_ _
                  clear hHeld
                  go_wp2_with fail
                  go_meet
                  exact ⟨_, _, _, _, _, rfl, VX.out.pick [1, 0, 2, 3, 4, 5] (by decide) rfl⟩
                exact AllReadyH.nil
              refine AllReadyH.cons (List.getElem?_toArray.trans rfl) (fun K hK => ?_) ?_
              · obtain ⟨w_0_12_7, hw_0_12_7⟩ : ∃ z, z = w_0_12.alloc (.cells #[] 3) := ⟨_, rfl⟩
                obtain ⟨g_0_12_7, hg_0_12_7⟩ : ∃ z, z = w_0_12.heap.size := ⟨_, rfl⟩
                have V_0_12_7 := Lib.hid (show Hp w (nums (some ⟨g_0_12_7, 0, none⟩) 0 0 [] :: cbox g_0_12 none 0 0 none 0 0 :: snds (some ⟨g_0, 0, none⟩) 0 0 [] :: cbox g2 none 0 0 none 0 0 :: cbox g1 P p e Q q f :: cbox g0 A n c B m d :: []) w_0_12_7 by rw [hw_0_12_7, hg_0_12_7]; exact V_0_12.out.lit 3 1 0 [] rfl (by decide))
                have B_0_12_7 := Lib.hid (show Below w_0_12.heap.size w_0_12 w_0_12_7 by rw [hw_0_12_7]; exact bnew _ _)
                have HW_0_12_7 := Lib.hid hw_0_12_7
                have HG_0_12_7 := Lib.hid hg_0_12_7
                clear hw_0_12_7 hg_0_12_7
                go_simp
                try rw [← HW_0_12_7.out]
                try rw [← HG_0_12_7.out]
                refine hK.out _ _ (hHeld.go B_0_12_7.out) (fun hHeld => ?_)
                clear hK K
                try simp only [Act.put, sA, sZ, sS]
                refine wpAnyH_ready (rs := [3]) (by kernel_rfl) (by simp) ?_
                refine AllReadyH.cons (List.getElem?_toArray.trans rfl) (fun K hK => ?_) AllReadyH.nil
                obtain ⟨Ca, fa, w_0_12_7_3, hr_0_12_7_3, hv_0_12_7_3, _⟩ := run_cat_snds V_0_12_7.out (i := 2) rfl 22 X.s HX.out.ls (HX.out.cs.below V_0_12_7.out.below) (by omega) (by omega)
                rw [Nat.zero_add] at hr_0_12_7_3 hv_0_12_7_3
                have HR_0_12_7_3 := Lib.hid hr_0_12_7_3
                have V_0_12_7_3 := Lib.hid (show Hp w (nums (some ⟨g_0_12_7, 0, none⟩) 0 0 [] :: cbox g_0_12 none 0 0 none 0 0 :: snds Ca n fa X.s :: cbox g2 none 0 0 none 0 0 :: cbox g1 P p e Q q f :: cbox g0 A n c B m d :: []) w_0_12_7_3 from hv_0_12_7_3)
                clear hr_0_12_7_3 hv_0_12_7_3
                refine step_app_run rfl (.tmp 41) (.tmp 43) 22 rfl HR_0_12_7_3.out rfl rfl ?_
                refine hK.out _ _ (List.forall_mem_cons.2 ⟨⟨(V_0_12_7_3.out.cbox_at (i := 5) rfl).1, (V_0_12_7_3.out.cbox_at (i := 5) rfl).2.2⟩, List.forall_mem_cons.2 ⟨⟨(V_0_12_7_3.out.cbox_at (i := 5) rfl).2.1, (V_0_12_7_3.out.cbox_at (i := 5) rfl).2.2⟩, List.forall_mem_cons.2 ⟨⟨(V_0_12_7_3.out.cbox_at (i := 4) rfl).1, (V_0_12_7_3.out.cbox_at (i := 4) rfl).2.2⟩, fun _ h => by simp at h⟩⟩⟩) (fun hHeld => ?_)
                clear hK K
                try simp only [Act.put, sA, sZ, sS]
                refine wpAnyH_ready (rs := [6]) (by kernel_rfl) (by simp) ?_
                refine AllReadyH.cons (List.getElem?_toArray.trans rfl) (fun K hK => ?_) AllReadyH.nil
                obtain ⟨C1, f1, w_0_12_7_3_6, hr_0_12_7_3_6, hv_0_12_7_3_6, _⟩ := run_cat_snds V_0_12_7_3.out (i := 2) rfl 22 Y.s HY.out.ls (HY.out.cs.below V_0_12_7_3.out.below) (by omega) (by omega)
                have HR_0_12_7_3_6 := Lib.hid hr_0_12_7_3_6
                have V_0_12_7_3_6 := Lib.hid (show Hp w (nums (some ⟨g_0_12_7, 0, none⟩) 0 0 [] :: cbox g_0_12 none 0 0 none 0 0 :: snds C1 (n + p) f1 (X.s ++ Y.s) :: cbox g2 none 0 0 none 0 0 :: cbox g1 P p e Q q f :: cbox g0 A n c B m d :: []) w_0_12_7_3_6 from hv_0_12_7_3_6)
                clear hr_0_12_7_3_6 hv_0_12_7_3_6
                refine step_app_run rfl (.tmp 44) (.tmp 46) 22 rfl HR_0_12_7_3_6.out rfl rfl ?_
                refine hK.out _ _ (List.forall_mem_cons.2 ⟨⟨(V_0_12_7_3_6.out.cbox_at (i := 5) rfl).1, (V_0_12_7_3_6.out.cbox_at (i := 5) rfl).2.2⟩, List.forall_mem_cons.2 ⟨⟨(V_0_12_7_3_6.out.cbox_at (i := 5) rfl).2.1, (V_0_12_7_3_6.out.cbox_at (i := 5) rfl).2.2⟩, List.forall_mem_cons.2 ⟨⟨(V_0_12_7_3_6.out.cbox_at (i := 4) rfl).1, (V_0_12_7_3_6.out.cbox_at (i := 4) rfl).2.2⟩, fun _ h => by simp at h⟩⟩⟩) (fun hHeld => ?_)
                clear hK K
                try simp only [Act.put, sA, sZ, sS]
                refine wpAnyH_ready (rs := [10]) (by kernel_rfl) (by simp) ?_
                refine AllReadyH.cons (List.getElem?_toArray.trans rfl) (fun K hK => ?_) AllReadyH.nil
                obtain ⟨C2, f2, w_0_12_7_3_6_10, hr_0_12_7_3_6_10, hv_0_12_7_3_6_10, _⟩ := run_cat_nums V_0_12_7_3_6.out (i := 0) rfl 23 X.b HX.out.lb (HX.out.cb.below V_0_12_7_3_6.out.below) (by omega) (by omega)
                rw [Nat.zero_add] at hr_0_12_7_3_6_10 hv_0_12_7_3_6_10
                have HR_0_12_7_3_6_10 := Lib.hid hr_0_12_7_3_6_10
                have V_0_12_7_3_6_10 := Lib.hid (show Hp w (nums C2 m f2 X.b :: cbox g_0_12 none 0 0 none 0 0 :: snds C1 (n + p) f1 (X.s ++ Y.s) :: cbox g2 none 0 0 none 0 0 :: cbox g1 P p e Q q f :: cbox g0 A n c B m d :: []) w_0_12_7_3_6_10 from hv_0_12_7_3_6_10)
                clear hr_0_12_7_3_6_10 hv_0_12_7_3_6_10
                refine step_app_run rfl (.tmp 48) (.tmp 50) 23 rfl HR_0_12_7_3_6_10.out rfl rfl ?_
                refine hK.out _ _ (List.forall_mem_cons.2 ⟨⟨(V_0_12_7_3_6_10.out.cbox_at (i := 5) rfl).1, (V_0_12_7_3_6_10.out.cbox_at (i := 5) rfl).2.2⟩, List.forall_mem_cons.2 ⟨⟨(V_0_12_7_3_6_10.out.cbox_at (i := 5) rfl).2.1, (V_0_12_7_3_6_10.out.cbox_at (i := 5) rfl).2.2⟩, List.forall_mem_cons.2 ⟨⟨(V_0_12_7_3_6_10.out.cbox_at (i := 4) rfl).1, (V_0_12_7_3_6_10.out.cbox_at (i := 4) rfl).2.2⟩, fun _ h => by simp at h⟩⟩⟩) (fun hHeld => ?_)
                clear hK K
                try simp only [Act.put, sA, sZ, sS]
                refine tk 11 ?_ rfl ?_ ?_; rotate_left; focus (intro w hSw; clear hSw; go_simp; try (with_reducible rfl))
                try simp only [Act.put, sA, sZ, sS]
                refine wpAnyH_ready (rs := [13]) (by kernel_rfl) (by simp) ?_
                refine AllReadyH.cons (List.getElem?_toArray.trans rfl) (fun K hK => ?_) AllReadyH.nil
                obtain ⟨⟨s0, s1, s2⟩, s3, s4⟩ := V_0_12_7_3_6_10.out.cbox_st (i := 1) rfl
                have VX := Lib.hid (V_0_12_7_3_6_10.out.cbox_set (i := 1) rfl C1 (n + p) f1 C2 m f2)
                go_simp
                refine hK.out _ _ (List.forall_mem_cons.2 ⟨⟨(VX.out.cbox_at (i := 5) rfl).1, (VX.out.cbox_at (i := 5) rfl).2.2⟩, List.forall_mem_cons.2 ⟨⟨(VX.out.cbox_at (i := 5) rfl).2.1, (VX.out.cbox_at (i := 5) rfl).2.2⟩, List.forall_mem_cons.2 ⟨⟨(VX.out.cbox_at (i := 4) rfl).1, (VX.out.cbox_at (i := 4) rfl).2.2⟩, fun _ h => by simp at h⟩⟩⟩) (fun hHeld => ?_)
                clear hK K
                try simp only [Act.put, sA, sZ, sS]
                refine wpAnyH_done (by kernel_rfl) ?_ _
                clear hHeld
                go_wp2_with fail
                go_meet
                exact ⟨_, _, _, _, _, rfl, VX.out.pick [1, 0, 2, 3, 4, 5] (by decide) rfl⟩
              exact AllReadyH.nil
            exact AllReadyH.nil
          refine AllReadyH.cons (List.getElem?_toArray.trans rfl) (fun K hK => ?_) ?_
          · obtain ⟨w_7, hw_7⟩ : ∃ z, z = wf.alloc (.cells #[] 3) := ⟨_, rfl⟩
            obtain ⟨g_7, hg_7⟩ : ∃ z, z = wf.heap.size := ⟨_, rfl⟩
            have V_7 := Lib.hid (show Hp w (nums (some ⟨g_7, 0, none⟩) 0 0 [] :: cbox g2 none 0 0 none 0 0 :: cbox g1 P p e Q q f :: cbox g0 A n c B m d :: []) w_7 by rw [hw_7, hg_7]; exact Vwf.out.lit 3 1 0 [] rfl (by decide))
            have B_7 := Lib.hid (show Below wf.heap.size wf w_7 by rw [hw_7]; exact bnew _ _)
            have HW_7 := Lib.hid hw_7
            have HG_7 := Lib.hid hg_7
            clear hw_7 hg_7
            go_simp
            try rw [← HW_7.out]
            try rw [← HG_7.out]
            refine hK.out _ _ (hHeld.go B_7.out) (fun hHeld => ?_)
            clear hK K
            try simp only [Act.put, sA, sZ, sS]
            refine wpAnyH_ready (rs := [0, 12]) (by kernel_rfl) (by simp) ?_
            refine AllReadyH.cons (List.getElem?_toArray.trans rfl) (fun K hK => ?_) ?_
            · obtain ⟨w_7_0, hw_7_0⟩ : ∃ z, z = w_7.alloc (.cells #[] 51) := ⟨_, rfl⟩
              obtain ⟨g_7_0, hg_7_0⟩ : ∃ z, z = w_7.heap.size := ⟨_, rfl⟩
              have V_7_0 := Lib.hid (show Hp w (snds (some ⟨g_7_0, 0, none⟩) 0 0 [] :: nums (some ⟨g_7, 0, none⟩) 0 0 [] :: cbox g2 none 0 0 none 0 0 :: cbox g1 P p e Q q f :: cbox g0 A n c B m d :: []) w_7_0 by rw [hw_7_0, hg_7_0]; exact V_7.out.lit 51 3 0 [] rfl (by decide))
              have B_7_0 := Lib.hid (show Below w_7.heap.size w_7 w_7_0 by rw [hw_7_0]; exact bnew _ _)
              have HW_7_0 := Lib.hid hw_7_0
              have HG_7_0 := Lib.hid hg_7_0
              clear hw_7_0 hg_7_0
              go_simp
              try rw [← HW_7_0.out]
              try rw [← HG_7_0.out]
              refine hK.out _ _ (hHeld.go B_7_0.out) (fun hHeld => ?_)
              clear hK K
              try simp only [Act.put, sA, sZ, sS]
              refine wpAnyH_ready (rs := [3, 12]) (by kernel_rfl) (by simp) ?_
              refine AllReadyH.cons (List.getElem?_toArray.trans rfl) (fun K hK => ?_) ?_
              · obtain ⟨Ca, fa, w_7_0_3, hr_7_0_3, hv_7_0_3, _⟩ := run_cat_snds V_7_0.out (i := 0) rfl 22 X.s HX.out.ls (HX.out.cs.below V_7_0.out.below) (by omega) (by omega)
                rw [Nat.zero_add] at hr_7_0_3 hv_7_0_3
                have HR_7_0_3 := Lib.hid hr_7_0_3
                have V_7_0_3 := Lib.hid (show Hp w (snds Ca n fa X.s :: nums (some ⟨g_7, 0, none⟩) 0 0 [] :: cbox g2 none 0 0 none 0 0 :: cbox g1 P p e Q q f :: cbox g0 A n c B m d :: []) w_7_0_3 from hv_7_0_3)
                clear hr_7_0_3 hv_7_0_3
                refine step_app_run rfl (.tmp 41) (.tmp 43) 22 rfl HR_7_0_3.out rfl rfl ?_
                refine hK.out _ _ (List.forall_mem_cons.2 ⟨⟨(V_7_0_3.out.cbox_at (i := 4) rfl).1, (V_7_0_3.out.cbox_at (i := 4) rfl).2.2⟩, List.forall_mem_cons.2 ⟨⟨(V_7_0_3.out.cbox_at (i := 4) rfl).2.1, (V_7_0_3.out.cbox_at (i := 4) rfl).2.2⟩, List.forall_mem_cons.2 ⟨⟨(V_7_0_3.out.cbox_at (i := 3) rfl).1, (V_7_0_3.out.cbox_at (i := 3) rfl).2.2⟩, fun _ h => by simp at h⟩⟩⟩) (fun hHeld => ?_)
                clear hK K
                try simp only [Act.put, sA, sZ, sS]
                refine wpAnyH_ready (rs := [6, 12]) (by kernel_rfl) (by simp) ?_
                refine AllReadyH.cons (List.getElem?_toArray.trans rfl) (fun K hK => ?_) ?_
                · obtain ⟨C1, f1, w_7_0_3_6, hr_7_0_3_6, hv_7_0_3_6, _⟩ := run_cat_snds V_7_0_3.out (i := 0) rfl 22 Y.s HY.out.ls (HY.out.cs.below V_7_0_3.out.below) (by omega) (by omega)
                  have HR_7_0_3_6 := Lib.hid hr_7_0_3_6
                  have V_7_0_3_6 := Lib.hid (show Hp w (snds C1 (n + p) f1 (X.s ++ Y.s) :: nums (some ⟨g_7, 0, none⟩) 0 0 [] :: cbox g2 none 0 0 none 0 0 :: cbox g1 P p e Q q f :: cbox g0 A n c B m d :: []) w_7_0_3_6 from hv_7_0_3_6)
                  clear hr_7_0_3_6 hv_7_0_3_6
                  refine step_app_run rfl (.tmp 44) (.tmp 46) 22 rfl HR_7_0_3_6.out rfl rfl ?_
                  refine hK.out _ _ (List.forall_mem_cons.2 ⟨⟨(V_7_0_3_6.out.cbox_at (i := 4) rfl).1, (V_7_0_3_6.out.cbox_at (i := 4) rfl).2.2⟩, List.forall_mem_cons.2 ⟨⟨(V_7_0_3_6.out.cbox_at (i := 4) rfl).2.1, (V_7_0_3_6.out.cbox_at (i := 4) rfl).2.2⟩, List.forall_mem_cons.2 ⟨⟨(V_7_0_3_6.out.cbox_at (i := 3) rfl).1, (V_7_0_3_6.out.cbox_at (i := 3) rfl).2.2⟩, fun _ h => by simp at h⟩⟩⟩) (fun hHeld => ?_)
                  clear hK K
                  try simp only [Act.put, sA, sZ, sS]
                  refine wpAnyH_ready (rs := [10, 12]) (by kernel_rfl) (by simp) ?_
                  refine AllReadyH.cons (List.getElem?_toArray.trans rfl) (fun K hK => ?_) ?_
                  · obtain ⟨C2, f2, w_7_0_3_6_10, hr_7_0_3_6_10, hv_7_0_3_6_10, _⟩ := run_cat_nums V_7_0_3_6.out (i := 1) rfl 23 X.b HX.out.lb (HX.out.cb.below V_7_0_3_6.out.below) (by omega) (by omega)
                    rw [Nat.zero_add] at hr_7_0_3_6_10 hv_7_0_3_6_10
                    have HR_7_0_3_6_10 := Lib.hid hr_7_0_3_6_10
                    have V_7_0_3_6_10 := Lib.hid (show Hp w (snds C1 (n + p) f1 (X.s ++ Y.s) :: nums C2 m f2 X.b :: cbox g2 none 0 0 none 0 0 :: cbox g1 P p e Q q f :: cbox g0 A n c B m d :: []) w_7_0_3_6_10 from hv_7_0_3_6_10)
                    clear hr_7_0_3_6_10 hv_7_0_3_6_10
                    refine step_app_run rfl (.tmp 48) (.tmp 50) 23 rfl HR_7_0_3_6_10.out rfl rfl ?_
                    refine hK.out _ _ (List.forall_mem_cons.2 ⟨⟨(V_7_0_3_6_10.out.cbox_at (i := 4) rfl).1, (V_7_0_3_6_10.out.cbox_at (i := 4) rfl).2.2⟩, List.forall_mem_cons.2 ⟨⟨(V_7_0_3_6_10.out.cbox_at (i := 4) rfl).2.1, (V_7_0_3_6_10.out.cbox_at (i := 4) rfl).2.2⟩, List.forall_mem_cons.2 ⟨⟨(V_7_0_3_6_10.out.cbox_at (i := 3) rfl).1, (V_7_0_3_6_10.out.cbox_at (i := 3) rfl).2.2⟩, fun _ h => by simp at h⟩⟩⟩) (fun hHeld => ?_)
                    clear hK K
                    try simp only [Act.put, sA, sZ, sS]
                    refine tk 11 ?_ rfl ?_ ?_; rotate_left; focus (intro w hSw; clear hSw; go_simp; try (with_reducible rfl))
                    try simp only [Act.put, sA, sZ, sS]
                    refine wpAnyH_ready (rs := [12]) (by kernel_rfl) (by simp) ?_
                    refine AllReadyH.cons (List.getElem?_toArray.trans rfl) (fun K hK => ?_) AllReadyH.nil
                    obtain ⟨w_7_0_3_6_10_12, hw_7_0_3_6_10_12⟩ : ∃ z, z = w_7_0_3_6_10.alloc (.cells #[.slice none 0 0, .slice none 0 0] 25) := ⟨_, rfl⟩
                    obtain ⟨g_7_0_3_6_10_12, hg_7_0_3_6_10_12⟩ : ∃ z, z = w_7_0_3_6_10.heap.size := ⟨_, rfl⟩
                    have V_7_0_3_6_10_12 := Lib.hid (show Hp w (cbox g_7_0_3_6_10_12 none 0 0 none 0 0 :: snds C1 (n + p) f1 (X.s ++ Y.s) :: nums C2 m f2 X.b :: cbox g2 none 0 0 none 0 0 :: cbox g1 P p e Q q f :: cbox g0 A n c B m d :: []) w_7_0_3_6_10_12 by rw [hw_7_0_3_6_10_12, hg_7_0_3_6_10_12]; exact V_7_0_3_6_10.out.cbox_new none 0 0 none 0 0)
                    have B_7_0_3_6_10_12 := Lib.hid (show Below w_7_0_3_6_10.heap.size w_7_0_3_6_10 w_7_0_3_6_10_12 by rw [hw_7_0_3_6_10_12]; exact bnew _ _)
                    have HW_7_0_3_6_10_12 := Lib.hid hw_7_0_3_6_10_12
                    have HG_7_0_3_6_10_12 := Lib.hid hg_7_0_3_6_10_12
                    clear hw_7_0_3_6_10_12 hg_7_0_3_6_10_12
                    go_simp
                    try rw [← HW_7_0_3_6_10_12.out]
                    try rw [← HG_7_0_3_6_10_12.out]
                    refine hK.out _ _ (hHeld.go B_7_0_3_6_10_12.out) (fun hHeld => ?_)
                    clear hK K
                    try simp only [Act.put, sA, sZ, sS]
                    refine wpAnyH_ready (rs := [13]) (by kernel_rfl) (by simp) ?_
                    refine AllReadyH.cons (List.getElem?_toArray.trans rfl) (fun K hK => ?_) AllReadyH.nil
                    obtain ⟨⟨s0, s1, s2⟩, s3, s4⟩ := V_7_0_3_6_10_12.out.cbox_st (i := 0) rfl
                    have VX := Lib.hid (V_7_0_3_6_10_12.out.cbox_set (i := 0) rfl C1 (n + p) f1 C2 m f2)
                    go_simp
                    refine hK.out _ _ (List.forall_mem_cons.2 ⟨⟨(VX.out.cbox_at (i := 5) rfl).1, (VX.out.cbox_at (i := 5) rfl).2.2⟩, List.forall_mem_cons.2 ⟨⟨(VX.out.cbox_at (i := 5) rfl).2.1, (VX.out.cbox_at (i := 5) rfl).2.2⟩, List.forall_mem_cons.2 ⟨⟨(VX.out.cbox_at (i := 4) rfl).1, (VX.out.cbox_at (i := 4) rfl).2.2⟩, fun _ h => by simp at h⟩⟩⟩) (fun hHeld => ?_)
                    clear hK K
                    try simp only [Act.put, sA, sZ, sS]
                    refine wpAnyH_done (by kernel_rfl) ?_ _
                    clear hHeld
                    go_wp2_with fail
                    go_meet
                    exact ⟨_, _, _, _, _, rfl, VX.out.pick [0, 2, 1, 3, 4, 5] (by decide) rfl⟩
                  refine AllReadyH.cons (List.getElem?_toArray.trans rfl) (fun K hK => ?_) ?_
                  · obtain ⟨w_7_0_3_6_12, hw_7_0_3_6_12⟩ : ∃ z, z = w_7_0_3_6.alloc (.cells #[.slice none 0 0, .slice none 0 0] 25) := ⟨_, rfl⟩
                    obtain ⟨g_7_0_3_6_12, hg_7_0_3_6_12⟩ : ∃ z, z = w_7_0_3_6.heap.size := ⟨_, rfl⟩
                    have V_7_0_3_6_12 := Lib.hid (show Hp w (cbox g_7_0_3_6_12 none 0 0 none 0 0 :: snds C1 (n + p) f1 (X.s ++ Y.s) :: nums (some ⟨g_7, 0, none⟩) 0 0 [] :: cbox g2 none 0 0 none 0 0 :: cbox g1 P p e Q q f :: cbox g0 A n c B m d :: []) w_7_0_3_6_12 by rw [hw_7_0_3_6_12, hg_7_0_3_6_12]; exact V_7_0_3_6.out.cbox_new none 0 0 none 0 0)
                    have B_7_0_3_6_12 := Lib.hid (show Below w_7_0_3_6.heap.size w_7_0_3_6 w_7_0_3_6_12 by rw [hw_7_0_3_6_12]; exact bnew _ _)
                    have HW_7_0_3_6_12 := Lib.hid hw_7_0_3_6_12
                    have HG_7_0_3_6_12 := Lib.hid hg_7_0_3_6_12
                    clear hw_7_0_3_6_12 hg_7_0_3_6_12
                    go_simp
                    try rw [← HW_7_0_3_6_12.out]
                    try rw [← HG_7_0_3_6_12.out]
                    refine hK.out _ _ (hHeld.go B_7_0_3_6_12.out) (fun hHeld => ?_)
                    clear hK K
                    try simp only [Act.put, sA, sZ, sS]
                    refine wpAnyH_ready (rs := [10]) (by kernel_rfl) (by simp) ?_
                    refine AllReadyH.cons (List.getElem?_toArray.trans rfl) (fun K hK => ?_) AllReadyH.nil
                    obtain ⟨C2, f2, w_7_0_3_6_12_10, hr_7_0_3_6_12_10, hv_7_0_3_6_12_10, _⟩ := run_cat_nums V_7_0_3_6_12.out (i := 2) rfl 23 X.b HX.out.lb (HX.out.cb.below V_7_0_3_6_12.out.below) (by omega) (by omega)
                    rw [Nat.zero_add] at hr_7_0_3_6_12_10 hv_7_0_3_6_12_10
                    have HR_7_0_3_6_12_10 := Lib.hid hr_7_0_3_6_12_10
                    have V_7_0_3_6_12_10 := Lib.hid (show Hp w (cbox g_7_0_3_6_12 none 0 0 none 0 0 :: snds C1 (n + p) f1 (X.s ++ Y.s) :: nums C2 m f2 X.b :: cbox g2 none 0 0 none 0 0 :: cbox g1 P p e Q q f :: cbox g0 A n c B m d :: []) w_7_0_3_6_12_10 from hv_7_0_3_6_12_10)
                    clear hr_7_0_3_6_12_10 hv_7_0_3_6_12_10
                    refine step_app_run rfl (.tmp 48) (.tmp 50) 23 rfl HR_7_0_3_6_12_10.out rfl rfl ?_
                    refine hK.out _ _ (List.forall_mem_cons.2 ⟨⟨(V_7_0_3_6_12_10.out.cbox_at (i := 5) rfl).1, (V_7_0_3_6_12_10.out.cbox_at (i := 5) rfl).2.2⟩, List.forall_mem_cons.2 ⟨⟨(V_7_0_3_6_12_10.out.cbox_at (i := 5) rfl).2.1, (V_7_0_3_6_12_10.out.cbox_at (i := 5) rfl).2.2⟩, List.forall_mem_cons.2 ⟨⟨(V_7_0_3_6_12_10.out.cbox_at (i := 4) rfl).1, (V_7_0_3_6_12_10.out.cbox_at (i := 4) rfl).2.2⟩, fun _ h => by simp at h⟩⟩⟩) (fun hHeld => ?_)
                    clear hK K
                    try simp only [Act.put, sA, sZ, sS]
                    refine tk 11 ?_ rfl ?_ ?_; rotate_left; focus (intro w hSw; clear hSw; go_simp; try (with_reducible rfl))
                    try simp only [Act.put, sA, sZ, sS]
                    refine wpAnyH_ready (rs := [13]) (by kernel_rfl) (by simp) ?_
                    refine AllReadyH.cons (List.getElem?_toArray.trans rfl) (fun K hK => ?_) AllReadyH.nil
                    obtain ⟨⟨s0, s1, s2⟩, s3, s4⟩ := V_7_0_3_6_12_10.out.cbox_st (i := 0) rfl
                    have VX := Lib.hid (V_7_0_3_6_12_10.out.cbox_set (i := 0) rfl C1 (n + p) f1 C2 m f2)
                    go_simp
                    refine hK.out _ _ (List.forall_mem_cons.2 ⟨⟨(VX.out.cbox_at (i := 5) rfl).1, (VX.out.cbox_at (i := 5) rfl).2.2⟩, List.forall_mem_cons.2 ⟨⟨(VX.out.cbox_at (i := 5) rfl).2.1, (VX.out.cbox_at (i := 5) rfl).2.2⟩, List.forall_mem_cons.2 ⟨⟨(VX.out.cbox_at (i := 4) rfl).1, (VX.out.cbox_at (i := 4) rfl).2.2⟩, fun _ h => by simp at h⟩⟩⟩) (fun hHeld => ?_)
                    clear hK K
                    try simp only [Act.put, sA, sZ, sS]
                    refine wpAnyH_done (by kernel_rfl) ?_ _
                    clear hHeld
                    go_wp2_with fail
                    go_meet
                    exact ⟨_, _, _, _, _, rfl, VX.out.pick [0, 2, 1, 3, 4, 5] (by decide) rfl⟩
                  exact AllReadyH.nil
                refine AllReadyH.cons (List.getElem?_toArray.trans rfl) (fun K hK => ?_) ?_
                · obtain ⟨w_7_0_3_12, hw_7_0_3_12⟩ : ∃ z, z = w_7_0_3.alloc (.cells #[.slice none 0 0, .slice none 0 0] 25) := ⟨_, rfl⟩
                  obtain ⟨g_7_0_3_12, hg_7_0_3_12⟩ : ∃ z, z = w_7_0_3.heap.size := ⟨_, rfl⟩
                  have V_7_0_3_12 := Lib.hid (show Hp w (cbox g_7_0_3_12 none 0 0 none 0 0 :: snds Ca n fa X.s :: nums (some ⟨g_7, 0, none⟩) 0 0 [] :: cbox g2 none 0 0 none 0 0 :: cbox g1 P p e Q q f :: cbox g0 A n c B m d :: []) w_7_0_3_12 by rw [hw_7_0_3_12, hg_7_0_3_12]; exact V_7_0_3.out.cbox_new none 0 0 none 0 0)
                  have B_7_0_3_12 := Lib.hid (show Below w_7_0_3.heap.size w_7_0_3 w_7_0_3_12 by rw [hw_7_0_3_12]; exact bnew _ _)
                  have HW_7_0_3_12 := Lib.hid hw_7_0_3_12
                  have HG_7_0_3_12 := Lib.hid hg_7_0_3_12
                  clear hw_7_0_3_12 hg_7_0_3_12
                  go_simp
                  try rw [← HW_7_0_3_12.out]
                  try rw [← HG_7_0_3_12.out]
                  refine hK.out _ _ (hHeld.go B_7_0_3_12.out) (fun hHeld => ?_)
                  clear hK K
                  try simp only [Act.put, sA, sZ, sS]
                  refine wpAnyH_ready (rs := [6]) (by kernel_rfl) (by simp) ?_
                  refine AllReadyH.cons (List.getElem?_toArray.trans rfl) (fun K hK => ?_) AllReadyH.nil
                  obtain ⟨C1, f1, w_7_0_3_12_6, hr_7_0_3_12_6, hv_7_0_3_12_6, _⟩ := run_cat_snds V_7_0_3_12.out (i := 1) rfl 22 Y.s HY.out.ls (HY.out.cs.below V_7_0_3_12.out.below) (by omega) (by omega)
                  have HR_7_0_3_12_6 := Lib.hid hr_7_0_3_12_6
                  have V_7_0_3_12_6 := Lib.hid (show Hp w (cbox g_7_0_3_12 none 0 0 none 0 0 :: snds C1 (n + p) f1 (X.s ++ Y.s) :: nums (some ⟨g_7, 0, none⟩) 0 0 [] :: cbox g2 none 0 0 none 0 0 :: cbox g1 P p e Q q f :: cbox g0 A n c B m d :: []) w_7_0_3_12_6 from hv_7_0_3_12_6)
                  clear hr_7_0_3_12_6 hv_7_0_3_12_6
                  refine step_app_run rfl (.tmp 44) (.tmp 46) 22 rfl HR_7_0_3_12_6.out rfl rfl ?_
                  refine hK.out _ _ (List.forall_mem_cons.2 ⟨⟨(V_7_0_3_12_6.out.cbox_at (i := 5) rfl).1, (V_7_0_3_12_6.out.cbox_at (i := 5) rfl).2.2⟩, List.forall_mem_cons.2 ⟨⟨(V_7_0_3_12_6.out.cbox_at (i := 5) rfl).2.1, (V_7_0_3_12_6.out.cbox_at (i := 5) rfl).2.2⟩, List.forall_mem_cons.2 ⟨⟨(V_7_0_3_12_6.out.cbox_at (i := 4) rfl).1, (V_7_0_3_12_6.out.cbox_at (i := 4) rfl).2.2⟩, fun _ h => by simp at h⟩⟩⟩) (fun hHeld => ?_)
                  clear hK K
                  try simp only [Act.put, sA, sZ, sS]
                  refine wpAnyH_ready (rs := [10]) (by kernel_rfl) (by simp) ?_
                  refine AllReadyH.cons (List.getElem?_toArray.trans rfl) (fun K hK => ?_) AllReadyH.nil
                  obtain ⟨C2, f2, w_7_0_3_12_6_10, hr_7_0_3_12_6_10, hv_7_0_3_12_6_10, _⟩ := run_cat_nums V_7_0_3_12_6.out (i := 2) rfl 23 X.b HX.out.lb (HX.out.cb.below V_7_0_3_12_6.out.below) (by omega) (by omega)
                  rw [Nat.zero_add] at hr_7_0_3_12_6_10 hv_7_0_3_12_6_10
                  have HR_7_0_3_12_6_10 := Lib.hid hr_7_0_3_12_6_10
                  have V_7_0_3_12_6_10 := Lib.hid (show Hp w (cbox g_7_0_3_12 none 0 0 none 0 0 :: snds C1 (n + p) f1 (X.s ++ Y.s) :: nums C2 m f2 X.b :: cbox g2 none 0 0 none 0 0 :: cbox g1 P p e Q q f :: cbox g0 A n c B m d :: []) w_7_0_3_12_6_10 from hv_7_0_3_12_6_10)
                  clear hr_7_0_3_12_6_10 hv_7_0_3_12_6_10
                  refine step_app_run rfl (.tmp 48) (.tmp 50) 23 rfl HR_7_0_3_12_6_10.out rfl rfl ?_
                  refine hK.out _ _ (List.forall_mem_cons.2 ⟨⟨(V_7_0_3_12_6_10.out.cbox_at (i := 5) rfl).1, (V_7_0_3_12_6_10.out.cbox_at (i := 5) rfl).2.2⟩, List.forall_mem_cons.2 ⟨⟨(V_7_0_3_12_6_10.out.cbox_at (i := 5) rfl).2.1, (V_7_0_3_12_6_10.out.cbox_at (i := 5) rfl).2.2⟩, List.forall_mem_cons.2 ⟨⟨(V_7_0_3_12_6_10.out.cbox_at (i := 4) rfl).1, (V_7_0_3_12_6_10.out.cbox_at (i := 4) rfl).2.2⟩, fun _ h => by simp at h⟩⟩⟩) (fun hHeld => ?_)
                  clear hK K
                  try simp only [Act.put, sA, sZ, sS]
                  refine tk 11 ?_ rfl ?_ ?_; rotate_left; focus (intro w hSw; clear hSw; go_simp; try (with_reducible rfl))
                  try simp only [Act.put, sA, sZ, sS]
                  refine wpAnyH_ready (rs := [13]) (by kernel_rfl) (by simp) ?_
                  refine AllReadyH.cons (List.getElem?_toArray.trans rfl) (fun K hK => ?_) AllReadyH.nil
                  obtain ⟨⟨s0, s1, s2⟩, s3, s4⟩ := V_7_0_3_12_6_10.out.cbox_st (i := 0) rfl
                  have VX := Lib.hid (V_7_0_3_12_6_10.out.cbox_set (i := 0) rfl C1 (n + p) f1 C2 m f2)
                  go_simp
                  refine hK.out _ _ (List.forall_mem_cons.2 ⟨⟨(VX.out.cbox_at (i := 5) rfl).1, (VX.out.cbox_at (i := 5) rfl).2.2⟩, List.forall_mem_cons.2 ⟨⟨(VX.out.cbox_at (i := 5) rfl).2.1, (VX.out.cbox_at (i := 5) rfl).2.2⟩, List.forall_mem_cons.2 ⟨⟨(VX.out.cbox_at (i := 4) rfl).1, (VX.out.cbox_at (i := 4) rfl).2.2⟩, fun _ h => by simp at h⟩⟩⟩) (fun hHeld => ?_)
                  clear hK K
                  try simp only [Act.put, sA, sZ, sS]
                  refine wpAnyH_done (by kernel_rfl) ?_ _
                  clear hHeld
                  go_wp2_with fail
                  go_meet
                  exact ⟨_, _, _, _, _, rfl, VX.out.pick [0, 2, 1, 3, 4, 5] (by decide) rfl⟩
                exact AllReadyH.nil
              refine AllReadyH.cons (List.getElem?_toArray.trans rfl) (fun K hK => ?_) ?_
              · obtain ⟨w_7_0_12, hw_7_0_12⟩ : ∃ z, z = w_7_0.alloc (.cells #[.slice none 0 0, .slice none 0 0] 25) := ⟨_, rfl⟩
                obtain ⟨g_7_0_12, hg_7_0_12⟩ : ∃ z, z = w_7_0.heap.size := ⟨_, rfl⟩
                have V_7_0_12 := Lib.hid (show Hp w (cbox g_7_0_12 none 0 0 none 0 0 :: snds (some ⟨g_7_0, 0, none⟩) 0 0 [] :: nums (some ⟨g_7, 0, none⟩) 0 0 [] :: cbox g2 none 0 0 none 0 0 :: cbox g1 P p e Q q f :: cbox g0 A n c B m d :: []) w_7_0_12 by rw [hw_7_0_12, hg_7_0_12]; exact V_7_0.out.cbox_new none 0 0 none 0 0)
                have B_7_0_12 := Lib.hid (show Below w_7_0.heap.size w_7_0 w_7_0_12 by rw [hw_7_0_12]; exact bnew _ _)
                have HW_7_0_12 := Lib.hid hw_7_0_12
                have HG_7_0_12 := Lib.hid hg_7_0_12
                clear hw_7_0_12 hg_7_0_12
                go_simp
                try rw [← HW_7_0_12.out]
                try rw [← HG_7_0_12.out]
                refine hK.out _ _ (hHeld.go B_7_0_12.out) (fun hHeld => ?_)
                clear hK K
                try simp only [Act.put, sA, sZ, sS]
                refine wpAnyH_ready (rs := [3]) (by kernel_rfl) (by simp) ?_
                refine AllReadyH.cons (List.getElem?_toArray.trans rfl) (fun K hK => ?_) AllReadyH.nil
                obtain ⟨Ca, fa, w_7_0_12_3, hr_7_0_12_3, hv_7_0_12_3, _⟩ := run_cat_snds V_7_0_12.out (i := 1) rfl 22 X.s HX.out.ls (HX.out.cs.below V_7_0_12.out.below) (by omega) (by omega)
                rw [Nat.zero_add] at hr_7_0_12_3 hv_7_0_12_3
                have HR_7_0_12_3 := Lib.hid hr_7_0_12_3
                have V_7_0_12_3 := Lib.hid (show Hp w (cbox g_7_0_12 none 0 0 none 0 0 :: snds Ca n fa X.s :: nums (some ⟨g_7, 0, none⟩) 0 0 [] :: cbox g2 none 0 0 none 0 0 :: cbox g1 P p e Q q f :: cbox g0 A n c B m d :: []) w_7_0_12_3 from hv_7_0_12_3)
                clear hr_7_0_12_3 hv_7_0_12_3
                refine step_app_run rfl (.tmp 41) (.tmp 43) 22 rfl HR_7_0_12_3.out rfl rfl ?_
                refine hK.out _ _ (List.forall_mem_cons.2 ⟨⟨(V_7_0_12_3.out.cbox_at (i := 5) rfl).1, (V_7_0_12_3.out.cbox_at (i := 5) rfl).2.2⟩, List.forall_mem_cons.2 ⟨⟨(V_7_0_12_3.out.cbox_at (i := 5) rfl).2.1, (V_7_0_12_3.out.cbox_at (i := 5) rfl).2.2⟩, List.forall_mem_cons.2 ⟨⟨(V_7_0_12_3.out.cbox_at (i := 4) rfl).1, (V_7_0_12_3.out.cbox_at (i := 4) rfl).2.2⟩, fun _ h => by simp at h⟩⟩⟩) (fun hHeld => ?_)
                clear hK K
                try simp only [Act.put, sA, sZ, sS]
                refine wpAnyH_ready (rs := [6]) (by kernel_rfl) (by simp) ?_
                refine AllReadyH.cons (List.getElem?_toArray.trans rfl) (fun K hK => ?_) AllReadyH.nil
                obtain ⟨C1, f1, w_7_0_12_3_6, hr_7_0_12_3_6, hv_7_0_12_3_6, _⟩ := run_cat_snds V_7_0_12_3.out (i := 1) rfl 22 Y.s HY.out.ls (HY.out.cs.below V_7_0_12_3.out.below) (by omega) (by omega)
                have HR_7_0_12_3_6 := Lib.hid hr_7_0_12_3_6
                have V_7_0_12_3_6 := Lib.hid (show Hp w (cbox g_7_0_12 none 0 0 none 0 0 :: snds C1 (n + p) f1 (X.s ++ Y.s) :: nums (some ⟨g_7, 0, none⟩) 0 0 [] :: cbox g2 none 0 0 none 0 0 :: cbox g1 P p e Q q f :: cbox g0 A n c B m d :: []) w_7_0_12_3_6 from hv_7_0_12_3_6)
                clear hr_7_0_12_3_6 hv_7_0_12_3_6
                refine step_app_run rfl (.tmp 44) (.tmp 46) 22 rfl HR_7_0_12_3_6.out rfl rfl ?_
                refine hK.out _ _ (List.forall_mem_cons.2 ⟨⟨(V_7_0_12_3_6.out.cbox_at (i := 5) rfl).1, (V_7_0_12_3_6.out.cbox_at (i := 5) rfl).2.2⟩, List.forall_mem_cons.2 ⟨⟨(V_7_0_12_3_6.out.cbox_at (i := 5) rfl).2.1, (V_7_0_12_3_6.out.cbox_at (i := 5) rfl).2.2⟩, List.forall_mem_cons.2 ⟨⟨(V_7_0_12_3_6.out.cbox_at (i := 4) rfl).1, (V_7_0_12_3_6.out.cbox_at (i := 4) rfl).2.2⟩, fun _ h => by simp at h⟩⟩⟩) (fun hHeld => ?_)
                clear hK K
                try simp only [Act.put, sA, sZ, sS]
                refine wpAnyH_ready (rs := [10]) (by kernel_rfl) (by simp) ?_
                refine AllReadyH.cons (List.getElem?_toArray.trans rfl) (fun K hK => ?_) AllReadyH.nil
                obtain ⟨C2, f2, w_7_0_12_3_6_10, hr_7_0_12_3_6_10, hv_7_0_12_3_6_10, _⟩ := run_cat_nums V_7_0_12_3_6.out (i := 2) rfl 23 X.b HX.out.lb (HX.out.cb.below V_7_0_12_3_6.out.below) (by omega) (by omega)
                rw [Nat.zero_add] at hr_7_0_12_3_6_10 hv_7_0_12_3_6_10
                have HR_7_0_12_3_6_10 := Lib.hid hr_7_0_12_3_6_10
                have V_7_0_12_3_6_10 := Lib.hid (show Hp w (cbox g_7_0_12 none 0 0 none 0 0 :: snds C1 (n + p) f1 (X.s ++ Y.s) :: nums C2 m f2 X.b :: cbox g2 none 0 0 none 0 0 :: cbox g1 P p e Q q f :: cbox g0 A n c B m d :: []) w_7_0_12_3_6_10 from hv_7_0_12_3_6_10)
                clear hr_7_0_12_3_6_10 hv_7_0_12_3_6_10
                refine step_app_run rfl (.tmp 48) (.tmp 50) 23 rfl HR_7_0_12_3_6_10.out rfl rfl ?_
                refine hK.out _ _ (List.forall_mem_cons.2 ⟨⟨(V_7_0_12_3_6_10.out.cbox_at (i := 5) rfl).1, (V_7_0_12_3_6_10.out.cbox_at (i := 5) rfl).2.2⟩, List.forall_mem_cons.2 ⟨⟨(V_7_0_12_3_6_10.out.cbox_at (i := 5) rfl).2.1, (V_7_0_12_3_6_10.out.cbox_at (i := 5) rfl).2.2⟩, List.forall_mem_cons.2 ⟨⟨(V_7_0_12_3_6_10.out.cbox_at (i := 4) rfl).1, (V_7_0_12_3_6_10.out.cbox_at (i := 4) rfl).2.2⟩, fun _ h => by simp at h⟩⟩⟩) (fun hHeld => ?_)
                clear hK K
                try simp only [Act.put, sA, sZ, sS]
                refine tk 11 ?_ rfl ?_ ?_; rotate_left; focus (intro w hSw; clear hSw; go_simp; try (with_reducible rfl))
                try simp only [Act.put, sA, sZ, sS]
                refine wpAnyH_ready (rs := [13]) (by kernel_rfl) (by simp) ?_
                refine AllReadyH.cons (List.getElem?_toArray.trans rfl) (fun K hK => ?_) AllReadyH.nil
                obtain ⟨⟨s0, s1, s2⟩, s3, s4⟩ := V_7_0_12_3_6_10.out.cbox_st (i := 0) rfl
                have VX := Lib.hid (V_7_0_12_3_6_10.out.cbox_set (i := 0) rfl C1 (n + p) f1 C2 m f2)
                go_simp
                refine hK.out _ _ (List.forall_mem_cons.2 ⟨⟨(VX.out.cbox_at (i := 5) rfl).1, (VX.out.cbox_at (i := 5) rfl).2.2⟩, List.forall_mem_cons.2 ⟨⟨(VX.out.cbox_at (i := 5) rfl).2.1, (VX.out.cbox_at (i := 5) rfl).2.2⟩, List.forall_mem_cons.2 ⟨⟨(VX.out.cbox_at (i := 4) rfl).1, (VX.out.cbox_at (i := 4) rfl).2.2⟩, fun _ h => by simp at h⟩⟩⟩) (fun hHeld => ?_)
                clear hK K
                try simp only [Act.put, sA, sZ, sS]
                refine wpAnyH_done (by kernel_rfl) ?_ _
                clear hHeld
                go_wp2_with fail
                go_meet
                exact ⟨_, _, _, _, _, rfl, VX.out.pick [0, 2, 1, 3, 4, 5] (by decide) rfl⟩
              exact AllReadyH.nil
            refine AllReadyH.cons (List.getElem?_toArray.trans rfl) (fun K hK => ?_) ?_
            · obtain ⟨w_7_12, hw_7_12⟩ : ∃ z, z = w_7.alloc (.cells #[.slice none 0 0, .slice none 0 0] 25) := ⟨_, rfl⟩
              obtain ⟨g_7_12, hg_7_12⟩ : ∃ z, z = w_7.heap.size := ⟨_, rfl⟩
              have V_7_12 := Lib.hid (show Hp w (cbox g_7_12 none 0 0 none 0 0 :: nums (some ⟨g_7, 0, none⟩) 0 0 [] :: cbox g2 none 0 0 none 0 0 :: cbox g1 P p e Q q f :: cbox g0 A n c B m d :: []) w_7_12 by rw [hw_7_12, hg_7_12]; exact V_7.out.cbox_new none 0 0 none 0 0)
              have B_7_12 := Lib.hid (show Below w_7.heap.size w_7 w_7_12 by rw [hw_7_12]; exact bnew _ _)
              have HW_7_12 := Lib.hid hw_7_12
              have HG_7_12 := Lib.hid hg_7_12
              clear hw_7_12 hg_7_12
              go_simp
              try rw [← HW_7_12.out]
              try rw [← HG_7_12.out]
              refine hK.out _ _ (hHeld.go B_7_12.out) (fun hHeld => ?_)
              clear hK K
              try simp only [Act.put, sA, sZ, sS]
              refine wpAnyH_ready (rs := [0]) (by kernel_rfl) (by simp) ?_
              refine AllReadyH.cons (List.getElem?_toArray.trans rfl) (fun K hK => ?_) AllReadyH.nil
              obtain ⟨w_7_12_0, hw_7_12_0⟩ : ∃ z, z = w_7_12.alloc (.cells #[] 51) := ⟨_, rfl⟩
              obtain ⟨g_7_12_0, hg_7_12_0⟩ : ∃ z, z = w_7_12.heap.size := ⟨_, rfl⟩
              have V_7_12_0 := Lib.hid (show Hp w (snds (some ⟨g_7_12_0, 0, none⟩) 0 0 [] :: cbox g_7_12 none 0 0 none 0 0 :: nums (some ⟨g_7, 0, none⟩) 0 0 [] :: cbox g2 none 0 0 none 0 0 :: cbox g1 P p e Q q f :: cbox g0 A n c B m d :: []) w_7_12_0 by rw [hw_7_12_0, hg_7_12_0]; exact V_7_12.out.lit 51 3 0 [] rfl (by decide))
              have B_7_12_0 := Lib.hid (show Below w_7_12.heap.size w_7_12 w_7_12_0 by rw [hw_7_12_0]; exact bnew _ _)
              have HW_7_12_0 := Lib.hid hw_7_12_0
              have HG_7_12_0 := Lib.hid hg_7_12_0
              clear hw_7_12_0 hg_7_12_0
              go_simp
              try rw [← HW_7_12_0.out]
              try rw [← HG_7_12_0.out]
              refine hK.out _ _ (hHeld.go B_7_12_0.out) (fun hHeld => ?_)
              clear hK K
              try simp only [Act.put, sA, sZ, sS]
              refine wpAnyH_ready (rs := [3]) (by kernel_rfl) (by simp) ?_
              refine AllReadyH.cons (List.getElem?_toArray.trans rfl) (fun K hK => ?_) AllReadyH.nil
              obtain ⟨Ca, fa, w_7_12_0_3, hr_7_12_0_3, hv_7_12_0_3, _⟩ := run_cat_snds V_7_12_0.out (i := 0) rfl 22 X.s HX.out.ls (HX.out.cs.below V_7_12_0.out.below) (by omega) (by omega)
              rw [Nat.zero_add] at hr_7_12_0_3 hv_7_12_0_3
              have HR_7_12_0_3 := Lib.hid hr_7_12_0_3
              have V_7_12_0_3 := Lib.hid (show Hp w (snds Ca n fa X.s :: cbox g_7_12 none 0 0 none 0 0 :: nums (some ⟨g_7, 0, none⟩) 0 0 [] :: cbox g2 none 0 0 none 0 0 :: cbox g1 P p e Q q f :: cbox g0 A n c B m d :: []) w_7_12_0_3 from hv_7_12_0_3)
              clear hr_7_12_0_3 hv_7_12_0_3
              refine step_app_run rfl (.tmp 41) (.tmp 43) 22 rfl HR_7_12_0_3.out rfl rfl ?_
              refine hK.out _ _ (List.forall_mem_cons.2 ⟨⟨(V_7_12_0_3.out.cbox_at (i := 5) rfl).1, (V_7_12_0_3.out.cbox_at (i := 5) rfl).2.2⟩, List.forall_mem_cons.2 ⟨⟨(V_7_12_0_3.out.cbox_at (i := 5) rfl).2.1, (V_7_12_0_3.out.cbox_at (i := 5) rfl).2.2⟩, List.forall_mem_cons.2 ⟨⟨(V_7_12_0_3.out.cbox_at (i := 4) rfl).1, (V_7_12_0_3.out.cbox_at (i := 4) rfl).2.2⟩, fun _ h => by simp at h⟩⟩⟩) (fun hHeld => ?_)
              clear hK K
              try simp only [Act.put, sA, sZ, sS]
              refine wpAnyH_ready (rs := [6]) (by kernel_rfl) (by simp) ?_
              refine AllReadyH.cons (List.getElem?_toArray.trans rfl) (fun K hK => ?_) AllReadyH.nil
              obtain ⟨C1, f1, w_7_12_0_3_6, hr_7_12_0_3_6, hv_7_12_0_3_6, _⟩ := run_cat_snds V_7_12_0_3.out (i := 0) rfl 22 Y.s HY.out.ls (HY.out.cs.below V_7_12_0_3.out.below) (by omega) (by omega)
              have HR_7_12_0_3_6 := Lib.hid hr_7_12_0_3_6
              have V_7_12_0_3_6 := Lib.hid (show Hp w (snds C1 (n + p) f1 (X.s ++ Y.s) :: cbox g_7_12 none 0 0 none 0 0 :: nums (some ⟨g_7, 0, none⟩) 0 0 [] :: cbox g2 none 0 0 none 0 0 :: cbox g1 P p e Q q f :: cbox g0 A n c B m d :: []) w_7_12_0_3_6 from hv_7_12_0_3_6)
              clear hr_7_12_0_3_6 hv_7_12_0_3_6
              refine step_app_run rfl (.tmp 44) (.tmp 46) 22 rfl HR_7_12_0_3_6.out rfl rfl ?_
              refine hK.out _ _ (List.forall_mem_cons.2 ⟨⟨(V_7_12_0_3_6.out.cbox_at (i := 5) rfl).1, (V_7_12_0_3_6.out.cbox_at (i := 5) rfl).2.2⟩, List.forall_mem_cons.2 ⟨⟨(V_7_12_0_3_6.out.cbox_at (i := 5) rfl).2.1, (V_7_12_0_3_6.out.cbox_at (i := 5) rfl).2.2⟩, List.forall_mem_cons.2 ⟨⟨(V_7_12_0_3_6.out.cbox_at (i := 4) rfl).1, (V_7_12_0_3_6.out.cbox_at (i := 4) rfl).2.2⟩, fun _ h => by simp at h⟩⟩⟩) (fun hHeld => ?_)
              clear hK K
              try simp only [Act.put, sA, sZ, sS]
              refine wpAnyH_ready (rs := [10]) (by kernel_rfl) (by simp) ?_
              refine AllReadyH.cons (List.getElem?_toArray.trans rfl) (fun K hK => ?_) AllReadyH.nil
              obtain ⟨C2, f2, w_7_12_0_3_6_10, hr_7_12_0_3_6_10, hv_7_12_0_3_6_10, _⟩ := run_cat_nums V_7_12_0_3_6.out (i := 2) rfl 23 X.b HX.out.lb (HX.out.cb.below V_7_12_0_3_6.out.below) (by omega) (by omega)
              rw [Nat.zero_add] at hr_7_12_0_3_6_10 hv_7_12_0_3_6_10
              have HR_7_12_0_3_6_10 := Lib.hid hr_7_12_0_3_6_10
              have V_7_12_0_3_6_10 := Lib.hid (show Hp w (snds C1 (n + p) f1 (X.s ++ Y.s) :: cbox g_7_12 none 0 0 none 0 0 :: nums C2 m f2 X.b :: cbox g2 none 0 0 none 0 0 :: cbox g1 P p e Q q f :: cbox g0 A n c B m d :: []) w_7_12_0_3_6_10 from hv_7_12_0_3_6_10)
              clear hr_7_12_0_3_6_10 hv_7_12_0_3_6_10
              refine step_app_run rfl (.tmp 48) (.tmp 50) 23 rfl HR_7_12_0_3_6_10.out rfl rfl ?_
              refine hK.out _ _ (List.forall_mem_cons.2 ⟨⟨(V_7_12_0_3_6_10.out.cbox_at (i := 5) rfl).1, (V_7_12_0_3_6_10.out.cbox_at (i := 5) rfl).2.2⟩, List.forall_mem_cons.2 ⟨⟨(V_7_12_0_3_6_10.out.cbox_at (i := 5) rfl).2.1, (V_7_12_0_3_6_10.out.cbox_at (i := 5) rfl).2.2⟩, List.forall_mem_cons.2 ⟨⟨(V_7_12_0_3_6_10.out.cbox_at (i := 4) rfl).1, (V_7_12_0_3_6_10.out.cbox_at (i := 4) rfl).2.2⟩, fun _ h => by simp at h⟩⟩⟩) (fun hHeld => ?_)
              clear hK K
              try simp only [Act.put, sA, sZ, sS]
              refine tk 11 ?_ rfl ?_ ?_; rotate_left; focus (intro w hSw; clear hSw; go_simp; try (with_reducible rfl))
              try simp only [Act.put, sA, sZ, sS]
              refine wpAnyH_ready (rs := [13]) (by kernel_rfl) (by simp) ?_
              refine AllReadyH.cons (List.getElem?_toArray.trans rfl) (fun K hK => ?_) AllReadyH.nil
              obtain ⟨⟨s0, s1, s2⟩, s3, s4⟩ := V_7_12_0_3_6_10.out.cbox_st (i := 1) rfl
              have VX := Lib.hid (V_7_12_0_3_6_10.out.cbox_set (i := 1) rfl C1 (n + p) f1 C2 m f2)
              go_simp
              refine hK.out _ _ (List.forall_mem_cons.2 ⟨⟨(VX.out.cbox_at (i := 5) rfl).1, (VX.out.cbox_at (i := 5) rfl).2.2⟩, List.forall_mem_cons.2 ⟨⟨(VX.out.cbox_at (i := 5) rfl).2.1, (VX.out.cbox_at (i := 5) rfl).2.2⟩, List.forall_mem_cons.2 ⟨⟨(VX.out.cbox_at (i := 4) rfl).1, (VX.out.cbox_at (i := 4) rfl).2.2⟩, fun _ h => by simp at h⟩⟩⟩) (fun hHeld => ?_)
              clear hK K
              try simp only [Act.put, sA, sZ, sS]
              refine wpAnyH_done (by kernel_rfl) ?_ _
              clear hHeld
              go_wp2_with fail
              go_meet
              exact ⟨_, _, _, _, _, rfl, VX.out.pick [1, 2, 0, 3, 4, 5] (by decide) rfl⟩
            exact AllReadyH.nil
          refine AllReadyH.cons (List.getElem?_toArray.trans rfl) (fun K hK => ?_) ?_
          · obtain ⟨w_12, hw_12⟩ : ∃ z, z = wf.alloc (.cells #[.slice none 0 0, .slice none 0 0] 25) := ⟨_, rfl⟩
            obtain ⟨g_12, hg_12⟩ : ∃ z, z = wf.heap.size := ⟨_, rfl⟩
            have V_12 := Lib.hid (show Hp w (cbox g_12 none 0 0 none 0 0 :: cbox g2 none 0 0 none 0 0 :: cbox g1 P p e Q q f :: cbox g0 A n c B m d :: []) w_12 by rw [hw_12, hg_12]; exact Vwf.out.cbox_new none 0 0 none 0 0)
            have B_12 := Lib.hid (show Below wf.heap.size wf w_12 by rw [hw_12]; exact bnew _ _)
            have HW_12 := Lib.hid hw_12
            have HG_12 := Lib.hid hg_12
            clear hw_12 hg_12
            go_simp
            try rw [← HW_12.out]
            try rw [← HG_12.out]
            refine hK.out _ _ (hHeld.go B_12.out) (fun hHeld => ?_)
            clear hK K
            try simp only [Act.put, sA, sZ, sS]
            refine wpAnyH_ready (rs := [0, 7]) (by kernel_rfl) (by simp) ?_
            refine AllReadyH.cons (List.getElem?_toArray.trans rfl) (fun K hK => ?_) ?_
            · obtain ⟨w_12_0, hw_12_0⟩ : ∃ z, z = w_12.alloc (.cells #[] 51) := ⟨_, rfl⟩
              obtain ⟨g_12_0, hg_12_0⟩ : ∃ z, z = w_12.heap.size := ⟨_, rfl⟩
              have V_12_0 := Lib.hid (show Hp w (snds (some ⟨g_12_0, 0, none⟩) 0 0 [] :: cbox g_12 none 0 0 none 0 0 :: cbox g2 none 0 0 none 0 0 :: cbox g1 P p e Q q f :: cbox g0 A n c B m d :: []) w_12_0 by rw [hw_12_0, hg_12_0]; exact V_12.out.lit 51 3 0 [] rfl (by decide))
              have B_12_0 := Lib.hid (show Below w_12.heap.size w_12 w_12_0 by rw [hw_12_0]; exact bnew _ _)
              have HW_12_0 := Lib.hid hw_12_0
              have HG_12_0 := Lib.hid hg_12_0
              clear hw_12_0 hg_12_0
              go_simp
              try rw [← HW_12_0.out]
              try rw [← HG_12_0.out]
              refine hK.out _ _ (hHeld.go B_12_0.out) (fun hHeld => ?_)
              clear hK K
              try simp only [Act.put, sA, sZ, sS]
              refine wpAnyH_ready (rs := [3, 7]) (by kernel_rfl) (by simp) ?_
              refine AllReadyH.cons (List.getElem?_toArray.trans rfl) (fun K hK => ?_) ?_
              · obtain ⟨Ca, fa, w_12_0_3, hr_12_0_3, hv_12_0_3, _⟩ := run_cat_snds V_12_0.out (i := 0) rfl 22 X.s HX.out.ls (HX.out.cs.below V_12_0.out.below) (by omega) (by omega)
                rw [Nat.zero_add] at hr_12_0_3 hv_12_0_3
                have HR_12_0_3 := Lib.hid hr_12_0_3
                have V_12_0_3 := Lib.hid (show Hp w (snds Ca n fa X.s :: cbox g_12 none 0 0 none 0 0 :: cbox g2 none 0 0 none 0 0 :: cbox g1 P p e Q q f :: cbox g0 A n c B m d :: []) w_12_0_3 from hv_12_0_3)
                clear hr_12_0_3 hv_12_0_3
                refine step_app_run rfl (.tmp 41) (.tmp 43) 22 rfl HR_12_0_3.out rfl rfl ?_
                refine hK.out _ _ (List.forall_mem_cons.2 ⟨⟨(V_12_0_3.out.cbox_at (i := 4) rfl).1, (V_12_0_3.out.cbox_at (i := 4) rfl).2.2⟩, List.forall_mem_cons.2 ⟨⟨(V_12_0_3.out.cbox_at (i := 4) rfl).2.1, (V_12_0_3.out.cbox_at (i := 4) rfl).2.2⟩, List.forall_mem_cons.2 ⟨⟨(V_12_0_3.out.cbox_at (i := 3) rfl).1, (V_12_0_3.out.cbox_at (i := 3) rfl).2.2⟩, fun _ h => by simp at h⟩⟩⟩) (fun hHeld => ?_)
                clear hK K
                try simp only [Act.put, sA, sZ, sS]
                refine wpAnyH_ready (rs := [6, 7]) (by kernel_rfl) (by simp) ?_
                refine AllReadyH.cons (List.getElem?_toArray.trans rfl) (fun K hK => ?_) ?_
                · obtain ⟨C1, f1, w_12_0_3_6, hr_12_0_3_6, hv_12_0_3_6, _⟩ := run_cat_snds V_12_0_3.out (i := 0) rfl 22 Y.s HY.out.ls (HY.out.cs.below V_12_0_3.out.below) (by omega) (by omega)
                  have HR_12_0_3_6 := Lib.hid hr_12_0_3_6
                  have V_12_0_3_6 := Lib.hid (show Hp w (snds C1 (n + p) f1 (X.s ++ Y.s) :: cbox g_12 none 0 0 none 0 0 :: cbox g2 none 0 0 none 0 0 :: cbox g1 P p e Q q f :: cbox g0 A n c B m d :: []) w_12_0_3_6 from hv_12_0_3_6)
                  clear hr_12_0_3_6 hv_12_0_3_6
                  refine step_app_run rfl (.tmp 44) (.tmp 46) 22 rfl HR_12_0_3_6.out rfl rfl ?_
                  refine hK.out _ _ (List.forall_mem_cons.2 ⟨⟨(V_12_0_3_6.out.cbox_at (i := 4) rfl).1, (V_12_0_3_6.out.cbox_at (i := 4) rfl).2.2⟩, List.forall_mem_cons.2 ⟨⟨(V_12_0_3_6.out.cbox_at (i := 4) rfl).2.1, (V_12_0_3_6.out.cbox_at (i := 4) rfl).2.2⟩, List.forall_mem_cons.2 ⟨⟨(V_12_0_3_6.out.cbox_at (i := 3) rfl).1, (V_12_0_3_6.out.cbox_at (i := 3) rfl).2.2⟩, fun _ h => by simp at h⟩⟩⟩) (fun hHeld => ?_)
                  clear hK K
                  try simp only [Act.put, sA, sZ, sS]
                  refine wpAnyH_ready (rs := [7]) (by kernel_rfl) (by simp) ?_
                  refine AllReadyH.cons (List.getElem?_toArray.trans rfl) (fun K hK => ?_) AllReadyH.nil
                  obtain ⟨w_12_0_3_6_7, hw_12_0_3_6_7⟩ : ∃ z, z = w_12_0_3_6.alloc (.cells #[] 3) := ⟨_, rfl⟩
                  obtain ⟨g_12_0_3_6_7, hg_12_0_3_6_7⟩ : ∃ z, z = w_12_0_3_6.heap.size := ⟨_, rfl⟩
                  have V_12_0_3_6_7 := Lib.hid (show Hp w (nums (some ⟨g_12_0_3_6_7, 0, none⟩) 0 0 [] :: snds C1 (n + p) f1 (X.s ++ Y.s) :: cbox g_12 none 0 0 none 0 0 :: cbox g2 none 0 0 none 0 0 :: cbox g1 P p e Q q f :: cbox g0 A n c B m d :: []) w_12_0_3_6_7 by rw [hw_12_0_3_6_7, hg_12_0_3_6_7]; exact V_12_0_3_6.out.lit 3 1 0 [] rfl (by decide))
                  have B_12_0_3_6_7 := Lib.hid (show Below w_12_0_3_6.heap.size w_12_0_3_6 w_12_0_3_6_7 by rw [hw_12_0_3_6_7]; exact bnew _ _)
                  have HW_12_0_3_6_7 := Lib.hid hw_12_0_3_6_7
                  have HG_12_0_3_6_7 := Lib.hid hg_12_0_3_6_7
                  clear hw_12_0_3_6_7 hg_12_0_3_6_7
                  go_simp
                  try rw [← HW_12_0_3_6_7.out]
                  try rw [← HG_12_0_3_6_7.out]
                  refine hK.out _ _ (hHeld.go B_12_0_3_6_7.out) (fun hHeld => ?_)
                  clear hK K
                  try simp only [Act.put, sA, sZ, sS]
                  refine wpAnyH_ready (rs := [10]) (by kernel_rfl) (by simp) ?_
                  refine AllReadyH.cons (List.getElem?_toArray.trans rfl) (fun K hK => ?_) AllReadyH.nil
                  obtain ⟨C2, f2, w_12_0_3_6_7_10, hr_12_0_3_6_7_10, hv_12_0_3_6_7_10, _⟩ := run_cat_nums V_12_0_3_6_7.out (i := 0) rfl 23 X.b HX.out.lb (HX.out.cb.below V_12_0_3_6_7.out.below) (by omega) (by omega)
                  rw [Nat.zero_add] at hr_12_0_3_6_7_10 hv_12_0_3_6_7_10
                  have HR_12_0_3_6_7_10 := Lib.hid hr_12_0_3_6_7_10
                  have V_12_0_3_6_7_10 := Lib.hid (show Hp w (nums C2 m f2 X.b :: snds C1 (n + p) f1 (X.s ++ Y.s) :: cbox g_12 none 0 0 none 0 0 :: cbox g2 none 0 0 none 0 0 :: cbox g1 P p e Q q f :: cbox g0 A n c B m d :: []) w_12_0_3_6_7_10 from hv_12_0_3_6_7_10)
                  clear hr_12_0_3_6_7_10 hv_12_0_3_6_7_10
                  refine step_app_run rfl (.tmp 48) (.tmp 50) 23 rfl HR_12_0_3_6_7_10.out rfl rfl ?_
                  refine hK.out _ _ (List.forall_mem_cons.2 ⟨⟨(V_12_0_3_6_7_10.out.cbox_at (i := 5) rfl).1, (V_12_0_3_6_7_10.out.cbox_at (i := 5) rfl).2.2⟩, List.forall_mem_cons.2 ⟨⟨(V_12_0_3_6_7_10.out.cbox_at (i := 5) rfl).2.1, (V_12_0_3_6_7_10.out.cbox_at (i := 5) rfl).2.2⟩, List.forall_mem_cons.2 ⟨⟨(V_12_0_3_6_7_10.out.cbox_at (i := 4) rfl).1, (V_12_0_3_6_7_10.out.cbox_at (i := 4) rfl).2.2⟩, fun _ h => by simp at h⟩⟩⟩) (fun hHeld => ?_)
                  clear hK K
                  try simp only [Act.put, sA, sZ, sS]
                  refine tk 11 ?_ rfl ?_ ?_; rotate_left; focus (intro w hSw; clear hSw; go_simp; try (with_reducible rfl))
                  try simp only [Act.put, sA, sZ, sS]
                  refine wpAnyH_ready (rs := [13]) (by kernel_rfl) (by simp) ?_
                  refine AllReadyH.cons (List.getElem?_toArray.trans rfl) (fun K hK => ?_) AllReadyH.nil
                  obtain ⟨⟨s0, s1, s2⟩, s3, s4⟩ := V_12_0_3_6_7_10.out.cbox_st (i := 2) rfl
                  have VX := Lib.hid (V_12_0_3_6_7_10.out.cbox_set (i := 2) rfl C1 (n + p) f1 C2 m f2)
                  go_simp
                  refine hK.out _ _ (List.forall_mem_cons.2 ⟨⟨(VX.out.cbox_at (i := 5) rfl).1, (VX.out.cbox_at (i := 5) rfl).2.2⟩, List.forall_mem_cons.2 ⟨⟨(VX.out.cbox_at (i := 5) rfl).2.1, (VX.out.cbox_at (i := 5) rfl).2.2⟩, List.forall_mem_cons.2 ⟨⟨(VX.out.cbox_at (i := 4) rfl).1, (VX.out.cbox_at (i := 4) rfl).2.2⟩, fun _ h => by simp at h⟩⟩⟩) (fun hHeld => ?_)
                  clear hK K
                  try simp only [Act.put, sA, sZ, sS]
                  refine wpAnyH_done (by kernel_rfl) ?_ _
                  clear hHeld
                  go_wp2_with fail
                  go_meet
                  exact ⟨_, _, _, _, _, rfl, VX.out.pick [2, 0, 1, 3, 4, 5] (by decide) rfl⟩
                refine AllReadyH.cons (List.getElem?_toArray.trans rfl) (fun K hK => ?_) ?_
                · obtain ⟨w_12_0_3_7, hw_12_0_3_7⟩ : ∃ z, z = w_12_0_3.alloc (.cells #[] 3) := ⟨_, rfl⟩
                  obtain ⟨g_12_0_3_7, hg_12_0_3_7⟩ : ∃ z, z = w_12_0_3.heap.size := ⟨_, rfl⟩
                  have V_12_0_3_7 := Lib.hid (show Hp w (nums (some ⟨g_12_0_3_7, 0, none⟩) 0 0 [] :: snds Ca n fa X.s :: cbox g_12 none 0 0 none 0 0 :: cbox g2 none 0 0 none 0 0 :: cbox g1 P p e Q q f :: cbox g0 A n c B m d :: []) w_12_0_3_7 by rw [hw_12_0_3_7, hg_12_0_3_7]; exact V_12_0_3.out.lit 3 1 0 [] rfl (by decide))
                  have B_12_0_3_7 := Lib.hid (show Below w_12_0_3.heap.size w_12_0_3 w_12_0_3_7 by rw [hw_12_0_3_7]; exact bnew _ _)
                  have HW_12_0_3_7 := Lib.hid hw_12_0_3_7
                  have HG_12_0_3_7 := Lib.hid hg_12_0_3_7
                  clear hw_12_0_3_7 hg_12_0_3_7
                  go_simp
                  try rw [← HW_12_0_3_7.out]
                  try rw [← HG_12_0_3_7.out]
                  refine hK.out _ _ (hHeld.go B_12_0_3_7.out) (fun hHeld => ?_)
                  clear hK K
                  try simp only [Act.put, sA, sZ, sS]
                  refine wpAnyH_ready (rs := [6]) (by kernel_rfl) (by simp) ?_
                  refine AllReadyH.cons (List.getElem?_toArray.trans rfl) (fun K hK => ?_) AllReadyH.nil
                  obtain ⟨C1, f1, w_12_0_3_7_6, hr_12_0_3_7_6, hv_12_0_3_7_6, _⟩ := run_cat_snds V_12_0_3_7.out (i := 1) rfl 22 Y.s HY.out.ls (HY.out.cs.below V_12_0_3_7.out.below) (by omega) (by omega)
                  have HR_12_0_3_7_6 := Lib.hid hr_12_0_3_7_6
                  have V_12_0_3_7_6 := Lib.hid (show Hp w (nums (some ⟨g_12_0_3_7, 0, none⟩) 0 0 [] :: snds C1 (n + p) f1 (X.s ++ Y.s) :: cbox g_12 none 0 0 none 0 0 :: cbox g2 none 0 0 none 0 0 :: cbox g1 P p e Q q f :: cbox g0 A n c B m d :: []) w_12_0_3_7_6 from hv_12_0_3_7_6)
                  clear hr_12_0_3_7_6 hv_12_0_3_7_6
                  refine step_app_run rfl (.tmp 44) (.tmp 46) 22 rfl HR_12_0_3_7_6.out rfl rfl ?_
                  refine hK.out _ _ (List.forall_mem_cons.2 ⟨⟨(V_12_0_3_7_6.out.cbox_at (i := 5) rfl).1, (V_12_0_3_7_6.out.cbox_at (i := 5) rfl).2.2⟩, List.forall_mem_cons.2 ⟨⟨(V_12_0_3_7_6.out.cbox_at (i := 5) rfl).2.1, (V_12_0_3_7_6.out.cbox_at (i := 5) rfl).2.2⟩, List.forall_mem_cons.2 ⟨⟨(V_12_0_3_7_6.out.cbox_at (i := 4) rfl).1, (V_12_0_3_7_6.out.cbox_at (i := 4) rfl).2.2⟩, fun _ h => by simp at h⟩⟩⟩) (fun hHeld => ?_)
                  clear hK K
                  try simp only [Act.put, sA, sZ, sS]
                  refine wpAnyH_ready (rs := [10]) (by kernel_rfl) (by simp) ?_
                  refine AllReadyH.cons (List.getElem?_toArray.trans rfl) (fun K hK => ?_) AllReadyH.nil
                  obtain ⟨C2, f2, w_12_0_3_7_6_10, hr_12_0_3_7_6_10, hv_12_0_3_7_6_10, _⟩ := run_cat_nums V_12_0_3_7_6.out (i := 0) rfl 23 X.b HX.out.lb (HX.out.cb.below V_12_0_3_7_6.out.below) (by omega) (by omega)
                  rw [Nat.zero_add] at hr_12_0_3_7_6_10 hv_12_0_3_7_6_10
                  have HR_12_0_3_7_6_10 := Lib.hid hr_12_0_3_7_6_10
                  have V_12_0_3_7_6_10 := Lib.hid (show Hp w (nums C2 m f2 X.b :: snds C1 (n + p) f1 (X.s ++ Y.s) :: cbox g_12 none 0 0 none 0 0 :: cbox g2 none 0 0 none 0 0 :: cbox g1 P p e Q q f :: cbox g0 A n c B m d :: []) w_12_0_3_7_6_10 from hv_12_0_3_7_6_10)
                  clear hr_12_0_3_7_6_10 hv_12_0_3_7_6_10
                  refine step_app_run rfl (.tmp 48) (.tmp 50) 23 rfl HR_12_0_3_7_6_10.out rfl rfl ?_
                  refine hK.out _ _ (List.forall_mem_cons.2 ⟨⟨(V_12_0_3_7_6_10.out.cbox_at (i := 5) rfl).1, (V_12_0_3_7_6_10.out.cbox_at (i := 5) rfl).2.2⟩, List.forall_mem_cons.2 ⟨⟨(V_12_0_3_7_6_10.out.cbox_at (i := 5) rfl).2.1, (V_12_0_3_7_6_10.out.cbox_at (i := 5) rfl).2.2⟩, List.forall_mem_cons.2 ⟨⟨(V_12_0_3_7_6_10.out.cbox_at (i := 4) rfl).1, (V_12_0_3_7_6_10.out.cbox_at (i := 4) rfl).2.2⟩, fun _ h => by simp at h⟩⟩⟩) (fun hHeld => ?_)
                  clear hK K
                  try simp only [Act.put, sA, sZ, sS]
                  refine tk 11 ?_ rfl ?_ ?_; rotate_left; focus (intro w hSw; clear hSw; go_simp; try (with_reducible rfl))
                  try simp only [Act.put, sA, sZ, sS]
                  refine wpAnyH_ready (rs := [13]) (by kernel_rfl) (by simp) ?_
                  refine AllReadyH.cons (List.getElem?_toArray.trans rfl) (fun K hK => ?_) AllReadyH.nil
                  obtain ⟨⟨s0, s1, s2⟩, s3, s4⟩ := V_12_0_3_7_6_10.out.cbox_st (i := 2) rfl
                  have VX := Lib.hid (V_12_0_3_7_6_10.out.cbox_set (i := 2) rfl C1 (n + p) f1 C2 m f2)
                  go_simp
                  refine hK.out _ _ (List.forall_mem_cons.2 ⟨⟨(VX.out.cbox_at (i := 5) rfl).1, (VX.out.cbox_at (i := 5) rfl).2.2⟩, List.forall_mem_cons.2 ⟨⟨(VX.out.cbox_at (i := 5) rfl).2.1, (VX.out.cbox_at (i := 5) rfl).2.2⟩, List.forall_mem_cons.2 ⟨⟨(VX.out.cbox_at (i := 4) rfl).1, (VX.out.cbox_at (i := 4) rfl).2.2⟩, fun _ h => by simp at h⟩⟩⟩) (fun hHeld => ?_)
                  clear hK K
                  try simp only [Act.put, sA, sZ, sS]
                  refine wpAnyH_done (by kernel_rfl) ?_ _
                  clear hHeld
                  go_wp2_with fail
                  go_meet
                  exact ⟨_, _, _, _, _, rfl, VX.out.pick [2, 0, 1, 3, 4, 5] (by decide) rfl⟩
                exact AllReadyH.nil
              refine AllReadyH.cons (List.getElem?_toArray.trans rfl) (fun K hK => ?_) ?_
              · obtain ⟨w_12_0_7, hw_12_0_7⟩ : ∃ z, z = w_12_0.alloc (.cells #[] 3) := ⟨_, rfl⟩
                obtain ⟨g_12_0_7, hg_12_0_7⟩ : ∃ z, z = w_12_0.heap.size := ⟨_, rfl⟩
                have V_12_0_7 := Lib.hid (show Hp w (nums (some ⟨g_12_0_7, 0, none⟩) 0 0 [] :: snds (some ⟨g_12_0, 0, none⟩) 0 0 [] :: cbox g_12 none 0 0 none 0 0 :: cbox g2 none 0 0 none 0 0 :: cbox g1 P p e Q q f :: cbox g0 A n c B m d :: []) w_12_0_7 by rw [hw_12_0_7, hg_12_0_7]; exact V_12_0.out.lit 3 1 0 [] rfl (by decide))
                have B_12_0_7 := Lib.hid (show Below w_12_0.heap.size w_12_0 w_12_0_7 by rw [hw_12_0_7]; exact bnew _ _)
                have HW_12_0_7 := Lib.hid hw_12_0_7
                have HG_12_0_7 := Lib.hid hg_12_0_7
                clear hw_12_0_7 hg_12_0_7
                go_simp
                try rw [← HW_12_0_7.out]
                try rw [← HG_12_0_7.out]
                refine hK.out _ _ (hHeld.go B_12_0_7.out) (fun hHeld => ?_)
                clear hK K
                try simp only [Act.put, sA, sZ, sS]
                refine wpAnyH_ready (rs := [3]) (by kernel_rfl) (by simp) ?_
                refine AllReadyH.cons (List.getElem?_toArray.trans rfl) (fun K hK => ?_) AllReadyH.nil
                obtain ⟨Ca, fa, w_12_0_7_3, hr_12_0_7_3, hv_12_0_7_3, _⟩ := run_cat_snds V_12_0_7.out (i := 1) rfl 22 X.s HX.out.ls (HX.out.cs.below V_12_0_7.out.below) (by omega) (by omega)
                rw [Nat.zero_add] at hr_12_0_7_3 hv_12_0_7_3
                have HR_12_0_7_3 := Lib.hid hr_12_0_7_3
                have V_12_0_7_3 := Lib.hid (show Hp w (nums (some ⟨g_12_0_7, 0, none⟩) 0 0 [] :: snds Ca n fa X.s :: cbox g_12 none 0 0 none 0 0 :: cbox g2 none 0 0 none 0 0 :: cbox g1 P p e Q q f :: cbox g0 A n c B m d :: []) w_12_0_7_3 from hv_12_0_7_3)
                clear hr_12_0_7_3 hv_12_0_7_3
                refine step_app_run rfl (.tmp 41) (.tmp 43) 22 rfl HR_12_0_7_3.out rfl rfl ?_
                refine hK.out _ _ (List.forall_mem_cons.2 ⟨⟨(V_12_0_7_3.out.cbox_at (i := 5) rfl).1, (V_12_0_7_3.out.cbox_at (i := 5) rfl).2.2⟩, List.forall_mem_cons.2 ⟨⟨(V_12_0_7_3.out.cbox_at (i := 5) rfl).2.1, (V_12_0_7_3.out.cbox_at (i := 5) rfl).2.2⟩, List.forall_mem_cons.2 ⟨⟨(V_12_0_7_3.out.cbox_at (i := 4) rfl).1, (V_12_0_7_3.out.cbox_at (i := 4) rfl).2.2⟩, fun _ h => by simp at h⟩⟩⟩) (fun hHeld => ?_)
                clear hK K
                try simp only [Act.put, sA, sZ, sS]
                refine wpAnyH_ready (rs := [6]) (by kernel_rfl) (by simp) ?_
                refine AllReadyH.cons (List.getElem?_toArray.trans rfl) (fun K hK => ?_) AllReadyH.nil
                obtain ⟨C1, f1, w_12_0_7_3_6, hr_12_0_7_3_6, hv_12_0_7_3_6, _⟩ := run_cat_snds V_12_0_7_3.out (i := 1) rfl 22 Y.s HY.out.ls (HY.out.cs.below V_12_0_7_3.out.below) (by omega) (by omega)
                have HR_12_0_7_3_6 := Lib.hid hr_12_0_7_3_6
                have V_12_0_7_3_6 := Lib.hid (show Hp w (nums (some ⟨g_12_0_7, 0, none⟩) 0 0 [] :: snds C1 (n + p) f1 (X.s ++ Y.s) :: cbox g_12 none 0 0 none 0 0 :: cbox g2 none 0 0 none 0 0 :: cbox g1 P p e Q q f :: cbox g0 A n c B m d :: []) w_12_0_7_3_6 from hv_12_0_7_3_6)
                clear hr_12_0_7_3_6 hv_12_0_7_3_6
                refine step_app_run rfl (.tmp 44) (.tmp 46) 22 rfl HR_12_0_7_3_6.out rfl rfl ?_
                refine hK.out _ _ (List.forall_mem_cons.2 ⟨⟨(V_12_0_7_3_6.out.cbox_at (i := 5) rfl).1, (V_12_0_7_3_6.out.cbox_at (i := 5) rfl).2.2⟩, List.forall_mem_cons.2 ⟨⟨(V_12_0_7_3_6.out.cbox_at (i := 5) rfl).2.1, (V_12_0_7_3_6.out.cbox_at (i := 5) rfl).2.2⟩, List.forall_mem_cons.2 ⟨⟨(V_12_0_7_3_6.out.cbox_at (i := 4) rfl).1, (V_12_0_7_3_6.out.cbox_at (i := 4) rfl).2.2⟩, fun _ h => by simp at h⟩⟩⟩) (fun hHeld => ?_)
                clear hK K
                try simp only [Act.put, sA, sZ, sS]
                refine wpAnyH_ready (rs := [10]) (by kernel_rfl) (by simp) ?_
                refine AllReadyH.cons (List.getElem?_toArray.trans rfl) (fun K hK => ?_) AllReadyH.nil
                obtain ⟨C2, f2, w_12_0_7_3_6_10, hr_12_0_7_3_6_10, hv_12_0_7_3_6_10, _⟩ := run_cat_nums V_12_0_7_3_6.out (i := 0) rfl 23 X.b HX.out.lb (HX.out.cb.below V_12_0_7_3_6.out.below) (by omega) (by omega)
                rw [Nat.zero_add] at hr_12_0_7_3_6_10 hv_12_0_7_3_6_10
                have HR_12_0_7_3_6_10 := Lib.hid hr_12_0_7_3_6_10
                have V_12_0_7_3_6_10 := Lib.hid (show Hp w (nums C2 m f2 X.b :: snds C1 (n + p) f1 (X.s ++ Y.s) :: cbox g_12 none 0 0 none 0 0 :: cbox g2 none 0 0 none 0 0 :: cbox g1 P p e Q q f :: cbox g0 A n c B m d :: []) w_12_0_7_3_6_10 from hv_12_0_7_3_6_10)
                clear hr_12_0_7_3_6_10 hv_12_0_7_3_6_10
                refine step_app_run rfl (.tmp 48) (.tmp 50) 23 rfl HR_12_0_7_3_6_10.out rfl rfl ?_
                refine hK.out _ _ (List.forall_mem_cons.2 ⟨⟨(V_12_0_7_3_6_10.out.cbox_at (i := 5) rfl).1, (V_12_0_7_3_6_10.out.cbox_at (i := 5) rfl).2.2⟩, List.forall_mem_cons.2 ⟨⟨(V_12_0_7_3_6_10.out.cbox_at (i := 5) rfl).2.1, (V_12_0_7_3_6_10.out.cbox_at (i := 5) rfl).2.2⟩, List.forall_mem_cons.2 ⟨⟨(V_12_0_7_3_6_10.out.cbox_at (i := 4) rfl).1, (V_12_0_7_3_6_10.out.cbox_at (i := 4) rfl).2.2⟩, fun _ h => by simp at h⟩⟩⟩) (fun hHeld => ?_)
                clear hK K
                try simp only [Act.put, sA, sZ, sS]
                refine tk 11 ?_ rfl ?_ ?_; rotate_left; focus (intro w hSw; clear hSw; go_simp; try (with_reducible rfl))
                try simp only [Act.put, sA, sZ, sS]
                refine wpAnyH_ready (rs := [13]) (by kernel_rfl) (by simp) ?_
                refine AllReadyH.cons (List.getElem?_toArray.trans rfl) (fun K hK => ?_) AllReadyH.nil
                obtain ⟨⟨s0, s1, s2⟩, s3, s4⟩ := V_12_0_7_3_6_10.out.cbox_st (i := 2) rfl
                have VX := Lib.hid (V_12_0_7_3_6_10.out.cbox_set (i := 2) rfl C1 (n + p) f1 C2 m f2)
                go_simp
                refine hK.out _ _ (List.forall_mem_cons.2 ⟨⟨(VX.out.cbox_at (i := 5) rfl).1, (VX.out.cbox_at (i := 5) rfl).2.2⟩, List.forall_mem_cons.2 ⟨⟨(VX.out.cbox_at (i := 5) rfl).2.1, (VX.out.cbox_at (i := 5) rfl).2.2⟩, List.forall_mem_cons.2 ⟨⟨(VX.out.cbox_at (i := 4) rfl).1, (VX.out.cbox_at (i := 4) rfl).2.2⟩, fun _ h => by simp at h⟩⟩⟩) (fun hHeld => ?_)
                clear hK K
                try simp only [Act.put, sA, sZ, sS]
                refine wpAnyH_done (by kernel_rfl) ?_ _
                clear hHeld
                go_wp2_with fail
                go_meet
                exact ⟨_, _, _, _, _, rfl, VX.out.pick [2, 0, 1, 3, 4, 5] (by decide) rfl⟩
              exact AllReadyH.nil
            refine AllReadyH.cons (List.getElem?_toArray.trans rfl) (fun K hK => ?_) ?_
            · obtain ⟨w_12_7, hw_12_7⟩ : ∃ z, z = w_12.alloc (.cells #[] 3) := ⟨_, rfl⟩
              obtain ⟨g_12_7, hg_12_7⟩ : ∃ z, z = w_12.heap.size := ⟨_, rfl⟩
              have V_12_7 := Lib.hid (show Hp w (nums (some ⟨g_12_7, 0, none⟩) 0 0 [] :: cbox g_12 none 0 0 none 0 0 :: cbox g2 none 0 0 none 0 0 :: cbox g1 P p e Q q f :: cbox g0 A n c B m d :: []) w_12_7 by rw [hw_12_7, hg_12_7]; exact V_12.out.lit 3 1 0 [] rfl (by decide))
              have B_12_7 := Lib.hid (show Below w_12.heap.size w_12 w_12_7 by rw [hw_12_7]; exact bnew _ _)
              have HW_12_7 := Lib.hid hw_12_7
              have HG_12_7 := Lib.hid hg_12_7
              clear hw_12_7 hg_12_7
              go_simp
              try rw [← HW_12_7.out]
              try rw [← HG_12_7.out]
              refine hK.out _ _ (hHeld.go B_12_7.out) (fun hHeld => ?_)
              clear hK K
              try simp only [Act.put, sA, sZ, sS]
              refine wpAnyH_ready (rs := [0]) (by kernel_rfl) (by simp) ?_
              refine AllReadyH.cons (List.getElem?_toArray.trans rfl) (fun K hK => ?_) AllReadyH.nil
              obtain ⟨w_12_7_0, hw_12_7_0⟩ : ∃ z, z = w_12_7.alloc (.cells #[] 51) := ⟨_, rfl⟩
              obtain ⟨g_12_7_0, hg_12_7_0⟩ : ∃ z, z = w_12_7.heap.size := ⟨_, rfl⟩
              have V_12_7_0 := Lib.hid (show Hp w (snds (some ⟨g_12_7_0, 0, none⟩) 0 0 [] :: nums (some ⟨g_12_7, 0, none⟩) 0 0 [] :: cbox g_12 none 0 0 none 0 0 :: cbox g2 none 0 0 none 0 0 :: cbox g1 P p e Q q f :: cbox g0 A n c B m d :: []) w_12_7_0 by rw [hw_12_7_0, hg_12_7_0]; exact V_12_7.out.lit 51 3 0 [] rfl (by decide))
              have B_12_7_0 := Lib.hid (show Below w_12_7.heap.size w_12_7 w_12_7_0 by rw [hw_12_7_0]; exact bnew _ _)
              have HW_12_7_0 := Lib.hid hw_12_7_0
              have HG_12_7_0 := Lib.hid hg_12_7_0
              clear hw_12_7_0 hg_12_7_0
              go_simp
              try rw [← HW_12_7_0.out]
              try rw [← HG_12_7_0.out]
              refine hK.out _ _ (hHeld.go B_12_7_0.out) (fun hHeld => ?_)
              clear hK K
              try simp only [Act.put, sA, sZ, sS]
              refine wpAnyH_ready (rs := [3]) (by kernel_rfl) (by simp) ?_
              refine AllReadyH.cons (List.getElem?_toArray.trans rfl) (fun K hK => ?_) AllReadyH.nil
              obtain ⟨Ca, fa, w_12_7_0_3, hr_12_7_0_3, hv_12_7_0_3, _⟩ := run_cat_snds V_12_7_0.out (i := 0) rfl 22 X.s HX.out.ls (HX.out.cs.below V_12_7_0.out.below) (by omega) (by omega)
              rw [Nat.zero_add] at hr_12_7_0_3 hv_12_7_0_3
              have HR_12_7_0_3 := Lib.hid hr_12_7_0_3
              have V_12_7_0_3 := Lib.hid (show Hp w (snds Ca n fa X.s :: nums (some ⟨g_12_7, 0, none⟩) 0 0 [] :: cbox g_12 none 0 0 none 0 0 :: cbox g2 none 0 0 none 0 0 :: cbox g1 P p e Q q f :: cbox g0 A n c B m d :: []) w_12_7_0_3 from hv_12_7_0_3)
              clear hr_12_7_0_3 hv_12_7_0_3
              refine step_app_run rfl (.tmp 41) (.tmp 43) 22 rfl HR_12_7_0_3.out rfl rfl ?_
              refine hK.out _ _ (List.forall_mem_cons.2 ⟨⟨(V_12_7_0_3.out.cbox_at (i := 5) rfl).1, (V_12_7_0_3.out.cbox_at (i := 5) rfl).2.2⟩, List.forall_mem_cons.2 ⟨⟨(V_12_7_0_3.out.cbox_at (i := 5) rfl).2.1, (V_12_7_0_3.out.cbox_at (i := 5) rfl).2.2⟩, List.forall_mem_cons.2 ⟨⟨(V_12_7_0_3.out.cbox_at (i := 4) rfl).1, (V_12_7_0_3.out.cbox_at (i := 4) rfl).2.2⟩, fun _ h => by simp at h⟩⟩⟩) (fun hHeld => ?_)
              clear hK K
              try simp only [Act.put, sA, sZ, sS]
              refine wpAnyH_ready (rs := [6]) (by kernel_rfl) (by simp) ?_
              refine AllReadyH.cons (List.getElem?_toArray.trans rfl) (fun K hK => ?_) AllReadyH.nil
              obtain ⟨C1, f1, w_12_7_0_3_6, hr_12_7_0_3_6, hv_12_7_0_3_6, _⟩ := run_cat_snds V_12_7_0_3.out (i := 0) rfl 22 Y.s HY.out.ls (HY.out.cs.below V_12_7_0_3.out.below) (by omega) (by omega)
              have HR_12_7_0_3_6 := Lib.hid hr_12_7_0_3_6
              have V_12_7_0_3_6 := Lib.hid (show Hp w (snds C1 (n + p) f1 (X.s ++ Y.s) :: nums (some ⟨g_12_7, 0, none⟩) 0 0 [] :: cbox g_12 none 0 0 none 0 0 :: cbox g2 none 0 0 none 0 0 :: cbox g1 P p e Q q f :: cbox g0 A n c B m d :: []) w_12_7_0_3_6 from hv_12_7_0_3_6)
              clear hr_12_7_0_3_6 hv_12_7_0_3_6
              refine step_app_run rfl (.tmp 44) (.tmp 46) 22 rfl HR_12_7_0_3_6.out rfl rfl ?_
              refine hK.out _ _ (List.forall_mem_cons.2 ⟨⟨(V_12_7_0_3_6.out.cbox_at (i := 5) rfl).1, (V_12_7_0_3_6.out.cbox_at (i := 5) rfl).2.2⟩, List.forall_mem_cons.2 ⟨⟨(V_12_7_0_3_6.out.cbox_at (i := 5) rfl).2.1, (V_12_7_0_3_6.out.cbox_at (i := 5) rfl).2.2⟩, List.forall_mem_cons.2 ⟨⟨(V_12_7_0_3_6.out.cbox_at (i := 4) rfl).1, (V_12_7_0_3_6.out.cbox_at (i := 4) rfl).2.2⟩, fun _ h => by simp at h⟩⟩⟩) (fun hHeld => ?_)
              clear hK K
              try simp only [Act.put, sA, sZ, sS]
              refine wpAnyH_ready (rs := [10]) (by kernel_rfl) (by simp) ?_
              refine AllReadyH.cons (List.getElem?_toArray.trans rfl) (fun K hK => ?_) AllReadyH.nil
              obtain ⟨C2, f2, w_12_7_0_3_6_10, hr_12_7_0_3_6_10, hv_12_7_0_3_6_10, _⟩ := run_cat_nums V_12_7_0_3_6.out (i := 1) rfl 23 X.b HX.out.lb (HX.out.cb.below V_12_7_0_3_6.out.below) (by omega) (by omega)
              rw [Nat.zero_add] at hr_12_7_0_3_6_10 hv_12_7_0_3_6_10
              have HR_12_7_0_3_6_10 := Lib.hid hr_12_7_0_3_6_10
              have V_12_7_0_3_6_10 := Lib.hid (show Hp w (snds C1 (n + p) f1 (X.s ++ Y.s) :: nums C2 m f2 X.b :: cbox g_12 none 0 0 none 0 0 :: cbox g2 none 0 0 none 0 0 :: cbox g1 P p e Q q f :: cbox g0 A n c B m d :: []) w_12_7_0_3_6_10 from hv_12_7_0_3_6_10)
              clear hr_12_7_0_3_6_10 hv_12_7_0_3_6_10
              refine step_app_run rfl (.tmp 48) (.tmp 50) 23 rfl HR_12_7_0_3_6_10.out rfl rfl ?_
              refine hK.out _ _ (List.forall_mem_cons.2 ⟨⟨(V_12_7_0_3_6_10.out.cbox_at (i := 5) rfl).1, (V_12_7_0_3_6_10.out.cbox_at (i := 5) rfl).2.2⟩, List.forall_mem_cons.2 ⟨⟨(V_12_7_0_3_6_10.out.cbox_at (i := 5) rfl).2.1, (V_12_7_0_3_6_10.out.cbox_at (i := 5) rfl).2.2⟩, List.forall_mem_cons.2 ⟨⟨(V_12_7_0_3_6_10.out.cbox_at (i := 4) rfl).1, (V_12_7_0_3_6_10.out.cbox_at (i := 4) rfl).2.2⟩, fun _ h => by simp at h⟩⟩⟩) (fun hHeld => ?_)
              clear hK K
              try simp only [Act.put, sA, sZ, sS]
              refine tk 11 ?_ rfl ?_ ?_; rotate_left; focus (intro w hSw; clear hSw; go_simp; try (with_reducible rfl))
              try simp only [Act.put, sA, sZ, sS]
              refine wpAnyH_ready (rs := [13]) (by kernel_rfl) (by simp) ?_
              refine AllReadyH.cons (List.getElem?_toArray.trans rfl) (fun K hK => ?_) AllReadyH.nil
              obtain ⟨⟨s0, s1, s2⟩, s3, s4⟩ := V_12_7_0_3_6_10.out.cbox_st (i := 2) rfl
              have VX := Lib.hid (V_12_7_0_3_6_10.out.cbox_set (i := 2) rfl C1 (n + p) f1 C2 m f2)
              go_simp
              refine hK.out _ _ (List.forall_mem_cons.2 ⟨⟨(VX.out.cbox_at (i := 5) rfl).1, (VX.out.cbox_at (i := 5) rfl).2.2⟩, List.forall_mem_cons.2 ⟨⟨(VX.out.cbox_at (i := 5) rfl).2.1, (VX.out.cbox_at (i := 5) rfl).2.2⟩, List.forall_mem_cons.2 ⟨⟨(VX.out.cbox_at (i := 4) rfl).1, (VX.out.cbox_at (i := 4) rfl).2.2⟩, fun _ h => by simp at h⟩⟩⟩) (fun hHeld => ?_)
              clear hK K
              try simp only [Act.put, sA, sZ, sS]
              refine wpAnyH_done (by kernel_rfl) ?_ _
              clear hHeld
              go_wp2_with fail
              go_meet
              exact ⟨_, _, _, _, _, rfl, VX.out.pick [2, 1, 0, 3, 4, 5] (by decide) rfl⟩
            exact AllReadyH.nil
          exact AllReadyH.nil
        case rest =>
          obtain ⟨g, C1, f1, C2, f2, rfl, hV⟩ := hcut
          have V4 := Lib.hid hV
          clear hV V3 V2
          go_wp2_with fail
          go_loopw [9] (fun i wr => ∃ (k f2 : Nat) (C2 : Option Addr), k ≤ q ∧ i = .int .i64 k ∧ Hp w [cbox g C1 (n + p) f1 C2 (m + k) f2, nums C2 (m + k) f2 (X.b ++ upB (n : Int) (Y.b.take k)), snds C1 (n + p) f1 (X.s ++ Y.s), cbox g2 none 0 0 none 0 0, cbox g1 P p e Q q f, cbox g0 A n c B m d] wr) (fun i _ => q - (intOf i).toNat)
          case atStart => exact ⟨0, f2, C2, Nat.zero_le _, rfl, by simpa [upB] using V4.out⟩
          case round =>
            clear V4
            obtain ⟨k, h2, C2, hk, rfl, hV⟩ := hrel
            obtain ⟨wi, rfl⟩ : ∃ wi : World, wi = wr := ⟨_, rfl⟩
            have V := Lib.hid hV
            clear hV
            obtain ⟨b0, b1, bg⟩ := V.out.cbox_at (i := 5) rfl
            obtain ⟨e0, e1, eg⟩ := V.out.cbox_at (i := 4) rfl
            by_cases hlt : k < q
            · obtain ⟨bb, ob, rfl, hbb, x0⟩ := (HY.out.cb.below V.out.below).int (j := k) (by rw [HY.out.lb]; exact hlt)
              have HAT := Lib.hid (ints_get HY.out.lb hlt)
              obtain ⟨a, ha⟩ : ∃ a, Y.b.getD k 0 = a := ⟨_, rfl⟩
              have HAE := Lib.hid ha
              rw [ha] at x0 HAT
              have hab := HBY.out a (List.mem_of_getElem? HAT.out)
              obtain ⟨hab0, hab1⟩ := hab
              obtain ⟨zz, hz⟩ : ∃ y, a + (n : Int) = y := ⟨_, rfl⟩
              have hwz : IntKind.i64.wrap (a + (n : Int)) = zz := by rw [IntWalk.i64_in _ (by omega)]; exact hz
              have HS := Lib.hid (show X.b ++ upB (n : Int) (Y.b.take (k + 1)) = X.b ++ upB (n : Int) (Y.b.take k) ++ [zz] by rw [take_snoc HAT.out, upB_snoc, hz, List.append_assoc])
              have hkq : k < Y.b.length := by rw [HY.out.lb]; exact hlt
              clear ha hz
              go_upto_region 13 with fail
              have hKp : Keep [(⟨g1, 1, none⟩, .slice (some ⟨bb, ob, none⟩) q f), (⟨bb, ob + k, none⟩, .int .i64 a), (⟨g0, 0, none⟩, .slice A n c)] wi := List.forall_mem_cons.2 ⟨⟨(V.out.cbox_at (i := 4) rfl).2.1, (V.out.cbox_at (i := 4) rfl).2.2⟩, List.forall_mem_cons.2 ⟨⟨((HY.out.cb.below V.out.below).iat hkq HAE.out).1, ((HY.out.cb.below V.out.below).iat hkq HAE.out).2⟩, List.forall_mem_cons.2 ⟨⟨(V.out.cbox_at (i := 5) rfl).1, (V.out.cbox_at (i := 5) rfl).2.2⟩, fun _ h => by simp at h⟩⟩⟩
              refine wp_region_held_drew (S := Keep _) (by kernel_rfl) hKp.drew (fun hHeld => ?_)
              obtain ⟨wg, hwg⟩ : ∃ z, z = wi.drew := ⟨_, rfl⟩
              have Vwg := Lib.hid (show Hp w (cbox g C1 (n + p) f1 C2 (m + k) h2 :: nums C2 (m + k) h2 (X.b ++ upB (n : Int) (Y.b.take k)) :: snds C1 (n + p) f1 (X.s ++ Y.s) :: cbox g2 none 0 0 none 0 0 :: cbox g1 P p e (some ⟨bb, ob, none⟩) q f :: cbox g0 A n c B m d :: []) wg by rw [hwg]; exact V.out.go (bdrew _))
              have Bwg := Lib.hid (show Below wi.heap.size wi wg by rw [hwg]; exact bdrew _)
              rw [← hwg] at hHeld ⊢
              clear hwg hKp
              refine tk 0 ?_ rfl ?_ ?_; rotate_left; focus (intro w hSw; clear hSw; go_simp; try (with_reducible rfl))
              try simp only [Act.put, sA, sZ, sS]
              refine tk 2 ?_ rfl ?_ ?_; rotate_left; focus (intro w hSw; clear hSw; go_simp; try (with_reducible rfl))
              try simp only [Act.put, sA, sZ, sS]
              refine tk 3 ?_ rfl ?_ ?_; rotate_left
              · intro wl hSw
                have hSw : Keep _ wl := hSw
                have k0 := (hSw _ (.head _)).1
                dsimp only at k0
                clear hSw
                go_simp
                try (with_reducible rfl)
              try simp only [Act.put, sA, sZ, sS]
              refine tk 4 ?_ rfl ?_ ?_; rotate_left; focus (intro w hSw; clear hSw; go_simp; try (with_reducible rfl))
              try simp only [Act.put, sA, sZ, sS]
              refine tk 5 ?_ rfl ?_ ?_; rotate_left; focus (intro w hSw; clear hSw; go_simp; try (with_reducible rfl))
              try simp only [Act.put, sA, sZ, sS]
              refine tk 6 ?_ rfl ?_ ?_; rotate_left
              · intro wl hSw
                have hSw : Keep _ wl := hSw
                have k0 := (hSw _ (.tail _ (.head _))).1
                dsimp only at k0
                clear hSw
                go_simp
                try (with_reducible rfl)
              try simp only [Act.put, sA, sZ, sS]
              refine tk 7 ?_ rfl ?_ ?_; rotate_left; focus (intro w hSw; clear hSw; go_simp; try (with_reducible rfl))
              try simp only [Act.put, sA, sZ, sS]
              refine tk 8 ?_ rfl ?_ ?_; rotate_left
              · intro wl hSw
                have hSw : Keep _ wl := hSw
                have k0 := (hSw _ (.tail _ (.tail _ (.head _)))).1
                dsimp only at k0
                clear hSw
                go_simp
                try (with_reducible rfl)
              try simp only [Act.put, sA, sZ, sS]
              refine tk 9 ?_ rfl ?_ ?_; rotate_left; focus (intro w hSw; clear hSw; go_simp; try (with_reducible rfl))
              try simp only [Act.put, sA, sZ, sS]
              refine tk 10 ?_ rfl ?_ ?_; rotate_left; focus (intro w hSw; clear hSw; go_simp; try (with_reducible rfl))
              try simp only [Act.put, sA, sZ, sS]
              refine wpAnyH_ready (rs := [1, 11]) (by kernel_rfl) (by simp) ?_
              refine AllReadyH.cons (List.getElem?_toArray.trans rfl) (fun K hK => ?_) ?_
              · have yL := (Vwg.out.cbox_at (i := 0) rfl).2.1
                go_simp
                clear yL
                refine hK.out _ _ (hHeld) (fun hHeld => ?_)
                clear hK K
                try simp only [Act.put, sA, sZ, sS]
                refine wpAnyH_ready (rs := [11]) (by kernel_rfl) (by simp) ?_
                refine AllReadyH.cons (List.getElem?_toArray.trans rfl) (fun K hK => ?_) AllReadyH.nil
                obtain ⟨w_1_11, hw_1_11⟩ : ∃ z, z = wg.alloc (.cells #[.int .i64 zz] 3) := ⟨_, rfl⟩
                obtain ⟨g_1_11, hg_1_11⟩ : ∃ z, z = wg.heap.size := ⟨_, rfl⟩
                have V_1_11 := Lib.hid (show Hp w (box 3 g_1_11 [.int .i64 zz] :: cbox g C1 (n + p) f1 C2 (m + k) h2 :: nums C2 (m + k) h2 (X.b ++ upB (n : Int) (Y.b.take k)) :: snds C1 (n + p) f1 (X.s ++ Y.s) :: cbox g2 none 0 0 none 0 0 :: cbox g1 P p e (some ⟨bb, ob, none⟩) q f :: cbox g0 A n c B m d :: []) w_1_11 by rw [hw_1_11, hg_1_11]; exact Vwg.out.box_new _ _)
                have B_1_11 := Lib.hid (show Below wg.heap.size wg w_1_11 by rw [hw_1_11]; exact bnew _ _)
                have HW_1_11 := Lib.hid hw_1_11
                have HG_1_11 := Lib.hid hg_1_11
                clear hw_1_11 hg_1_11
                go_simp
                try rw [← HW_1_11.out]
                try rw [← HG_1_11.out]
                refine hK.out _ _ (hHeld.go B_1_11.out) (fun hHeld => ?_)
                clear hK K
                try simp only [Act.put, sA, sZ, sS]
                refine wpAnyH_ready (rs := [12]) (by kernel_rfl) (by simp) ?_
                refine AllReadyH.cons (List.getElem?_toArray.trans rfl) (fun K hK => ?_) AllReadyH.nil
                obtain ⟨g_1_11_12, cap_1_11_12, w_1_11_12, hr_1_11_12, hv_1_11_12, _⟩ := run_app_num V_1_11.out (i := 2) rfl 23 zz (V_1_11.out.box_at (i := 0) (j := 0) rfl rfl).1 (by omega)
                have HR_1_11_12 := Lib.hid hr_1_11_12
                have V_1_11_12 := Lib.hid (show Hp w (box 3 g_1_11 [.int .i64 zz] :: cbox g C1 (n + p) f1 C2 (m + k) h2 :: nums (some ⟨g_1_11_12, 0, none⟩) (m + k + 1) cap_1_11_12 (X.b ++ upB (n : Int) (Y.b.take k) ++ [zz]) :: snds C1 (n + p) f1 (X.s ++ Y.s) :: cbox g2 none 0 0 none 0 0 :: cbox g1 P p e (some ⟨bb, ob, none⟩) q f :: cbox g0 A n c B m d :: []) w_1_11_12 from hv_1_11_12)
                clear hr_1_11_12 hv_1_11_12
                refine step_app_run rfl (.tmp 61) (.tmp 71) 23 rfl HR_1_11_12.out rfl rfl ?_
                refine hK.out _ _ (List.forall_mem_cons.2 ⟨⟨(V_1_11_12.out.cbox_at (i := 5) rfl).2.1, (V_1_11_12.out.cbox_at (i := 5) rfl).2.2⟩, List.forall_mem_cons.2 ⟨⟨((HY.out.cb.below V_1_11_12.out.below).iat hkq HAE.out).1, ((HY.out.cb.below V_1_11_12.out.below).iat hkq HAE.out).2⟩, List.forall_mem_cons.2 ⟨⟨(V_1_11_12.out.cbox_at (i := 6) rfl).1, (V_1_11_12.out.cbox_at (i := 6) rfl).2.2⟩, fun _ h => by simp at h⟩⟩⟩) (fun hHeld => ?_)
                clear hK K
                try simp only [Act.put, sA, sZ, sS]
                refine tk 13 ?_ rfl ?_ ?_; rotate_left; focus (intro w hSw; clear hSw; go_simp; try (with_reducible rfl))
                try simp only [Act.put, sA, sZ, sS]
                refine wpAnyH_ready (rs := [14]) (by kernel_rfl) (by simp) ?_
                refine AllReadyH.cons (List.getElem?_toArray.trans rfl) (fun K hK => ?_) AllReadyH.nil
                obtain ⟨⟨s0, s1, s2⟩, s3, s4⟩ := V_1_11_12.out.cbox_st (i := 1) rfl
                have XS := Lib.hid (Hp.box_set (T := 25) (g := g) (cs := [.slice C1 (n + p) f1, .slice C2 (m + k) h2]) V_1_11_12.out (i := 1) rfl 1 (.slice (some ⟨g_1_11_12, 0, none⟩) (m + k + 1) cap_1_11_12))
                go_simp
                clear s0 s1 s2 s3 s4
                refine hK.out _ _ (List.forall_mem_cons.2 ⟨⟨(XS.out.cbox_at (i := 5) rfl).2.1, (XS.out.cbox_at (i := 5) rfl).2.2⟩, List.forall_mem_cons.2 ⟨⟨((HY.out.cb.below XS.out.below).iat hkq HAE.out).1, ((HY.out.cb.below XS.out.below).iat hkq HAE.out).2⟩, List.forall_mem_cons.2 ⟨⟨(XS.out.cbox_at (i := 6) rfl).1, (XS.out.cbox_at (i := 6) rfl).2.2⟩, fun _ h => by simp at h⟩⟩⟩) (fun hHeld => ?_)
                clear hK K
                try simp only [Act.put, sA, sZ, sS]
                refine wpAnyH_done (by kernel_rfl) ?_ _
                have VE := Lib.hid (XS.out.pick [1, 2, 3, 4, 5, 6] (by decide) rfl : Hp w [cbox g C1 (n + p) f1 (some ⟨g_1_11_12, 0, none⟩) (m + k + 1) cap_1_11_12, nums (some ⟨g_1_11_12, 0, none⟩) (m + k + 1) cap_1_11_12 (X.b ++ upB (n : Int) (Y.b.take k) ++ [zz]), snds C1 (n + p) f1 (X.s ++ Y.s), cbox g2 none 0 0 none 0 0, cbox g1 P p e (some ⟨bb, ob, none⟩) q f, cbox g0 A n c B m d] _)
                rw [← HS.out] at VE
                clear hHeld
                go_wp2_with fail
                go_roundw
                case rel => exact ⟨k + 1, _, _, by omega, by go_num, VE.out⟩
                case measure => simp [intOf]; omega
              refine AllReadyH.cons (List.getElem?_toArray.trans rfl) (fun K hK => ?_) ?_
              · obtain ⟨w_11, hw_11⟩ : ∃ z, z = wg.alloc (.cells #[.int .i64 zz] 3) := ⟨_, rfl⟩
                obtain ⟨g_11, hg_11⟩ : ∃ z, z = wg.heap.size := ⟨_, rfl⟩
                have V_11 := Lib.hid (show Hp w (box 3 g_11 [.int .i64 zz] :: cbox g C1 (n + p) f1 C2 (m + k) h2 :: nums C2 (m + k) h2 (X.b ++ upB (n : Int) (Y.b.take k)) :: snds C1 (n + p) f1 (X.s ++ Y.s) :: cbox g2 none 0 0 none 0 0 :: cbox g1 P p e (some ⟨bb, ob, none⟩) q f :: cbox g0 A n c B m d :: []) w_11 by rw [hw_11, hg_11]; exact Vwg.out.box_new _ _)
                have B_11 := Lib.hid (show Below wg.heap.size wg w_11 by rw [hw_11]; exact bnew _ _)
                have HW_11 := Lib.hid hw_11
                have HG_11 := Lib.hid hg_11
                clear hw_11 hg_11
                go_simp
                try rw [← HW_11.out]
                try rw [← HG_11.out]
                refine hK.out _ _ (hHeld.go B_11.out) (fun hHeld => ?_)
                clear hK K
                try simp only [Act.put, sA, sZ, sS]
                refine wpAnyH_ready (rs := [1]) (by kernel_rfl) (by simp) ?_
                refine AllReadyH.cons (List.getElem?_toArray.trans rfl) (fun K hK => ?_) AllReadyH.nil
                have yL := (V_11.out.cbox_at (i := 1) rfl).2.1
                go_simp
                clear yL
                refine hK.out _ _ (hHeld) (fun hHeld => ?_)
                clear hK K
                try simp only [Act.put, sA, sZ, sS]
                refine wpAnyH_ready (rs := [12]) (by kernel_rfl) (by simp) ?_
                refine AllReadyH.cons (List.getElem?_toArray.trans rfl) (fun K hK => ?_) AllReadyH.nil
                obtain ⟨g_11_1_12, cap_11_1_12, w_11_1_12, hr_11_1_12, hv_11_1_12, _⟩ := run_app_num V_11.out (i := 2) rfl 23 zz (V_11.out.box_at (i := 0) (j := 0) rfl rfl).1 (by omega)
                have HR_11_1_12 := Lib.hid hr_11_1_12
                have V_11_1_12 := Lib.hid (show Hp w (box 3 g_11 [.int .i64 zz] :: cbox g C1 (n + p) f1 C2 (m + k) h2 :: nums (some ⟨g_11_1_12, 0, none⟩) (m + k + 1) cap_11_1_12 (X.b ++ upB (n : Int) (Y.b.take k) ++ [zz]) :: snds C1 (n + p) f1 (X.s ++ Y.s) :: cbox g2 none 0 0 none 0 0 :: cbox g1 P p e (some ⟨bb, ob, none⟩) q f :: cbox g0 A n c B m d :: []) w_11_1_12 from hv_11_1_12)
                clear hr_11_1_12 hv_11_1_12
                refine step_app_run rfl (.tmp 61) (.tmp 71) 23 rfl HR_11_1_12.out rfl rfl ?_
                refine hK.out _ _ (List.forall_mem_cons.2 ⟨⟨(V_11_1_12.out.cbox_at (i := 5) rfl).2.1, (V_11_1_12.out.cbox_at (i := 5) rfl).2.2⟩, List.forall_mem_cons.2 ⟨⟨((HY.out.cb.below V_11_1_12.out.below).iat hkq HAE.out).1, ((HY.out.cb.below V_11_1_12.out.below).iat hkq HAE.out).2⟩, List.forall_mem_cons.2 ⟨⟨(V_11_1_12.out.cbox_at (i := 6) rfl).1, (V_11_1_12.out.cbox_at (i := 6) rfl).2.2⟩, fun _ h => by simp at h⟩⟩⟩) (fun hHeld => ?_)
                clear hK K
                try simp only [Act.put, sA, sZ, sS]
                refine tk 13 ?_ rfl ?_ ?_; rotate_left; focus (intro w hSw; clear hSw; go_simp; try (with_reducible rfl))
                try simp only [Act.put, sA, sZ, sS]
                refine wpAnyH_ready (rs := [14]) (by kernel_rfl) (by simp) ?_
                refine AllReadyH.cons (List.getElem?_toArray.trans rfl) (fun K hK => ?_) AllReadyH.nil
                obtain ⟨⟨s0, s1, s2⟩, s3, s4⟩ := V_11_1_12.out.cbox_st (i := 1) rfl
                have XS := Lib.hid (Hp.box_set (T := 25) (g := g) (cs := [.slice C1 (n + p) f1, .slice C2 (m + k) h2]) V_11_1_12.out (i := 1) rfl 1 (.slice (some ⟨g_11_1_12, 0, none⟩) (m + k + 1) cap_11_1_12))
                go_simp
                clear s0 s1 s2 s3 s4
                refine hK.out _ _ (List.forall_mem_cons.2 ⟨⟨(XS.out.cbox_at (i := 5) rfl).2.1, (XS.out.cbox_at (i := 5) rfl).2.2⟩, List.forall_mem_cons.2 ⟨⟨((HY.out.cb.below XS.out.below).iat hkq HAE.out).1, ((HY.out.cb.below XS.out.below).iat hkq HAE.out).2⟩, List.forall_mem_cons.2 ⟨⟨(XS.out.cbox_at (i := 6) rfl).1, (XS.out.cbox_at (i := 6) rfl).2.2⟩, fun _ h => by simp at h⟩⟩⟩) (fun hHeld => ?_)
                clear hK K
                try simp only [Act.put, sA, sZ, sS]
                refine wpAnyH_done (by kernel_rfl) ?_ _
                have VE := Lib.hid (XS.out.pick [1, 2, 3, 4, 5, 6] (by decide) rfl : Hp w [cbox g C1 (n + p) f1 (some ⟨g_11_1_12, 0, none⟩) (m + k + 1) cap_11_1_12, nums (some ⟨g_11_1_12, 0, none⟩) (m + k + 1) cap_11_1_12 (X.b ++ upB (n : Int) (Y.b.take k) ++ [zz]), snds C1 (n + p) f1 (X.s ++ Y.s), cbox g2 none 0 0 none 0 0, cbox g1 P p e (some ⟨bb, ob, none⟩) q f, cbox g0 A n c B m d] _)
                rw [← HS.out] at VE
                clear hHeld
                go_wp2_with fail
                go_roundw
                case rel => exact ⟨k + 1, _, _, by omega, by go_num, VE.out⟩
                case measure => simp [intOf]; omega
              exact AllReadyH.nil
            · have HEE := Lib.hid (show Y.b.take k = Y.b from take_all (by rw [HY.out.lb]; omega))
              obtain rfl : k = q := by omega
              obtain ⟨z0, z1, zg⟩ := V.out.cbox_at (i := 0) rfl
              obtain ⟨⟨s0, s1, s2⟩, s3, s4⟩ := V.out.cbox_st (i := 3) rfl
              have V6 := Lib.hid (V.out.cbox_set (i := 3) rfl C1 (n + p) f1 C2 (m + k) h2)
              obtain ⟨u0, u1, ug⟩ := V6.out.cbox_at (i := 3) rfl
              go_wp2_with fail
              refine bodyPost_ret (v := .tuple #[.agg #[.slice C1 (n + p) f1, .slice C2 (m + k) h2], .int .i64 0]) (by simp [results, Try.results25, go_sem, u0, u1]) rfl ?_
              rw [HEE.out] at V6
              refine ⟨C1, n + p, f1, C2, m + k, h2, by rw [HE.out], ?_, by rw [HE.out]; show Hp w [snds C1 (n + p) f1 (X.s ++ Y.s), nums C2 (m + k) h2 (X.b ++ upB (X.s.length : Int) Y.b)] _; rw [HX.out.ls]; exact V6.out.pick [2, 1] (by decide) rfl⟩
              rw [HE.out]
              refine ⟨by show (X.s ++ Y.s).length = n + p; rw [List.length_append, HX.out.ls, HY.out.ls], by show (X.b ++ upB _ Y.b).length = m + k; unfold upB; rw [List.length_append, List.length_map, HX.out.lb, HY.out.lb], by omega, by omega, fun x hx => ?_, V6.out.cells (i := 2) (A := C1) (c := f1) rfl rfl, ?_⟩
              · rcases List.mem_append.1 hx with hx | hx
                · exact HX.out.ht x hx
                · exact HY.out.ht x hx
              · show CellsIn _ C2 (ints (X.b ++ upB (X.s.length : Int) Y.b))
                rw [HX.out.ls]
                exact V6.out.cells (i := 1) (A := C2) (c := h2) rfl rfl
    · have HE := Lib.hid (show jnR X Y = (⟨[], []⟩, u) by unfold jnR; rw [if_neg (by simp [HV.out]), HU.out, if_pos h1])
      have hne : (u != 0) = true := bne_yes h1
      obtain ⟨⟨s0, s1, s2⟩, s3, s4⟩ := V3.out.cbox_st (i := 0) rfl
      have V6 := Lib.hid (V3.out.cbox_set (i := 0) rfl none 0 0 none 0 0)
      obtain ⟨u0, u1, ug⟩ := V6.out.cbox_at (i := 0) rfl
      clear h1
      go_wp2_with fail
      refine bodyPost_ret (v := .tuple #[.agg #[.slice none 0 0, .slice none 0 0], .int .i64 u]) (by simp [results, Try.results25, go_sem, u0, u1]) rfl ?_
      exact ⟨none, 0, 0, none, 0, 0, by rw [HE.out], by rw [HE.out]; exact cin_none _, by rw [HE.out]; exact ((V6.out.nil_row (nums none 0 0 []) rfl rfl rfl).nil_row (snds none 0 0 []) rfl rfl rfl).pick [0, 1] (by decide) rfl⟩
  · have HE := Lib.hid (show jnR X Y = (⟨[], []⟩, v) by unfold jnR; rw [HV.out, if_pos h0])
    have hne : (v != 0) = true := bne_yes h0
    obtain ⟨⟨s0, s1, s2⟩, s3, s4⟩ := V2.out.cbox_st (i := 0) rfl
    have V6 := Lib.hid (V2.out.cbox_set (i := 0) rfl none 0 0 none 0 0)
    obtain ⟨u0, u1, ug⟩ := V6.out.cbox_at (i := 0) rfl
    clear h0
    go_wp2_with fail
    refine bodyPost_ret (v := .tuple #[.agg #[.slice none 0 0, .slice none 0 0], .int .i64 v]) (by simp [results, Try.results25, go_sem, u0, u1]) rfl ?_
    exact ⟨none, 0, 0, none, 0, 0, by rw [HE.out], by rw [HE.out]; exact cin_none _, by rw [HE.out]; exact ((V6.out.nil_row (nums none 0 0 []) rfl rfl rfl).nil_row (snds none 0 0 []) rfl rfl rfl).pick [0, 1] (by decide) rfl⟩
end Go.Proofs.Ythcdbhancfpldaa
