/- What the statement on further signs answers: true, whatever the input. -/
import Derived.Test.YtfgnekbkcmpdiaaGreatDoorYi
import Derived.Test.YtfgnekbkcmpdiaaGreatDoorOj
import Derived.Test.YtfgnekbkcmpdiaaGreatDoorOq
import Derived.Test.YtfgnekbkcmpdiaaGreatDoorUf
namespace Go.Proofs.YtfgnekbkcmpdiaaGreatDoor
open Go.RowKit
set_option linter.unusedVariables false
set_option linter.unusedSimpArgs false
set_option maxRecDepth 100000

set_option maxHeartbeats 3000000 in
theorem clone_sgs (vs : List (Option Addr × Nat)) (L : List Sg) (A : Option Addr) (n c : Nat) (w : World) (hvs : vs.length = L.length) (hl : L.length = n) (h0 : 0 < n) (hn : n ≤ 1000000) (hA : CellsIn w A (sgsC vs L)) :
    Calls Tryz.prog 16 #[.slice A n c] w fun e w' => ∃ A2 c2, e = .returned (.slice A2 n c2) ∧ Hp w [sgv A2 n c2 vs L] w' := by
  obtain ⟨b, off, rfl, _, _⟩ := hA (by rw [sgsC_len hvs]; omega)
  have qn : ∀ (w : World) (a : Option Addr) (n c n' c' : Nat), (binOp .eql 23 (.slice a n c) (.slice none n' c')).run Tryz.prog w = .ok (.bool a.isNone) w := fun w a n c n' c' => Lib.run_eql_slice_nil w _ _ a n c n' c' Tryz.underlying23
  obtain ⟨g, hg⟩ : ∃ z, z = w.heap.size := ⟨_, rfl⟩
  obtain ⟨W1, hW1⟩ : ∃ z, z = w.alloc (.cells #[] 34) := ⟨_, rfl⟩
  have V1 := Lib.hid (show Hp w [sgv (some ⟨g, 0, none⟩) 0 0 [] []] W1 by rw [hW1, hg]; exact (Hp.start w).lit 34 4 0 [] rfl (by decide))
  obtain ⟨A2, c2, w2, hr, hv, _⟩ := run_cat_sgs V1.out (i := 0) rfl rfl 23 (B := some ⟨b, off, none⟩) (m := n) (d := c) vs L hvs hl (hA.below (by rw [hW1]; exact bnew _ _)) (by omega) (by omega)
  rw [Nat.zero_add] at hr hv
  have V2 := Lib.hid (show Hp w [sgv A2 n c2 vs L] w2 from hv)
  have HR := Lib.hid hr
  have HW1 := Lib.hid hW1
  have HG := Lib.hid hg
  clear hr hv hW1 hg hA
  go_enter Tryz.func16, Tryz.ntmps16
  go_wp2_with (at_builtin; rw [← HW1.out, ← HG.out]; refine wpList_app_run rfl (.tmp 5) (.tmp 6) 23 rfl HR.out rfl rfl ?_)
  go_ret
  exact ⟨A2, c2, rfl, V2.out⟩
set_option maxHeartbeats 3000000 in
theorem lawmore_nat (q : Nat) (AD : Option Addr) (nd cd : Nat) (D : List Int) (AM : Option Addr) (mm cm : Nat) (M : List Int) (s : Sg) (AS : Option Addr) (cS : Nat) (w : World) (hq : q ≤ 255) (hD : D.length = nd) (hDz : ∀ z ∈ D, 0 ≤ z ∧ z ≤ 255) (hDc : CellsIn w AD (bytesC D)) (hMl : M.length = mm) (hMz : ∀ z ∈ M, 0 ≤ z ∧ z ≤ 255) (hMc : CellsIn w AM (bytesC M))
    (hlim : SgLim s) (hS : CellsIn w AS (sndsC s.s)) (hm : MaxAt w) :
    Calls Tryz.prog 5 #[.agg #[.int .u8 (q : Int), .slice AD nd cd, .slice AM mm cm], .agg #[.string (bs s.t), .slice AS s.s.length cS, .int .i64 s.c, .int .i64 s.w]] w fun e w' => e = .returned (.bool true) ∧ Below w.heap.size w w' := by
  obtain ⟨g1, hg1⟩ : ∃ z, z = w.heap.size := ⟨_, rfl⟩
  obtain ⟨W1, hW1⟩ : ∃ z, z = w.alloc (.cells #[.int .u8 (q : Int), .slice AD nd cd, .slice AM mm cm] 38) := ⟨_, rfl⟩
  have V1 := Lib.hid (show Hp w [dbox g1 (q : Int) AD nd cd AM mm cm] W1 by rw [hW1, hg1]; exact (Hp.start w).box_new _ _)
  have HW1 := Lib.hid hW1
  have HG1 := Lib.hid hg1
  have HM := Lib.hid hm
  obtain ⟨g2, hg2⟩ : ∃ z, z = W1.heap.size := ⟨_, rfl⟩
  obtain ⟨W2, hW2⟩ : ∃ z, z = W1.alloc (.cells #[.string (bs s.t), .slice AS s.s.length cS, .int .i64 s.c, .int .i64 s.w] 34) := ⟨_, rfl⟩
  have V0 := Lib.hid (show Hp w [sgbox g2 (AS, cS) s, dbox g1 (q : Int) AD nd cd AM mm cm] W2 by rw [hW2, hg2]; exact V1.out.sgbox_new AS cS s)
  have HG2 := Lib.hid (show g2 = g1 + 1 by rw [hg2, hW1, hg1]; simp)
  have HW2 := Lib.hid hW2
  have HS := Lib.hid hS
  have HLIM := Lib.hid hlim
  have HMADE := Lib.hid (fun (w' : World) (hb : Below w.heap.size w w') => rmade_any q AD nd cd D AM mm cm M w' hq hD hDz (hDc.below hb) hMl hMz (hMc.below hb))
  obtain ⟨st, hst⟩ : ∃ z, z = (bs s.t).size := ⟨_, rfl⟩
  have HST := Lib.hid (show st = s.t.length by rw [hst, bs_size])
  have hst2 : (bs s.t).size = st := hst.symm
  have hsl := hlim.2.1
  clear hW1 hg1 hm hS hlim hW2 hg2 V1 hD hDz hDc hMl hMz hMc hst
  go_enter Tryz.func5, Tryz.ntmps5
  go_upto_region 1 with fail
  rw [← HG1.out, ← HW1.out, ← HG2.out, ← HW2.out]
  go_wp2_with fail
  refine (awake12_any _ (HM.out.below V0.out.below)).mono ?_
  rintro e wa ⟨rfl, hb⟩
  have V3 := Lib.hid (V0.out.go hb)
  clear hb
  obtain ⟨y0, y1, y2, y3, y4⟩ := V3.out.sgbox_at (i := 0) rfl
  dsimp only at y1
  by_cases hf : 100 < st
  · have e1 : decide (100 < (st : Int)) = true := decide_eq_true (by omega)
    clear hf
    go_wp2_with fail
    refine (awake12_any _ (HM.out.below V3.out.below)).mono ?_
    rintro e wa ⟨rfl, hb⟩
    have VZ := Lib.hid (V3.out.go hb)
    clear hb
    go_wp2_with fail
    go_ret
    exact ⟨rfl, VZ.out.below⟩
  have e1 : decide (100 < (st : Int)) = false := decide_eq_false (by omega)
  have hst3 : st ≤ 100 := by omega
  clear hf
  go_wp2_with fail
  refine (few_any s.s 6 s.s.length cS AS _ rfl (by omega) (by decide) HLIM.out.2.2 (HS.out.below V3.out.below)).mono ?_
  rintro e w4 ⟨rfl, hw⟩
  subst hw
  cases hf : fewB s.s 6 with
  | false =>
    clear hf
    go_wp2_with fail
    refine (awake12_any _ (HM.out.below V3.out.below)).mono ?_
    rintro e wa ⟨rfl, hb⟩
    have VZ := Lib.hid (V3.out.go hb)
    clear hb
    go_wp2_with fail
    go_ret
    exact ⟨rfl, VZ.out.below⟩
  | true =>
  have HFEW := Lib.hid (few_yes hf)
  clear hf
  obtain ⟨d0, d1, d2, d3⟩ := V3.out.dbox_at (i := 1) rfl
  go_wp2_with fail
  refine (HMADE.out _ V3.out.below).mono ?_
  rintro e w5 ⟨nm, AO, n, c, vs, L, pool, rfl, hv, hl, hvs, hpool, hp⟩
  have V5 := Lib.hid (V3.out.join hp)
  obtain ⟨hn1, hn2⟩ : 0 < n ∧ n ≤ 120 := by obtain ⟨_, a, b, _⟩ := vO_zero hv; omega
  have HL := Lib.hid hl
  have HVS := Lib.hid hvs
  have HV := Lib.hid hv
  have HPO := Lib.hid hpool
  have hnb := nm_bnd hv
  clear hp hv hl hvs hpool y0 y1 y2 y3 y4 d0 d1 d2 d3 e1 hst2
  obtain ⟨g5, hg5⟩ : ∃ z, z = w5.heap.size := ⟨_, rfl⟩
  obtain ⟨W6, hW6⟩ : ∃ z, z = w5.alloc (.cells #[.string (bs nm), .slice AO n c] 25) := ⟨_, rfl⟩
  have V6 := Lib.hid (show Hp w (sgbox g2 (AS, cS) s :: dbox g1 (q : Int) AD nd cd AM mm cm :: obox g5 nm AO n c :: sgv AO n c vs L :: pool) W6 by rw [hW6, hg5]; exact mst_first (V5.out.obox_new nm AO n c))
  have HW6 := Lib.hid hW6
  have HG5 := Lib.hid hg5
  clear hW6 hg5
  go_upto_region 4 with fail
  rw [← HG5.out, ← HW6.out]
  go_cut [6] (fun p wx => ∃ g6 gz A4 c4, p = .pointer (some ⟨g6, 0, none⟩) ∧ Hp w (sgbox g2 (AS, cS) s :: dbox g1 (q : Int) AD nd cd AM mm cm :: obox g5 nm AO n c :: obox g6 nm A4 (n + 1) c4 :: sgv AO n c vs L :: sgv A4 (n + 1) c4 (vs ++ [(AS, cS)]) (L ++ [s]) :: sgbox gz (AS, cS) s :: pool) wx)
  case first =>
    have hKp : Keep [(⟨g5, 0, none⟩, .string (bs nm)), (⟨g5, 1, none⟩, .slice AO n c), (⟨g2, 0, none⟩, .string (bs s.t)), (⟨g2, 1, none⟩, .slice AS s.s.length cS), (⟨g2, 2, none⟩, .int .i64 s.c), (⟨g2, 3, none⟩, .int .i64 s.w)] W6 := List.forall_mem_cons.2 ⟨⟨(V6.out.box_at (i := 2) (j := 0) rfl rfl).1, (V6.out.box_at (i := 2) (j := 0) rfl rfl).2.2⟩, List.forall_mem_cons.2 ⟨⟨(V6.out.box_at (i := 2) (j := 1) rfl rfl).1, (V6.out.box_at (i := 2) (j := 1) rfl rfl).2.2⟩, List.forall_mem_cons.2 ⟨⟨(V6.out.box_at (i := 0) (j := 0) rfl rfl).1, (V6.out.box_at (i := 0) (j := 0) rfl rfl).2.2⟩, List.forall_mem_cons.2 ⟨⟨(V6.out.box_at (i := 0) (j := 1) rfl rfl).1, (V6.out.box_at (i := 0) (j := 1) rfl rfl).2.2⟩, List.forall_mem_cons.2 ⟨⟨(V6.out.box_at (i := 0) (j := 2) rfl rfl).1, (V6.out.box_at (i := 0) (j := 2) rfl rfl).2.2⟩, List.forall_mem_cons.2 ⟨⟨(V6.out.box_at (i := 0) (j := 3) rfl rfl).1, (V6.out.box_at (i := 0) (j := 3) rfl rfl).2.2⟩, fun _ h => by simp at h⟩⟩⟩⟩⟩⟩
    refine wp_region_held_drew (S := Keep _) (by kernel_rfl) hKp.drew (fun hHeld => ?_)
    obtain ⟨wf, hwf⟩ : ∃ z, z = W6.drew := ⟨_, rfl⟩
    have Vwf := Lib.hid (show Hp w (sgbox g2 (AS, cS) s :: dbox g1 (q : Int) AD nd cd AM mm cm :: obox g5 nm AO n c :: sgv AO n c vs L :: pool) wf by rw [hwf]; exact V6.out.go (bdrew _))
    have Bwf := Lib.hid (show Below W6.heap.size W6 wf by rw [hwf]; exact bdrew _)
    rw [← hwf] at hHeld ⊢
    clear hwf hKp
    refine tk 0 ?_ rfl ?_ ?_; rotate_left; focus (intro w hSw; clear hSw; go_simp; try (with_reducible rfl))
    try simp only [Act.put, sA, sZ, sS]
    refine tk 1 ?_ rfl ?_ ?_; rotate_left
    · intro wl hSw
      have hSw : Keep _ wl := hSw
      have k0 := (hSw _ (.head _)).1
      dsimp only at k0
      clear hSw
      go_simp
      try (with_reducible rfl)
    try simp only [Act.put, sA, sZ, sS]
    refine tk 2 ?_ rfl ?_ ?_; rotate_left; focus (intro w hSw; clear hSw; go_simp; try (with_reducible rfl))
    try simp only [Act.put, sA, sZ, sS]
    refine tk 3 ?_ rfl ?_ ?_; rotate_left
    · intro wl hSw
      have hSw : Keep _ wl := hSw
      have k0 := (hSw _ (.tail _ (.head _))).1
      dsimp only at k0
      clear hSw
      go_simp
      try (with_reducible rfl)
    try simp only [Act.put, sA, sZ, sS]
    refine tk 5 ?_ rfl ?_ ?_; rotate_left
    · intro wl hSw
      have hSw : Keep _ wl := hSw
      have k0 := (hSw _ (.tail _ (.tail _ (.head _)))).1
      have k1 := (hSw _ (.tail _ (.tail _ (.tail _ (.head _))))).1
      have k2 := (hSw _ (.tail _ (.tail _ (.tail _ (.tail _ (.head _)))))).1
      have k3 := (hSw _ (.tail _ (.tail _ (.tail _ (.tail _ (.tail _ (.head _))))))).1
      dsimp only at k0 k1 k2 k3
      clear hSw
      go_simp
      try (with_reducible rfl)
    try simp only [Act.put, sA, sZ, sS]
    refine wpAnyH_ready (rs := [4, 6, 9]) (by kernel_rfl) (by simp) ?_
    refine AllReadyH.cons (List.getElem?_toArray.trans rfl) (fun K hK => ?_) ?_
    · go_simp
      refine (clone_sgs vs L AO n c _ HVS.out HL.out hn1 (by omega) (Vwf.out.cells (i := 3) (it := sgv AO n c vs L) rfl rfl)).mono ?_
      rintro e w_4 ⟨A2, c2, rfl, hp⟩
      have V_4 := Lib.hid (show Hp w (sgv A2 n c2 vs L :: sgbox g2 (AS, cS) s :: dbox g1 (q : Int) AD nd cd AM mm cm :: obox g5 nm AO n c :: sgv AO n c vs L :: pool) w_4 from Vwf.out.join hp)
      have B_4 := Lib.hid hp.below
      clear hp
      try go_wp2_with fail
      refine hK.out _ _ (hHeld.go B_4.out) (fun hHeld => ?_)
      clear hK K
      try simp only [Act.put, sA, sZ, sS]
      refine wpAnyH_ready (rs := [6, 9]) (by kernel_rfl) (by simp) ?_
      refine AllReadyH.cons (List.getElem?_toArray.trans rfl) (fun K hK => ?_) ?_
      · obtain ⟨w_4_6, hw_4_6⟩ : ∃ z, z = w_4.alloc (.cells #[.string (bs s.t), .slice AS s.s.length cS, .int .i64 s.c, .int .i64 s.w] 34) := ⟨_, rfl⟩
        obtain ⟨g_4_6, hg_4_6⟩ : ∃ z, z = w_4.heap.size := ⟨_, rfl⟩
        have V_4_6 := Lib.hid (show Hp w (sgbox g_4_6 (AS, cS) s :: sgv A2 n c2 vs L :: sgbox g2 (AS, cS) s :: dbox g1 (q : Int) AD nd cd AM mm cm :: obox g5 nm AO n c :: sgv AO n c vs L :: pool) w_4_6 by rw [hw_4_6, hg_4_6]; exact V_4.out.sgbox_new AS cS s)
        have B_4_6 := Lib.hid (show Below w_4.heap.size w_4 w_4_6 by rw [hw_4_6]; exact bnew _ _)
        have HW_4_6 := Lib.hid hw_4_6
        have HG_4_6 := Lib.hid hg_4_6
        clear hw_4_6 hg_4_6
        go_simp
        try rw [← HW_4_6.out]
        try rw [← HG_4_6.out]
        refine hK.out _ _ (hHeld.go B_4_6.out) (fun hHeld => ?_)
        clear hK K
        try simp only [Act.put, sA, sZ, sS]
        refine wpAnyH_ready (rs := [7, 9]) (by kernel_rfl) (by simp) ?_
        refine AllReadyH.cons (List.getElem?_toArray.trans rfl) (fun K hK => ?_) ?_
        · obtain ⟨ga, c5, w_4_6_7, hr_4_6_7, hv_4_6_7, _⟩ := run_app_sg V_4_6.out (i := 1) rfl HVS.out 23 (b := g_4_6) (AS, cS) s (fun j u hu => (V_4_6.out.box_at (i := 0) rfl hu).1) (by omega)
          have HR_4_6_7 := Lib.hid hr_4_6_7
          have V_4_6_7 := Lib.hid (show Hp w (sgbox g_4_6 (AS, cS) s :: sgv (some ⟨ga, 0, none⟩) (n + 1) c5 (vs ++ [(AS, cS)]) (L ++ [s]) :: sgbox g2 (AS, cS) s :: dbox g1 (q : Int) AD nd cd AM mm cm :: obox g5 nm AO n c :: sgv AO n c vs L :: pool) w_4_6_7 from hv_4_6_7)
          clear hr_4_6_7 hv_4_6_7
          refine step_app_run rfl (.tmp 33) (.tmp 35) 23 rfl HR_4_6_7.out rfl rfl ?_
          refine hK.out _ _ (List.forall_mem_cons.2 ⟨⟨(V_4_6_7.out.box_at (i := 4) (j := 0) rfl rfl).1, (V_4_6_7.out.box_at (i := 4) (j := 0) rfl rfl).2.2⟩, List.forall_mem_cons.2 ⟨⟨(V_4_6_7.out.box_at (i := 4) (j := 1) rfl rfl).1, (V_4_6_7.out.box_at (i := 4) (j := 1) rfl rfl).2.2⟩, List.forall_mem_cons.2 ⟨⟨(V_4_6_7.out.box_at (i := 2) (j := 0) rfl rfl).1, (V_4_6_7.out.box_at (i := 2) (j := 0) rfl rfl).2.2⟩, List.forall_mem_cons.2 ⟨⟨(V_4_6_7.out.box_at (i := 2) (j := 1) rfl rfl).1, (V_4_6_7.out.box_at (i := 2) (j := 1) rfl rfl).2.2⟩, List.forall_mem_cons.2 ⟨⟨(V_4_6_7.out.box_at (i := 2) (j := 2) rfl rfl).1, (V_4_6_7.out.box_at (i := 2) (j := 2) rfl rfl).2.2⟩, List.forall_mem_cons.2 ⟨⟨(V_4_6_7.out.box_at (i := 2) (j := 3) rfl rfl).1, (V_4_6_7.out.box_at (i := 2) (j := 3) rfl rfl).2.2⟩, fun _ h => by simp at h⟩⟩⟩⟩⟩⟩) (fun hHeld => ?_)
          clear hK K
          try simp only [Act.put, sA, sZ, sS]
          refine tk 8 ?_ rfl ?_ ?_; rotate_left; focus (intro w hSw; clear hSw; go_simp; try (with_reducible rfl))
          try simp only [Act.put, sA, sZ, sS]
          refine wpAnyH_ready (rs := [9]) (by kernel_rfl) (by simp) ?_
          refine AllReadyH.cons (List.getElem?_toArray.trans rfl) (fun K hK => ?_) AllReadyH.nil
          obtain ⟨w_4_6_7_9, hw_4_6_7_9⟩ : ∃ z, z = w_4_6_7.alloc (.cells #[.string ⟨#[]⟩, .slice none 0 0] 25) := ⟨_, rfl⟩
          obtain ⟨g_4_6_7_9, hg_4_6_7_9⟩ : ∃ z, z = w_4_6_7.heap.size := ⟨_, rfl⟩
          have V_4_6_7_9 := Lib.hid (show Hp w (obox g_4_6_7_9 [] none 0 0 :: sgbox g_4_6 (AS, cS) s :: sgv (some ⟨ga, 0, none⟩) (n + 1) c5 (vs ++ [(AS, cS)]) (L ++ [s]) :: sgbox g2 (AS, cS) s :: dbox g1 (q : Int) AD nd cd AM mm cm :: obox g5 nm AO n c :: sgv AO n c vs L :: pool) w_4_6_7_9 by rw [hw_4_6_7_9, hg_4_6_7_9]; exact V_4_6_7.out.obox_new [] none 0 0)
          have B_4_6_7_9 := Lib.hid (show Below w_4_6_7.heap.size w_4_6_7 w_4_6_7_9 by rw [hw_4_6_7_9]; exact bnew _ _)
          have HW_4_6_7_9 := Lib.hid hw_4_6_7_9
          have HG_4_6_7_9 := Lib.hid hg_4_6_7_9
          clear hw_4_6_7_9 hg_4_6_7_9
          go_simp
          try rw [← HW_4_6_7_9.out]
          try rw [← HG_4_6_7_9.out]
          refine hK.out _ _ (hHeld.go B_4_6_7_9.out) (fun hHeld => ?_)
          clear hK K
          try simp only [Act.put, sA, sZ, sS]
          refine wpAnyH_ready (rs := [10]) (by kernel_rfl) (by simp) ?_
          refine AllReadyH.cons (List.getElem?_toArray.trans rfl) (fun K hK => ?_) AllReadyH.nil
          obtain ⟨u01, u02, u03⟩ := (V_4_6_7_9.out.box_at (i := 0) (j := 0) rfl rfl)
          obtain ⟨u11, u12, u13⟩ := (V_4_6_7_9.out.box_at (i := 0) (j := 1) rfl rfl)
          have VE := Lib.hid (show Hp w (obox g_4_6_7_9 nm (some ⟨ga, 0, none⟩) (n + 1) c5 :: sgbox g_4_6 (AS, cS) s :: sgv (some ⟨ga, 0, none⟩) (n + 1) c5 (vs ++ [(AS, cS)]) (L ++ [s]) :: sgbox g2 (AS, cS) s :: dbox g1 (q : Int) AD nd cd AM mm cm :: obox g5 nm AO n c :: sgv AO n c vs L :: pool) _ from Hp.box_set (T := 25) (g := g_4_6_7_9) (cs := [.string (bs nm), .slice none 0 0]) (Hp.box_set (T := 25) (g := g_4_6_7_9) (cs := oC [] none 0 0) V_4_6_7_9.out (i := 0) rfl 0 (.string (bs nm))) (i := 0) rfl 1 (.slice (some ⟨ga, 0, none⟩) (n + 1) c5))
          go_simp
          refine hK.out _ _ (List.forall_mem_cons.2 ⟨⟨(VE.out.box_at (i := 5) (j := 0) rfl rfl).1, (VE.out.box_at (i := 5) (j := 0) rfl rfl).2.2⟩, List.forall_mem_cons.2 ⟨⟨(VE.out.box_at (i := 5) (j := 1) rfl rfl).1, (VE.out.box_at (i := 5) (j := 1) rfl rfl).2.2⟩, List.forall_mem_cons.2 ⟨⟨(VE.out.box_at (i := 3) (j := 0) rfl rfl).1, (VE.out.box_at (i := 3) (j := 0) rfl rfl).2.2⟩, List.forall_mem_cons.2 ⟨⟨(VE.out.box_at (i := 3) (j := 1) rfl rfl).1, (VE.out.box_at (i := 3) (j := 1) rfl rfl).2.2⟩, List.forall_mem_cons.2 ⟨⟨(VE.out.box_at (i := 3) (j := 2) rfl rfl).1, (VE.out.box_at (i := 3) (j := 2) rfl rfl).2.2⟩, List.forall_mem_cons.2 ⟨⟨(VE.out.box_at (i := 3) (j := 3) rfl rfl).1, (VE.out.box_at (i := 3) (j := 3) rfl rfl).2.2⟩, fun _ h => by simp at h⟩⟩⟩⟩⟩⟩) (fun hHeld => ?_)
          clear hK K
          try simp only [Act.put, sA, sZ, sS]
          refine wpAnyH_done (by kernel_rfl) ?_ _
          clear hHeld
          have VF := Lib.hid (show Hp w (sgbox g2 (AS, cS) s :: dbox g1 (q : Int) AD nd cd AM mm cm :: obox g5 nm AO n c :: obox g_4_6_7_9 nm (some ⟨ga, 0, none⟩) (n + 1) c5 :: sgv AO n c vs L :: sgv (some ⟨ga, 0, none⟩) (n + 1) c5 (vs ++ [(AS, cS)]) (L ++ [s]) :: sgbox g_4_6 (AS, cS) s :: pool) _ from (Hp.front (l := [_, _, _, _, _, _]) ((Hp.front (l := [_, _, _, _, _, _]) ((Hp.front (l := [_, _, _, _, _, _]) ((Hp.front (l := [_, _, _]) ((Hp.front (l := [_, _, _, _, _, _]) ((Hp.front (l := [_, _]) ((Hp.front (l := [_]) (VE.out)))))))))))))))
          go_wp2_with fail
          go_meet
          exact ⟨_, _, _, _, rfl, VF.out⟩
        refine AllReadyH.cons (List.getElem?_toArray.trans rfl) (fun K hK => ?_) ?_
        · obtain ⟨w_4_6_9, hw_4_6_9⟩ : ∃ z, z = w_4_6.alloc (.cells #[.string ⟨#[]⟩, .slice none 0 0] 25) := ⟨_, rfl⟩
          obtain ⟨g_4_6_9, hg_4_6_9⟩ : ∃ z, z = w_4_6.heap.size := ⟨_, rfl⟩
          have V_4_6_9 := Lib.hid (show Hp w (obox g_4_6_9 [] none 0 0 :: sgbox g_4_6 (AS, cS) s :: sgv A2 n c2 vs L :: sgbox g2 (AS, cS) s :: dbox g1 (q : Int) AD nd cd AM mm cm :: obox g5 nm AO n c :: sgv AO n c vs L :: pool) w_4_6_9 by rw [hw_4_6_9, hg_4_6_9]; exact V_4_6.out.obox_new [] none 0 0)
          have B_4_6_9 := Lib.hid (show Below w_4_6.heap.size w_4_6 w_4_6_9 by rw [hw_4_6_9]; exact bnew _ _)
          have HW_4_6_9 := Lib.hid hw_4_6_9
          have HG_4_6_9 := Lib.hid hg_4_6_9
          clear hw_4_6_9 hg_4_6_9
          go_simp
          try rw [← HW_4_6_9.out]
          try rw [← HG_4_6_9.out]
          refine hK.out _ _ (hHeld.go B_4_6_9.out) (fun hHeld => ?_)
          clear hK K
          try simp only [Act.put, sA, sZ, sS]
          refine wpAnyH_ready (rs := [7]) (by kernel_rfl) (by simp) ?_
          refine AllReadyH.cons (List.getElem?_toArray.trans rfl) (fun K hK => ?_) AllReadyH.nil
          obtain ⟨ga, c5, w_4_6_9_7, hr_4_6_9_7, hv_4_6_9_7, _⟩ := run_app_sg V_4_6_9.out (i := 2) rfl HVS.out 23 (b := g_4_6) (AS, cS) s (fun j u hu => (V_4_6_9.out.box_at (i := 1) rfl hu).1) (by omega)
          have HR_4_6_9_7 := Lib.hid hr_4_6_9_7
          have V_4_6_9_7 := Lib.hid (show Hp w (obox g_4_6_9 [] none 0 0 :: sgbox g_4_6 (AS, cS) s :: sgv (some ⟨ga, 0, none⟩) (n + 1) c5 (vs ++ [(AS, cS)]) (L ++ [s]) :: sgbox g2 (AS, cS) s :: dbox g1 (q : Int) AD nd cd AM mm cm :: obox g5 nm AO n c :: sgv AO n c vs L :: pool) w_4_6_9_7 from hv_4_6_9_7)
          clear hr_4_6_9_7 hv_4_6_9_7
          refine step_app_run rfl (.tmp 33) (.tmp 35) 23 rfl HR_4_6_9_7.out rfl rfl ?_
          refine hK.out _ _ (List.forall_mem_cons.2 ⟨⟨(V_4_6_9_7.out.box_at (i := 5) (j := 0) rfl rfl).1, (V_4_6_9_7.out.box_at (i := 5) (j := 0) rfl rfl).2.2⟩, List.forall_mem_cons.2 ⟨⟨(V_4_6_9_7.out.box_at (i := 5) (j := 1) rfl rfl).1, (V_4_6_9_7.out.box_at (i := 5) (j := 1) rfl rfl).2.2⟩, List.forall_mem_cons.2 ⟨⟨(V_4_6_9_7.out.box_at (i := 3) (j := 0) rfl rfl).1, (V_4_6_9_7.out.box_at (i := 3) (j := 0) rfl rfl).2.2⟩, List.forall_mem_cons.2 ⟨⟨(V_4_6_9_7.out.box_at (i := 3) (j := 1) rfl rfl).1, (V_4_6_9_7.out.box_at (i := 3) (j := 1) rfl rfl).2.2⟩, List.forall_mem_cons.2 ⟨⟨(V_4_6_9_7.out.box_at (i := 3) (j := 2) rfl rfl).1, (V_4_6_9_7.out.box_at (i := 3) (j := 2) rfl rfl).2.2⟩, List.forall_mem_cons.2 ⟨⟨(V_4_6_9_7.out.box_at (i := 3) (j := 3) rfl rfl).1, (V_4_6_9_7.out.box_at (i := 3) (j := 3) rfl rfl).2.2⟩, fun _ h => by simp at h⟩⟩⟩⟩⟩⟩) (fun hHeld => ?_)
          clear hK K
          try simp only [Act.put, sA, sZ, sS]
          refine tk 8 ?_ rfl ?_ ?_; rotate_left; focus (intro w hSw; clear hSw; go_simp; try (with_reducible rfl))
          try simp only [Act.put, sA, sZ, sS]
          refine wpAnyH_ready (rs := [10]) (by kernel_rfl) (by simp) ?_
          refine AllReadyH.cons (List.getElem?_toArray.trans rfl) (fun K hK => ?_) AllReadyH.nil
          obtain ⟨u01, u02, u03⟩ := (V_4_6_9_7.out.box_at (i := 0) (j := 0) rfl rfl)
          obtain ⟨u11, u12, u13⟩ := (V_4_6_9_7.out.box_at (i := 0) (j := 1) rfl rfl)
          have VE := Lib.hid (show Hp w (obox g_4_6_9 nm (some ⟨ga, 0, none⟩) (n + 1) c5 :: sgbox g_4_6 (AS, cS) s :: sgv (some ⟨ga, 0, none⟩) (n + 1) c5 (vs ++ [(AS, cS)]) (L ++ [s]) :: sgbox g2 (AS, cS) s :: dbox g1 (q : Int) AD nd cd AM mm cm :: obox g5 nm AO n c :: sgv AO n c vs L :: pool) _ from Hp.box_set (T := 25) (g := g_4_6_9) (cs := [.string (bs nm), .slice none 0 0]) (Hp.box_set (T := 25) (g := g_4_6_9) (cs := oC [] none 0 0) V_4_6_9_7.out (i := 0) rfl 0 (.string (bs nm))) (i := 0) rfl 1 (.slice (some ⟨ga, 0, none⟩) (n + 1) c5))
          go_simp
          refine hK.out _ _ (List.forall_mem_cons.2 ⟨⟨(VE.out.box_at (i := 5) (j := 0) rfl rfl).1, (VE.out.box_at (i := 5) (j := 0) rfl rfl).2.2⟩, List.forall_mem_cons.2 ⟨⟨(VE.out.box_at (i := 5) (j := 1) rfl rfl).1, (VE.out.box_at (i := 5) (j := 1) rfl rfl).2.2⟩, List.forall_mem_cons.2 ⟨⟨(VE.out.box_at (i := 3) (j := 0) rfl rfl).1, (VE.out.box_at (i := 3) (j := 0) rfl rfl).2.2⟩, List.forall_mem_cons.2 ⟨⟨(VE.out.box_at (i := 3) (j := 1) rfl rfl).1, (VE.out.box_at (i := 3) (j := 1) rfl rfl).2.2⟩, List.forall_mem_cons.2 ⟨⟨(VE.out.box_at (i := 3) (j := 2) rfl rfl).1, (VE.out.box_at (i := 3) (j := 2) rfl rfl).2.2⟩, List.forall_mem_cons.2 ⟨⟨(VE.out.box_at (i := 3) (j := 3) rfl rfl).1, (VE.out.box_at (i := 3) (j := 3) rfl rfl).2.2⟩, fun _ h => by simp at h⟩⟩⟩⟩⟩⟩) (fun hHeld => ?_)
          clear hK K
          try simp only [Act.put, sA, sZ, sS]
          refine wpAnyH_done (by kernel_rfl) ?_ _
          clear hHeld
          have VF := Lib.hid (show Hp w (sgbox g2 (AS, cS) s :: dbox g1 (q : Int) AD nd cd AM mm cm :: obox g5 nm AO n c :: obox g_4_6_9 nm (some ⟨ga, 0, none⟩) (n + 1) c5 :: sgv AO n c vs L :: sgv (some ⟨ga, 0, none⟩) (n + 1) c5 (vs ++ [(AS, cS)]) (L ++ [s]) :: sgbox g_4_6 (AS, cS) s :: pool) _ from (Hp.front (l := [_, _, _, _, _, _]) ((Hp.front (l := [_, _, _, _, _, _]) ((Hp.front (l := [_, _, _, _, _, _]) ((Hp.front (l := [_, _, _]) ((Hp.front (l := [_, _, _, _, _, _]) ((Hp.front (l := [_, _]) ((Hp.front (l := [_]) (VE.out)))))))))))))))
          go_wp2_with fail
          go_meet
          exact ⟨_, _, _, _, rfl, VF.out⟩
        exact AllReadyH.nil
      refine AllReadyH.cons (List.getElem?_toArray.trans rfl) (fun K hK => ?_) ?_
      · obtain ⟨w_4_9, hw_4_9⟩ : ∃ z, z = w_4.alloc (.cells #[.string ⟨#[]⟩, .slice none 0 0] 25) := ⟨_, rfl⟩
        obtain ⟨g_4_9, hg_4_9⟩ : ∃ z, z = w_4.heap.size := ⟨_, rfl⟩
        have V_4_9 := Lib.hid (show Hp w (obox g_4_9 [] none 0 0 :: sgv A2 n c2 vs L :: sgbox g2 (AS, cS) s :: dbox g1 (q : Int) AD nd cd AM mm cm :: obox g5 nm AO n c :: sgv AO n c vs L :: pool) w_4_9 by rw [hw_4_9, hg_4_9]; exact V_4.out.obox_new [] none 0 0)
        have B_4_9 := Lib.hid (show Below w_4.heap.size w_4 w_4_9 by rw [hw_4_9]; exact bnew _ _)
        have HW_4_9 := Lib.hid hw_4_9
        have HG_4_9 := Lib.hid hg_4_9
        clear hw_4_9 hg_4_9
        go_simp
        try rw [← HW_4_9.out]
        try rw [← HG_4_9.out]
        refine hK.out _ _ (hHeld.go B_4_9.out) (fun hHeld => ?_)
        clear hK K
        try simp only [Act.put, sA, sZ, sS]
        refine wpAnyH_ready (rs := [6]) (by kernel_rfl) (by simp) ?_
        refine AllReadyH.cons (List.getElem?_toArray.trans rfl) (fun K hK => ?_) AllReadyH.nil
        obtain ⟨w_4_9_6, hw_4_9_6⟩ : ∃ z, z = w_4_9.alloc (.cells #[.string (bs s.t), .slice AS s.s.length cS, .int .i64 s.c, .int .i64 s.w] 34) := ⟨_, rfl⟩
        obtain ⟨g_4_9_6, hg_4_9_6⟩ : ∃ z, z = w_4_9.heap.size := ⟨_, rfl⟩
        have V_4_9_6 := Lib.hid (show Hp w (sgbox g_4_9_6 (AS, cS) s :: obox g_4_9 [] none 0 0 :: sgv A2 n c2 vs L :: sgbox g2 (AS, cS) s :: dbox g1 (q : Int) AD nd cd AM mm cm :: obox g5 nm AO n c :: sgv AO n c vs L :: pool) w_4_9_6 by rw [hw_4_9_6, hg_4_9_6]; exact V_4_9.out.sgbox_new AS cS s)
        have B_4_9_6 := Lib.hid (show Below w_4_9.heap.size w_4_9 w_4_9_6 by rw [hw_4_9_6]; exact bnew _ _)
        have HW_4_9_6 := Lib.hid hw_4_9_6
        have HG_4_9_6 := Lib.hid hg_4_9_6
        clear hw_4_9_6 hg_4_9_6
        go_simp
        try rw [← HW_4_9_6.out]
        try rw [← HG_4_9_6.out]
        refine hK.out _ _ (hHeld.go B_4_9_6.out) (fun hHeld => ?_)
        clear hK K
        try simp only [Act.put, sA, sZ, sS]
        refine wpAnyH_ready (rs := [7]) (by kernel_rfl) (by simp) ?_
        refine AllReadyH.cons (List.getElem?_toArray.trans rfl) (fun K hK => ?_) AllReadyH.nil
        obtain ⟨ga, c5, w_4_9_6_7, hr_4_9_6_7, hv_4_9_6_7, _⟩ := run_app_sg V_4_9_6.out (i := 2) rfl HVS.out 23 (b := g_4_9_6) (AS, cS) s (fun j u hu => (V_4_9_6.out.box_at (i := 0) rfl hu).1) (by omega)
        have HR_4_9_6_7 := Lib.hid hr_4_9_6_7
        have V_4_9_6_7 := Lib.hid (show Hp w (sgbox g_4_9_6 (AS, cS) s :: obox g_4_9 [] none 0 0 :: sgv (some ⟨ga, 0, none⟩) (n + 1) c5 (vs ++ [(AS, cS)]) (L ++ [s]) :: sgbox g2 (AS, cS) s :: dbox g1 (q : Int) AD nd cd AM mm cm :: obox g5 nm AO n c :: sgv AO n c vs L :: pool) w_4_9_6_7 from hv_4_9_6_7)
        clear hr_4_9_6_7 hv_4_9_6_7
        refine step_app_run rfl (.tmp 33) (.tmp 35) 23 rfl HR_4_9_6_7.out rfl rfl ?_
        refine hK.out _ _ (List.forall_mem_cons.2 ⟨⟨(V_4_9_6_7.out.box_at (i := 5) (j := 0) rfl rfl).1, (V_4_9_6_7.out.box_at (i := 5) (j := 0) rfl rfl).2.2⟩, List.forall_mem_cons.2 ⟨⟨(V_4_9_6_7.out.box_at (i := 5) (j := 1) rfl rfl).1, (V_4_9_6_7.out.box_at (i := 5) (j := 1) rfl rfl).2.2⟩, List.forall_mem_cons.2 ⟨⟨(V_4_9_6_7.out.box_at (i := 3) (j := 0) rfl rfl).1, (V_4_9_6_7.out.box_at (i := 3) (j := 0) rfl rfl).2.2⟩, List.forall_mem_cons.2 ⟨⟨(V_4_9_6_7.out.box_at (i := 3) (j := 1) rfl rfl).1, (V_4_9_6_7.out.box_at (i := 3) (j := 1) rfl rfl).2.2⟩, List.forall_mem_cons.2 ⟨⟨(V_4_9_6_7.out.box_at (i := 3) (j := 2) rfl rfl).1, (V_4_9_6_7.out.box_at (i := 3) (j := 2) rfl rfl).2.2⟩, List.forall_mem_cons.2 ⟨⟨(V_4_9_6_7.out.box_at (i := 3) (j := 3) rfl rfl).1, (V_4_9_6_7.out.box_at (i := 3) (j := 3) rfl rfl).2.2⟩, fun _ h => by simp at h⟩⟩⟩⟩⟩⟩) (fun hHeld => ?_)
        clear hK K
        try simp only [Act.put, sA, sZ, sS]
        refine tk 8 ?_ rfl ?_ ?_; rotate_left; focus (intro w hSw; clear hSw; go_simp; try (with_reducible rfl))
        try simp only [Act.put, sA, sZ, sS]
        refine wpAnyH_ready (rs := [10]) (by kernel_rfl) (by simp) ?_
        refine AllReadyH.cons (List.getElem?_toArray.trans rfl) (fun K hK => ?_) AllReadyH.nil
        obtain ⟨u01, u02, u03⟩ := (V_4_9_6_7.out.box_at (i := 1) (j := 0) rfl rfl)
        obtain ⟨u11, u12, u13⟩ := (V_4_9_6_7.out.box_at (i := 1) (j := 1) rfl rfl)
        have VE := Lib.hid (show Hp w (sgbox g_4_9_6 (AS, cS) s :: obox g_4_9 nm (some ⟨ga, 0, none⟩) (n + 1) c5 :: sgv (some ⟨ga, 0, none⟩) (n + 1) c5 (vs ++ [(AS, cS)]) (L ++ [s]) :: sgbox g2 (AS, cS) s :: dbox g1 (q : Int) AD nd cd AM mm cm :: obox g5 nm AO n c :: sgv AO n c vs L :: pool) _ from Hp.box_set (T := 25) (g := g_4_9) (cs := [.string (bs nm), .slice none 0 0]) (Hp.box_set (T := 25) (g := g_4_9) (cs := oC [] none 0 0) V_4_9_6_7.out (i := 1) rfl 0 (.string (bs nm))) (i := 1) rfl 1 (.slice (some ⟨ga, 0, none⟩) (n + 1) c5))
        go_simp
        refine hK.out _ _ (List.forall_mem_cons.2 ⟨⟨(VE.out.box_at (i := 5) (j := 0) rfl rfl).1, (VE.out.box_at (i := 5) (j := 0) rfl rfl).2.2⟩, List.forall_mem_cons.2 ⟨⟨(VE.out.box_at (i := 5) (j := 1) rfl rfl).1, (VE.out.box_at (i := 5) (j := 1) rfl rfl).2.2⟩, List.forall_mem_cons.2 ⟨⟨(VE.out.box_at (i := 3) (j := 0) rfl rfl).1, (VE.out.box_at (i := 3) (j := 0) rfl rfl).2.2⟩, List.forall_mem_cons.2 ⟨⟨(VE.out.box_at (i := 3) (j := 1) rfl rfl).1, (VE.out.box_at (i := 3) (j := 1) rfl rfl).2.2⟩, List.forall_mem_cons.2 ⟨⟨(VE.out.box_at (i := 3) (j := 2) rfl rfl).1, (VE.out.box_at (i := 3) (j := 2) rfl rfl).2.2⟩, List.forall_mem_cons.2 ⟨⟨(VE.out.box_at (i := 3) (j := 3) rfl rfl).1, (VE.out.box_at (i := 3) (j := 3) rfl rfl).2.2⟩, fun _ h => by simp at h⟩⟩⟩⟩⟩⟩) (fun hHeld => ?_)
        clear hK K
        try simp only [Act.put, sA, sZ, sS]
        refine wpAnyH_done (by kernel_rfl) ?_ _
        clear hHeld
        have VF := Lib.hid (show Hp w (sgbox g2 (AS, cS) s :: dbox g1 (q : Int) AD nd cd AM mm cm :: obox g5 nm AO n c :: obox g_4_9 nm (some ⟨ga, 0, none⟩) (n + 1) c5 :: sgv AO n c vs L :: sgv (some ⟨ga, 0, none⟩) (n + 1) c5 (vs ++ [(AS, cS)]) (L ++ [s]) :: sgbox g_4_9_6 (AS, cS) s :: pool) _ from (Hp.front (l := [_, _, _, _, _, _]) ((Hp.front (l := [_, _, _, _, _, _]) ((Hp.front (l := [_, _, _, _, _, _]) ((Hp.front (l := [_, _, _]) ((Hp.front (l := [_, _, _, _, _, _]) ((Hp.front (l := [_, _]) (VE.out)))))))))))))
        go_wp2_with fail
        go_meet
        exact ⟨_, _, _, _, rfl, VF.out⟩
      exact AllReadyH.nil
    refine AllReadyH.cons (List.getElem?_toArray.trans rfl) (fun K hK => ?_) ?_
    · obtain ⟨w_6, hw_6⟩ : ∃ z, z = wf.alloc (.cells #[.string (bs s.t), .slice AS s.s.length cS, .int .i64 s.c, .int .i64 s.w] 34) := ⟨_, rfl⟩
      obtain ⟨g_6, hg_6⟩ : ∃ z, z = wf.heap.size := ⟨_, rfl⟩
      have V_6 := Lib.hid (show Hp w (sgbox g_6 (AS, cS) s :: sgbox g2 (AS, cS) s :: dbox g1 (q : Int) AD nd cd AM mm cm :: obox g5 nm AO n c :: sgv AO n c vs L :: pool) w_6 by rw [hw_6, hg_6]; exact Vwf.out.sgbox_new AS cS s)
      have B_6 := Lib.hid (show Below wf.heap.size wf w_6 by rw [hw_6]; exact bnew _ _)
      have HW_6 := Lib.hid hw_6
      have HG_6 := Lib.hid hg_6
      clear hw_6 hg_6
      go_simp
      try rw [← HW_6.out]
      try rw [← HG_6.out]
      refine hK.out _ _ (hHeld.go B_6.out) (fun hHeld => ?_)
      clear hK K
      try simp only [Act.put, sA, sZ, sS]
      refine wpAnyH_ready (rs := [4, 9]) (by kernel_rfl) (by simp) ?_
      refine AllReadyH.cons (List.getElem?_toArray.trans rfl) (fun K hK => ?_) ?_
      · go_simp
        refine (clone_sgs vs L AO n c _ HVS.out HL.out hn1 (by omega) (V_6.out.cells (i := 4) (it := sgv AO n c vs L) rfl rfl)).mono ?_
        rintro e w_6_4 ⟨A2, c2, rfl, hp⟩
        have V_6_4 := Lib.hid (show Hp w (sgv A2 n c2 vs L :: sgbox g_6 (AS, cS) s :: sgbox g2 (AS, cS) s :: dbox g1 (q : Int) AD nd cd AM mm cm :: obox g5 nm AO n c :: sgv AO n c vs L :: pool) w_6_4 from V_6.out.join hp)
        have B_6_4 := Lib.hid hp.below
        clear hp
        try go_wp2_with fail
        refine hK.out _ _ (hHeld.go B_6_4.out) (fun hHeld => ?_)
        clear hK K
        try simp only [Act.put, sA, sZ, sS]
        refine wpAnyH_ready (rs := [7, 9]) (by kernel_rfl) (by simp) ?_
        refine AllReadyH.cons (List.getElem?_toArray.trans rfl) (fun K hK => ?_) ?_
        · obtain ⟨ga, c5, w_6_4_7, hr_6_4_7, hv_6_4_7, _⟩ := run_app_sg V_6_4.out (i := 0) rfl HVS.out 23 (b := g_6) (AS, cS) s (fun j u hu => (V_6_4.out.box_at (i := 1) rfl hu).1) (by omega)
          have HR_6_4_7 := Lib.hid hr_6_4_7
          have V_6_4_7 := Lib.hid (show Hp w (sgv (some ⟨ga, 0, none⟩) (n + 1) c5 (vs ++ [(AS, cS)]) (L ++ [s]) :: sgbox g_6 (AS, cS) s :: sgbox g2 (AS, cS) s :: dbox g1 (q : Int) AD nd cd AM mm cm :: obox g5 nm AO n c :: sgv AO n c vs L :: pool) w_6_4_7 from hv_6_4_7)
          clear hr_6_4_7 hv_6_4_7
          refine step_app_run rfl (.tmp 33) (.tmp 35) 23 rfl HR_6_4_7.out rfl rfl ?_
          refine hK.out _ _ (List.forall_mem_cons.2 ⟨⟨(V_6_4_7.out.box_at (i := 4) (j := 0) rfl rfl).1, (V_6_4_7.out.box_at (i := 4) (j := 0) rfl rfl).2.2⟩, List.forall_mem_cons.2 ⟨⟨(V_6_4_7.out.box_at (i := 4) (j := 1) rfl rfl).1, (V_6_4_7.out.box_at (i := 4) (j := 1) rfl rfl).2.2⟩, List.forall_mem_cons.2 ⟨⟨(V_6_4_7.out.box_at (i := 2) (j := 0) rfl rfl).1, (V_6_4_7.out.box_at (i := 2) (j := 0) rfl rfl).2.2⟩, List.forall_mem_cons.2 ⟨⟨(V_6_4_7.out.box_at (i := 2) (j := 1) rfl rfl).1, (V_6_4_7.out.box_at (i := 2) (j := 1) rfl rfl).2.2⟩, List.forall_mem_cons.2 ⟨⟨(V_6_4_7.out.box_at (i := 2) (j := 2) rfl rfl).1, (V_6_4_7.out.box_at (i := 2) (j := 2) rfl rfl).2.2⟩, List.forall_mem_cons.2 ⟨⟨(V_6_4_7.out.box_at (i := 2) (j := 3) rfl rfl).1, (V_6_4_7.out.box_at (i := 2) (j := 3) rfl rfl).2.2⟩, fun _ h => by simp at h⟩⟩⟩⟩⟩⟩) (fun hHeld => ?_)
          clear hK K
          try simp only [Act.put, sA, sZ, sS]
          refine tk 8 ?_ rfl ?_ ?_; rotate_left; focus (intro w hSw; clear hSw; go_simp; try (with_reducible rfl))
          try simp only [Act.put, sA, sZ, sS]
          refine wpAnyH_ready (rs := [9]) (by kernel_rfl) (by simp) ?_
          refine AllReadyH.cons (List.getElem?_toArray.trans rfl) (fun K hK => ?_) AllReadyH.nil
          obtain ⟨w_6_4_7_9, hw_6_4_7_9⟩ : ∃ z, z = w_6_4_7.alloc (.cells #[.string ⟨#[]⟩, .slice none 0 0] 25) := ⟨_, rfl⟩
          obtain ⟨g_6_4_7_9, hg_6_4_7_9⟩ : ∃ z, z = w_6_4_7.heap.size := ⟨_, rfl⟩
          have V_6_4_7_9 := Lib.hid (show Hp w (obox g_6_4_7_9 [] none 0 0 :: sgv (some ⟨ga, 0, none⟩) (n + 1) c5 (vs ++ [(AS, cS)]) (L ++ [s]) :: sgbox g_6 (AS, cS) s :: sgbox g2 (AS, cS) s :: dbox g1 (q : Int) AD nd cd AM mm cm :: obox g5 nm AO n c :: sgv AO n c vs L :: pool) w_6_4_7_9 by rw [hw_6_4_7_9, hg_6_4_7_9]; exact V_6_4_7.out.obox_new [] none 0 0)
          have B_6_4_7_9 := Lib.hid (show Below w_6_4_7.heap.size w_6_4_7 w_6_4_7_9 by rw [hw_6_4_7_9]; exact bnew _ _)
          have HW_6_4_7_9 := Lib.hid hw_6_4_7_9
          have HG_6_4_7_9 := Lib.hid hg_6_4_7_9
          clear hw_6_4_7_9 hg_6_4_7_9
          go_simp
          try rw [← HW_6_4_7_9.out]
          try rw [← HG_6_4_7_9.out]
          refine hK.out _ _ (hHeld.go B_6_4_7_9.out) (fun hHeld => ?_)
          clear hK K
          try simp only [Act.put, sA, sZ, sS]
          refine wpAnyH_ready (rs := [10]) (by kernel_rfl) (by simp) ?_
          refine AllReadyH.cons (List.getElem?_toArray.trans rfl) (fun K hK => ?_) AllReadyH.nil
          obtain ⟨u01, u02, u03⟩ := (V_6_4_7_9.out.box_at (i := 0) (j := 0) rfl rfl)
          obtain ⟨u11, u12, u13⟩ := (V_6_4_7_9.out.box_at (i := 0) (j := 1) rfl rfl)
          have VE := Lib.hid (show Hp w (obox g_6_4_7_9 nm (some ⟨ga, 0, none⟩) (n + 1) c5 :: sgv (some ⟨ga, 0, none⟩) (n + 1) c5 (vs ++ [(AS, cS)]) (L ++ [s]) :: sgbox g_6 (AS, cS) s :: sgbox g2 (AS, cS) s :: dbox g1 (q : Int) AD nd cd AM mm cm :: obox g5 nm AO n c :: sgv AO n c vs L :: pool) _ from Hp.box_set (T := 25) (g := g_6_4_7_9) (cs := [.string (bs nm), .slice none 0 0]) (Hp.box_set (T := 25) (g := g_6_4_7_9) (cs := oC [] none 0 0) V_6_4_7_9.out (i := 0) rfl 0 (.string (bs nm))) (i := 0) rfl 1 (.slice (some ⟨ga, 0, none⟩) (n + 1) c5))
          go_simp
          refine hK.out _ _ (List.forall_mem_cons.2 ⟨⟨(VE.out.box_at (i := 5) (j := 0) rfl rfl).1, (VE.out.box_at (i := 5) (j := 0) rfl rfl).2.2⟩, List.forall_mem_cons.2 ⟨⟨(VE.out.box_at (i := 5) (j := 1) rfl rfl).1, (VE.out.box_at (i := 5) (j := 1) rfl rfl).2.2⟩, List.forall_mem_cons.2 ⟨⟨(VE.out.box_at (i := 3) (j := 0) rfl rfl).1, (VE.out.box_at (i := 3) (j := 0) rfl rfl).2.2⟩, List.forall_mem_cons.2 ⟨⟨(VE.out.box_at (i := 3) (j := 1) rfl rfl).1, (VE.out.box_at (i := 3) (j := 1) rfl rfl).2.2⟩, List.forall_mem_cons.2 ⟨⟨(VE.out.box_at (i := 3) (j := 2) rfl rfl).1, (VE.out.box_at (i := 3) (j := 2) rfl rfl).2.2⟩, List.forall_mem_cons.2 ⟨⟨(VE.out.box_at (i := 3) (j := 3) rfl rfl).1, (VE.out.box_at (i := 3) (j := 3) rfl rfl).2.2⟩, fun _ h => by simp at h⟩⟩⟩⟩⟩⟩) (fun hHeld => ?_)
          clear hK K
          try simp only [Act.put, sA, sZ, sS]
          refine wpAnyH_done (by kernel_rfl) ?_ _
          clear hHeld
          have VF := Lib.hid (show Hp w (sgbox g2 (AS, cS) s :: dbox g1 (q : Int) AD nd cd AM mm cm :: obox g5 nm AO n c :: obox g_6_4_7_9 nm (some ⟨ga, 0, none⟩) (n + 1) c5 :: sgv AO n c vs L :: sgv (some ⟨ga, 0, none⟩) (n + 1) c5 (vs ++ [(AS, cS)]) (L ++ [s]) :: sgbox g_6 (AS, cS) s :: pool) _ from (Hp.front (l := [_, _, _, _, _, _]) ((Hp.front (l := [_, _, _, _, _, _]) ((Hp.front (l := [_, _, _, _, _, _]) ((Hp.front (l := [_, _, _]) ((Hp.front (l := [_, _, _, _, _, _]) ((Hp.front (l := [_, _]) ((Hp.front (l := [_, _]) (VE.out)))))))))))))))
          go_wp2_with fail
          go_meet
          exact ⟨_, _, _, _, rfl, VF.out⟩
        refine AllReadyH.cons (List.getElem?_toArray.trans rfl) (fun K hK => ?_) ?_
        · obtain ⟨w_6_4_9, hw_6_4_9⟩ : ∃ z, z = w_6_4.alloc (.cells #[.string ⟨#[]⟩, .slice none 0 0] 25) := ⟨_, rfl⟩
          obtain ⟨g_6_4_9, hg_6_4_9⟩ : ∃ z, z = w_6_4.heap.size := ⟨_, rfl⟩
          have V_6_4_9 := Lib.hid (show Hp w (obox g_6_4_9 [] none 0 0 :: sgv A2 n c2 vs L :: sgbox g_6 (AS, cS) s :: sgbox g2 (AS, cS) s :: dbox g1 (q : Int) AD nd cd AM mm cm :: obox g5 nm AO n c :: sgv AO n c vs L :: pool) w_6_4_9 by rw [hw_6_4_9, hg_6_4_9]; exact V_6_4.out.obox_new [] none 0 0)
          have B_6_4_9 := Lib.hid (show Below w_6_4.heap.size w_6_4 w_6_4_9 by rw [hw_6_4_9]; exact bnew _ _)
          have HW_6_4_9 := Lib.hid hw_6_4_9
          have HG_6_4_9 := Lib.hid hg_6_4_9
          clear hw_6_4_9 hg_6_4_9
          go_simp
          try rw [← HW_6_4_9.out]
          try rw [← HG_6_4_9.out]
          refine hK.out _ _ (hHeld.go B_6_4_9.out) (fun hHeld => ?_)
          clear hK K
          try simp only [Act.put, sA, sZ, sS]
          refine wpAnyH_ready (rs := [7]) (by kernel_rfl) (by simp) ?_
          refine AllReadyH.cons (List.getElem?_toArray.trans rfl) (fun K hK => ?_) AllReadyH.nil
          obtain ⟨ga, c5, w_6_4_9_7, hr_6_4_9_7, hv_6_4_9_7, _⟩ := run_app_sg V_6_4_9.out (i := 1) rfl HVS.out 23 (b := g_6) (AS, cS) s (fun j u hu => (V_6_4_9.out.box_at (i := 2) rfl hu).1) (by omega)
          have HR_6_4_9_7 := Lib.hid hr_6_4_9_7
          have V_6_4_9_7 := Lib.hid (show Hp w (obox g_6_4_9 [] none 0 0 :: sgv (some ⟨ga, 0, none⟩) (n + 1) c5 (vs ++ [(AS, cS)]) (L ++ [s]) :: sgbox g_6 (AS, cS) s :: sgbox g2 (AS, cS) s :: dbox g1 (q : Int) AD nd cd AM mm cm :: obox g5 nm AO n c :: sgv AO n c vs L :: pool) w_6_4_9_7 from hv_6_4_9_7)
          clear hr_6_4_9_7 hv_6_4_9_7
          refine step_app_run rfl (.tmp 33) (.tmp 35) 23 rfl HR_6_4_9_7.out rfl rfl ?_
          refine hK.out _ _ (List.forall_mem_cons.2 ⟨⟨(V_6_4_9_7.out.box_at (i := 5) (j := 0) rfl rfl).1, (V_6_4_9_7.out.box_at (i := 5) (j := 0) rfl rfl).2.2⟩, List.forall_mem_cons.2 ⟨⟨(V_6_4_9_7.out.box_at (i := 5) (j := 1) rfl rfl).1, (V_6_4_9_7.out.box_at (i := 5) (j := 1) rfl rfl).2.2⟩, List.forall_mem_cons.2 ⟨⟨(V_6_4_9_7.out.box_at (i := 3) (j := 0) rfl rfl).1, (V_6_4_9_7.out.box_at (i := 3) (j := 0) rfl rfl).2.2⟩, List.forall_mem_cons.2 ⟨⟨(V_6_4_9_7.out.box_at (i := 3) (j := 1) rfl rfl).1, (V_6_4_9_7.out.box_at (i := 3) (j := 1) rfl rfl).2.2⟩, List.forall_mem_cons.2 ⟨⟨(V_6_4_9_7.out.box_at (i := 3) (j := 2) rfl rfl).1, (V_6_4_9_7.out.box_at (i := 3) (j := 2) rfl rfl).2.2⟩, List.forall_mem_cons.2 ⟨⟨(V_6_4_9_7.out.box_at (i := 3) (j := 3) rfl rfl).1, (V_6_4_9_7.out.box_at (i := 3) (j := 3) rfl rfl).2.2⟩, fun _ h => by simp at h⟩⟩⟩⟩⟩⟩) (fun hHeld => ?_)
          clear hK K
          try simp only [Act.put, sA, sZ, sS]
          refine tk 8 ?_ rfl ?_ ?_; rotate_left; focus (intro w hSw; clear hSw; go_simp; try (with_reducible rfl))
          try simp only [Act.put, sA, sZ, sS]
          refine wpAnyH_ready (rs := [10]) (by kernel_rfl) (by simp) ?_
          refine AllReadyH.cons (List.getElem?_toArray.trans rfl) (fun K hK => ?_) AllReadyH.nil
          obtain ⟨u01, u02, u03⟩ := (V_6_4_9_7.out.box_at (i := 0) (j := 0) rfl rfl)
          obtain ⟨u11, u12, u13⟩ := (V_6_4_9_7.out.box_at (i := 0) (j := 1) rfl rfl)
          have VE := Lib.hid (show Hp w (obox g_6_4_9 nm (some ⟨ga, 0, none⟩) (n + 1) c5 :: sgv (some ⟨ga, 0, none⟩) (n + 1) c5 (vs ++ [(AS, cS)]) (L ++ [s]) :: sgbox g_6 (AS, cS) s :: sgbox g2 (AS, cS) s :: dbox g1 (q : Int) AD nd cd AM mm cm :: obox g5 nm AO n c :: sgv AO n c vs L :: pool) _ from Hp.box_set (T := 25) (g := g_6_4_9) (cs := [.string (bs nm), .slice none 0 0]) (Hp.box_set (T := 25) (g := g_6_4_9) (cs := oC [] none 0 0) V_6_4_9_7.out (i := 0) rfl 0 (.string (bs nm))) (i := 0) rfl 1 (.slice (some ⟨ga, 0, none⟩) (n + 1) c5))
          go_simp
          refine hK.out _ _ (List.forall_mem_cons.2 ⟨⟨(VE.out.box_at (i := 5) (j := 0) rfl rfl).1, (VE.out.box_at (i := 5) (j := 0) rfl rfl).2.2⟩, List.forall_mem_cons.2 ⟨⟨(VE.out.box_at (i := 5) (j := 1) rfl rfl).1, (VE.out.box_at (i := 5) (j := 1) rfl rfl).2.2⟩, List.forall_mem_cons.2 ⟨⟨(VE.out.box_at (i := 3) (j := 0) rfl rfl).1, (VE.out.box_at (i := 3) (j := 0) rfl rfl).2.2⟩, List.forall_mem_cons.2 ⟨⟨(VE.out.box_at (i := 3) (j := 1) rfl rfl).1, (VE.out.box_at (i := 3) (j := 1) rfl rfl).2.2⟩, List.forall_mem_cons.2 ⟨⟨(VE.out.box_at (i := 3) (j := 2) rfl rfl).1, (VE.out.box_at (i := 3) (j := 2) rfl rfl).2.2⟩, List.forall_mem_cons.2 ⟨⟨(VE.out.box_at (i := 3) (j := 3) rfl rfl).1, (VE.out.box_at (i := 3) (j := 3) rfl rfl).2.2⟩, fun _ h => by simp at h⟩⟩⟩⟩⟩⟩) (fun hHeld => ?_)
          clear hK K
          try simp only [Act.put, sA, sZ, sS]
          refine wpAnyH_done (by kernel_rfl) ?_ _
          clear hHeld
          have VF := Lib.hid (show Hp w (sgbox g2 (AS, cS) s :: dbox g1 (q : Int) AD nd cd AM mm cm :: obox g5 nm AO n c :: obox g_6_4_9 nm (some ⟨ga, 0, none⟩) (n + 1) c5 :: sgv AO n c vs L :: sgv (some ⟨ga, 0, none⟩) (n + 1) c5 (vs ++ [(AS, cS)]) (L ++ [s]) :: sgbox g_6 (AS, cS) s :: pool) _ from (Hp.front (l := [_, _, _, _, _, _]) ((Hp.front (l := [_, _, _, _, _, _]) ((Hp.front (l := [_, _, _, _, _, _]) ((Hp.front (l := [_, _, _]) ((Hp.front (l := [_, _, _, _, _, _]) ((Hp.front (l := [_, _]) ((Hp.front (l := [_, _]) (VE.out)))))))))))))))
          go_wp2_with fail
          go_meet
          exact ⟨_, _, _, _, rfl, VF.out⟩
        exact AllReadyH.nil
      refine AllReadyH.cons (List.getElem?_toArray.trans rfl) (fun K hK => ?_) ?_
      · obtain ⟨w_6_9, hw_6_9⟩ : ∃ z, z = w_6.alloc (.cells #[.string ⟨#[]⟩, .slice none 0 0] 25) := ⟨_, rfl⟩
        obtain ⟨g_6_9, hg_6_9⟩ : ∃ z, z = w_6.heap.size := ⟨_, rfl⟩
        have V_6_9 := Lib.hid (show Hp w (obox g_6_9 [] none 0 0 :: sgbox g_6 (AS, cS) s :: sgbox g2 (AS, cS) s :: dbox g1 (q : Int) AD nd cd AM mm cm :: obox g5 nm AO n c :: sgv AO n c vs L :: pool) w_6_9 by rw [hw_6_9, hg_6_9]; exact V_6.out.obox_new [] none 0 0)
        have B_6_9 := Lib.hid (show Below w_6.heap.size w_6 w_6_9 by rw [hw_6_9]; exact bnew _ _)
        have HW_6_9 := Lib.hid hw_6_9
        have HG_6_9 := Lib.hid hg_6_9
        clear hw_6_9 hg_6_9
        go_simp
        try rw [← HW_6_9.out]
        try rw [← HG_6_9.out]
        refine hK.out _ _ (hHeld.go B_6_9.out) (fun hHeld => ?_)
        clear hK K
        try simp only [Act.put, sA, sZ, sS]
        refine wpAnyH_ready (rs := [4]) (by kernel_rfl) (by simp) ?_
        refine AllReadyH.cons (List.getElem?_toArray.trans rfl) (fun K hK => ?_) AllReadyH.nil
        go_simp
        refine (clone_sgs vs L AO n c _ HVS.out HL.out hn1 (by omega) (V_6_9.out.cells (i := 5) (it := sgv AO n c vs L) rfl rfl)).mono ?_
        rintro e w_6_9_4 ⟨A2, c2, rfl, hp⟩
        have V_6_9_4 := Lib.hid (show Hp w (sgv A2 n c2 vs L :: obox g_6_9 [] none 0 0 :: sgbox g_6 (AS, cS) s :: sgbox g2 (AS, cS) s :: dbox g1 (q : Int) AD nd cd AM mm cm :: obox g5 nm AO n c :: sgv AO n c vs L :: pool) w_6_9_4 from V_6_9.out.join hp)
        have B_6_9_4 := Lib.hid hp.below
        clear hp
        try go_wp2_with fail
        refine hK.out _ _ (hHeld.go B_6_9_4.out) (fun hHeld => ?_)
        clear hK K
        try simp only [Act.put, sA, sZ, sS]
        refine wpAnyH_ready (rs := [7]) (by kernel_rfl) (by simp) ?_
        refine AllReadyH.cons (List.getElem?_toArray.trans rfl) (fun K hK => ?_) AllReadyH.nil
        obtain ⟨ga, c5, w_6_9_4_7, hr_6_9_4_7, hv_6_9_4_7, _⟩ := run_app_sg V_6_9_4.out (i := 0) rfl HVS.out 23 (b := g_6) (AS, cS) s (fun j u hu => (V_6_9_4.out.box_at (i := 2) rfl hu).1) (by omega)
        have HR_6_9_4_7 := Lib.hid hr_6_9_4_7
        have V_6_9_4_7 := Lib.hid (show Hp w (sgv (some ⟨ga, 0, none⟩) (n + 1) c5 (vs ++ [(AS, cS)]) (L ++ [s]) :: obox g_6_9 [] none 0 0 :: sgbox g_6 (AS, cS) s :: sgbox g2 (AS, cS) s :: dbox g1 (q : Int) AD nd cd AM mm cm :: obox g5 nm AO n c :: sgv AO n c vs L :: pool) w_6_9_4_7 from hv_6_9_4_7)
        clear hr_6_9_4_7 hv_6_9_4_7
        refine step_app_run rfl (.tmp 33) (.tmp 35) 23 rfl HR_6_9_4_7.out rfl rfl ?_
        refine hK.out _ _ (List.forall_mem_cons.2 ⟨⟨(V_6_9_4_7.out.box_at (i := 5) (j := 0) rfl rfl).1, (V_6_9_4_7.out.box_at (i := 5) (j := 0) rfl rfl).2.2⟩, List.forall_mem_cons.2 ⟨⟨(V_6_9_4_7.out.box_at (i := 5) (j := 1) rfl rfl).1, (V_6_9_4_7.out.box_at (i := 5) (j := 1) rfl rfl).2.2⟩, List.forall_mem_cons.2 ⟨⟨(V_6_9_4_7.out.box_at (i := 3) (j := 0) rfl rfl).1, (V_6_9_4_7.out.box_at (i := 3) (j := 0) rfl rfl).2.2⟩, List.forall_mem_cons.2 ⟨⟨(V_6_9_4_7.out.box_at (i := 3) (j := 1) rfl rfl).1, (V_6_9_4_7.out.box_at (i := 3) (j := 1) rfl rfl).2.2⟩, List.forall_mem_cons.2 ⟨⟨(V_6_9_4_7.out.box_at (i := 3) (j := 2) rfl rfl).1, (V_6_9_4_7.out.box_at (i := 3) (j := 2) rfl rfl).2.2⟩, List.forall_mem_cons.2 ⟨⟨(V_6_9_4_7.out.box_at (i := 3) (j := 3) rfl rfl).1, (V_6_9_4_7.out.box_at (i := 3) (j := 3) rfl rfl).2.2⟩, fun _ h => by simp at h⟩⟩⟩⟩⟩⟩) (fun hHeld => ?_)
        clear hK K
        try simp only [Act.put, sA, sZ, sS]
        refine tk 8 ?_ rfl ?_ ?_; rotate_left; focus (intro w hSw; clear hSw; go_simp; try (with_reducible rfl))
        try simp only [Act.put, sA, sZ, sS]
        refine wpAnyH_ready (rs := [10]) (by kernel_rfl) (by simp) ?_
        refine AllReadyH.cons (List.getElem?_toArray.trans rfl) (fun K hK => ?_) AllReadyH.nil
        obtain ⟨u01, u02, u03⟩ := (V_6_9_4_7.out.box_at (i := 1) (j := 0) rfl rfl)
        obtain ⟨u11, u12, u13⟩ := (V_6_9_4_7.out.box_at (i := 1) (j := 1) rfl rfl)
        have VE := Lib.hid (show Hp w (sgv (some ⟨ga, 0, none⟩) (n + 1) c5 (vs ++ [(AS, cS)]) (L ++ [s]) :: obox g_6_9 nm (some ⟨ga, 0, none⟩) (n + 1) c5 :: sgbox g_6 (AS, cS) s :: sgbox g2 (AS, cS) s :: dbox g1 (q : Int) AD nd cd AM mm cm :: obox g5 nm AO n c :: sgv AO n c vs L :: pool) _ from Hp.box_set (T := 25) (g := g_6_9) (cs := [.string (bs nm), .slice none 0 0]) (Hp.box_set (T := 25) (g := g_6_9) (cs := oC [] none 0 0) V_6_9_4_7.out (i := 1) rfl 0 (.string (bs nm))) (i := 1) rfl 1 (.slice (some ⟨ga, 0, none⟩) (n + 1) c5))
        go_simp
        refine hK.out _ _ (List.forall_mem_cons.2 ⟨⟨(VE.out.box_at (i := 5) (j := 0) rfl rfl).1, (VE.out.box_at (i := 5) (j := 0) rfl rfl).2.2⟩, List.forall_mem_cons.2 ⟨⟨(VE.out.box_at (i := 5) (j := 1) rfl rfl).1, (VE.out.box_at (i := 5) (j := 1) rfl rfl).2.2⟩, List.forall_mem_cons.2 ⟨⟨(VE.out.box_at (i := 3) (j := 0) rfl rfl).1, (VE.out.box_at (i := 3) (j := 0) rfl rfl).2.2⟩, List.forall_mem_cons.2 ⟨⟨(VE.out.box_at (i := 3) (j := 1) rfl rfl).1, (VE.out.box_at (i := 3) (j := 1) rfl rfl).2.2⟩, List.forall_mem_cons.2 ⟨⟨(VE.out.box_at (i := 3) (j := 2) rfl rfl).1, (VE.out.box_at (i := 3) (j := 2) rfl rfl).2.2⟩, List.forall_mem_cons.2 ⟨⟨(VE.out.box_at (i := 3) (j := 3) rfl rfl).1, (VE.out.box_at (i := 3) (j := 3) rfl rfl).2.2⟩, fun _ h => by simp at h⟩⟩⟩⟩⟩⟩) (fun hHeld => ?_)
        clear hK K
        try simp only [Act.put, sA, sZ, sS]
        refine wpAnyH_done (by kernel_rfl) ?_ _
        clear hHeld
        have VF := Lib.hid (show Hp w (sgbox g2 (AS, cS) s :: dbox g1 (q : Int) AD nd cd AM mm cm :: obox g5 nm AO n c :: obox g_6_9 nm (some ⟨ga, 0, none⟩) (n + 1) c5 :: sgv AO n c vs L :: sgv (some ⟨ga, 0, none⟩) (n + 1) c5 (vs ++ [(AS, cS)]) (L ++ [s]) :: sgbox g_6 (AS, cS) s :: pool) _ from (Hp.front (l := [_, _, _, _, _, _]) ((Hp.front (l := [_, _, _, _, _, _]) ((Hp.front (l := [_, _, _, _, _, _]) ((Hp.front (l := [_, _, _]) ((Hp.front (l := [_, _, _, _, _, _]) ((Hp.front (l := [_]) ((Hp.front (l := [_, _]) (VE.out)))))))))))))))
        go_wp2_with fail
        go_meet
        exact ⟨_, _, _, _, rfl, VF.out⟩
      exact AllReadyH.nil
    refine AllReadyH.cons (List.getElem?_toArray.trans rfl) (fun K hK => ?_) ?_
    · obtain ⟨w_9, hw_9⟩ : ∃ z, z = wf.alloc (.cells #[.string ⟨#[]⟩, .slice none 0 0] 25) := ⟨_, rfl⟩
      obtain ⟨g_9, hg_9⟩ : ∃ z, z = wf.heap.size := ⟨_, rfl⟩
      have V_9 := Lib.hid (show Hp w (obox g_9 [] none 0 0 :: sgbox g2 (AS, cS) s :: dbox g1 (q : Int) AD nd cd AM mm cm :: obox g5 nm AO n c :: sgv AO n c vs L :: pool) w_9 by rw [hw_9, hg_9]; exact Vwf.out.obox_new [] none 0 0)
      have B_9 := Lib.hid (show Below wf.heap.size wf w_9 by rw [hw_9]; exact bnew _ _)
      have HW_9 := Lib.hid hw_9
      have HG_9 := Lib.hid hg_9
      clear hw_9 hg_9
      go_simp
      try rw [← HW_9.out]
      try rw [← HG_9.out]
      refine hK.out _ _ (hHeld.go B_9.out) (fun hHeld => ?_)
      clear hK K
      try simp only [Act.put, sA, sZ, sS]
      refine wpAnyH_ready (rs := [4, 6]) (by kernel_rfl) (by simp) ?_
      refine AllReadyH.cons (List.getElem?_toArray.trans rfl) (fun K hK => ?_) ?_
      · go_simp
        refine (clone_sgs vs L AO n c _ HVS.out HL.out hn1 (by omega) (V_9.out.cells (i := 4) (it := sgv AO n c vs L) rfl rfl)).mono ?_
        rintro e w_9_4 ⟨A2, c2, rfl, hp⟩
        have V_9_4 := Lib.hid (show Hp w (sgv A2 n c2 vs L :: obox g_9 [] none 0 0 :: sgbox g2 (AS, cS) s :: dbox g1 (q : Int) AD nd cd AM mm cm :: obox g5 nm AO n c :: sgv AO n c vs L :: pool) w_9_4 from V_9.out.join hp)
        have B_9_4 := Lib.hid hp.below
        clear hp
        try go_wp2_with fail
        refine hK.out _ _ (hHeld.go B_9_4.out) (fun hHeld => ?_)
        clear hK K
        try simp only [Act.put, sA, sZ, sS]
        refine wpAnyH_ready (rs := [6]) (by kernel_rfl) (by simp) ?_
        refine AllReadyH.cons (List.getElem?_toArray.trans rfl) (fun K hK => ?_) AllReadyH.nil
        obtain ⟨w_9_4_6, hw_9_4_6⟩ : ∃ z, z = w_9_4.alloc (.cells #[.string (bs s.t), .slice AS s.s.length cS, .int .i64 s.c, .int .i64 s.w] 34) := ⟨_, rfl⟩
        obtain ⟨g_9_4_6, hg_9_4_6⟩ : ∃ z, z = w_9_4.heap.size := ⟨_, rfl⟩
        have V_9_4_6 := Lib.hid (show Hp w (sgbox g_9_4_6 (AS, cS) s :: sgv A2 n c2 vs L :: obox g_9 [] none 0 0 :: sgbox g2 (AS, cS) s :: dbox g1 (q : Int) AD nd cd AM mm cm :: obox g5 nm AO n c :: sgv AO n c vs L :: pool) w_9_4_6 by rw [hw_9_4_6, hg_9_4_6]; exact V_9_4.out.sgbox_new AS cS s)
        have B_9_4_6 := Lib.hid (show Below w_9_4.heap.size w_9_4 w_9_4_6 by rw [hw_9_4_6]; exact bnew _ _)
        have HW_9_4_6 := Lib.hid hw_9_4_6
        have HG_9_4_6 := Lib.hid hg_9_4_6
        clear hw_9_4_6 hg_9_4_6
        go_simp
        try rw [← HW_9_4_6.out]
        try rw [← HG_9_4_6.out]
        refine hK.out _ _ (hHeld.go B_9_4_6.out) (fun hHeld => ?_)
        clear hK K
        try simp only [Act.put, sA, sZ, sS]
        refine wpAnyH_ready (rs := [7]) (by kernel_rfl) (by simp) ?_
        refine AllReadyH.cons (List.getElem?_toArray.trans rfl) (fun K hK => ?_) AllReadyH.nil
        obtain ⟨ga, c5, w_9_4_6_7, hr_9_4_6_7, hv_9_4_6_7, _⟩ := run_app_sg V_9_4_6.out (i := 1) rfl HVS.out 23 (b := g_9_4_6) (AS, cS) s (fun j u hu => (V_9_4_6.out.box_at (i := 0) rfl hu).1) (by omega)
        have HR_9_4_6_7 := Lib.hid hr_9_4_6_7
        have V_9_4_6_7 := Lib.hid (show Hp w (sgbox g_9_4_6 (AS, cS) s :: sgv (some ⟨ga, 0, none⟩) (n + 1) c5 (vs ++ [(AS, cS)]) (L ++ [s]) :: obox g_9 [] none 0 0 :: sgbox g2 (AS, cS) s :: dbox g1 (q : Int) AD nd cd AM mm cm :: obox g5 nm AO n c :: sgv AO n c vs L :: pool) w_9_4_6_7 from hv_9_4_6_7)
        clear hr_9_4_6_7 hv_9_4_6_7
        refine step_app_run rfl (.tmp 33) (.tmp 35) 23 rfl HR_9_4_6_7.out rfl rfl ?_
        refine hK.out _ _ (List.forall_mem_cons.2 ⟨⟨(V_9_4_6_7.out.box_at (i := 5) (j := 0) rfl rfl).1, (V_9_4_6_7.out.box_at (i := 5) (j := 0) rfl rfl).2.2⟩, List.forall_mem_cons.2 ⟨⟨(V_9_4_6_7.out.box_at (i := 5) (j := 1) rfl rfl).1, (V_9_4_6_7.out.box_at (i := 5) (j := 1) rfl rfl).2.2⟩, List.forall_mem_cons.2 ⟨⟨(V_9_4_6_7.out.box_at (i := 3) (j := 0) rfl rfl).1, (V_9_4_6_7.out.box_at (i := 3) (j := 0) rfl rfl).2.2⟩, List.forall_mem_cons.2 ⟨⟨(V_9_4_6_7.out.box_at (i := 3) (j := 1) rfl rfl).1, (V_9_4_6_7.out.box_at (i := 3) (j := 1) rfl rfl).2.2⟩, List.forall_mem_cons.2 ⟨⟨(V_9_4_6_7.out.box_at (i := 3) (j := 2) rfl rfl).1, (V_9_4_6_7.out.box_at (i := 3) (j := 2) rfl rfl).2.2⟩, List.forall_mem_cons.2 ⟨⟨(V_9_4_6_7.out.box_at (i := 3) (j := 3) rfl rfl).1, (V_9_4_6_7.out.box_at (i := 3) (j := 3) rfl rfl).2.2⟩, fun _ h => by simp at h⟩⟩⟩⟩⟩⟩) (fun hHeld => ?_)
        clear hK K
        try simp only [Act.put, sA, sZ, sS]
        refine tk 8 ?_ rfl ?_ ?_; rotate_left; focus (intro w hSw; clear hSw; go_simp; try (with_reducible rfl))
        try simp only [Act.put, sA, sZ, sS]
        refine wpAnyH_ready (rs := [10]) (by kernel_rfl) (by simp) ?_
        refine AllReadyH.cons (List.getElem?_toArray.trans rfl) (fun K hK => ?_) AllReadyH.nil
        obtain ⟨u01, u02, u03⟩ := (V_9_4_6_7.out.box_at (i := 2) (j := 0) rfl rfl)
        obtain ⟨u11, u12, u13⟩ := (V_9_4_6_7.out.box_at (i := 2) (j := 1) rfl rfl)
        have VE := Lib.hid (show Hp w (sgbox g_9_4_6 (AS, cS) s :: sgv (some ⟨ga, 0, none⟩) (n + 1) c5 (vs ++ [(AS, cS)]) (L ++ [s]) :: obox g_9 nm (some ⟨ga, 0, none⟩) (n + 1) c5 :: sgbox g2 (AS, cS) s :: dbox g1 (q : Int) AD nd cd AM mm cm :: obox g5 nm AO n c :: sgv AO n c vs L :: pool) _ from Hp.box_set (T := 25) (g := g_9) (cs := [.string (bs nm), .slice none 0 0]) (Hp.box_set (T := 25) (g := g_9) (cs := oC [] none 0 0) V_9_4_6_7.out (i := 2) rfl 0 (.string (bs nm))) (i := 2) rfl 1 (.slice (some ⟨ga, 0, none⟩) (n + 1) c5))
        go_simp
        refine hK.out _ _ (List.forall_mem_cons.2 ⟨⟨(VE.out.box_at (i := 5) (j := 0) rfl rfl).1, (VE.out.box_at (i := 5) (j := 0) rfl rfl).2.2⟩, List.forall_mem_cons.2 ⟨⟨(VE.out.box_at (i := 5) (j := 1) rfl rfl).1, (VE.out.box_at (i := 5) (j := 1) rfl rfl).2.2⟩, List.forall_mem_cons.2 ⟨⟨(VE.out.box_at (i := 3) (j := 0) rfl rfl).1, (VE.out.box_at (i := 3) (j := 0) rfl rfl).2.2⟩, List.forall_mem_cons.2 ⟨⟨(VE.out.box_at (i := 3) (j := 1) rfl rfl).1, (VE.out.box_at (i := 3) (j := 1) rfl rfl).2.2⟩, List.forall_mem_cons.2 ⟨⟨(VE.out.box_at (i := 3) (j := 2) rfl rfl).1, (VE.out.box_at (i := 3) (j := 2) rfl rfl).2.2⟩, List.forall_mem_cons.2 ⟨⟨(VE.out.box_at (i := 3) (j := 3) rfl rfl).1, (VE.out.box_at (i := 3) (j := 3) rfl rfl).2.2⟩, fun _ h => by simp at h⟩⟩⟩⟩⟩⟩) (fun hHeld => ?_)
        clear hK K
        try simp only [Act.put, sA, sZ, sS]
        refine wpAnyH_done (by kernel_rfl) ?_ _
        clear hHeld
        have VF := Lib.hid (show Hp w (sgbox g2 (AS, cS) s :: dbox g1 (q : Int) AD nd cd AM mm cm :: obox g5 nm AO n c :: obox g_9 nm (some ⟨ga, 0, none⟩) (n + 1) c5 :: sgv AO n c vs L :: sgv (some ⟨ga, 0, none⟩) (n + 1) c5 (vs ++ [(AS, cS)]) (L ++ [s]) :: sgbox g_9_4_6 (AS, cS) s :: pool) _ from (Hp.front (l := [_, _, _, _, _, _]) ((Hp.front (l := [_, _, _, _, _, _]) ((Hp.front (l := [_, _, _, _, _, _]) ((Hp.front (l := [_, _, _]) ((Hp.front (l := [_, _, _, _, _, _]) ((Hp.front (l := [_]) (VE.out)))))))))))))
        go_wp2_with fail
        go_meet
        exact ⟨_, _, _, _, rfl, VF.out⟩
      refine AllReadyH.cons (List.getElem?_toArray.trans rfl) (fun K hK => ?_) ?_
      · obtain ⟨w_9_6, hw_9_6⟩ : ∃ z, z = w_9.alloc (.cells #[.string (bs s.t), .slice AS s.s.length cS, .int .i64 s.c, .int .i64 s.w] 34) := ⟨_, rfl⟩
        obtain ⟨g_9_6, hg_9_6⟩ : ∃ z, z = w_9.heap.size := ⟨_, rfl⟩
        have V_9_6 := Lib.hid (show Hp w (sgbox g_9_6 (AS, cS) s :: obox g_9 [] none 0 0 :: sgbox g2 (AS, cS) s :: dbox g1 (q : Int) AD nd cd AM mm cm :: obox g5 nm AO n c :: sgv AO n c vs L :: pool) w_9_6 by rw [hw_9_6, hg_9_6]; exact V_9.out.sgbox_new AS cS s)
        have B_9_6 := Lib.hid (show Below w_9.heap.size w_9 w_9_6 by rw [hw_9_6]; exact bnew _ _)
        have HW_9_6 := Lib.hid hw_9_6
        have HG_9_6 := Lib.hid hg_9_6
        clear hw_9_6 hg_9_6
        go_simp
        try rw [← HW_9_6.out]
        try rw [← HG_9_6.out]
        refine hK.out _ _ (hHeld.go B_9_6.out) (fun hHeld => ?_)
        clear hK K
        try simp only [Act.put, sA, sZ, sS]
        refine wpAnyH_ready (rs := [4]) (by kernel_rfl) (by simp) ?_
        refine AllReadyH.cons (List.getElem?_toArray.trans rfl) (fun K hK => ?_) AllReadyH.nil
        go_simp
        refine (clone_sgs vs L AO n c _ HVS.out HL.out hn1 (by omega) (V_9_6.out.cells (i := 5) (it := sgv AO n c vs L) rfl rfl)).mono ?_
        rintro e w_9_6_4 ⟨A2, c2, rfl, hp⟩
        have V_9_6_4 := Lib.hid (show Hp w (sgv A2 n c2 vs L :: sgbox g_9_6 (AS, cS) s :: obox g_9 [] none 0 0 :: sgbox g2 (AS, cS) s :: dbox g1 (q : Int) AD nd cd AM mm cm :: obox g5 nm AO n c :: sgv AO n c vs L :: pool) w_9_6_4 from V_9_6.out.join hp)
        have B_9_6_4 := Lib.hid hp.below
        clear hp
        try go_wp2_with fail
        refine hK.out _ _ (hHeld.go B_9_6_4.out) (fun hHeld => ?_)
        clear hK K
        try simp only [Act.put, sA, sZ, sS]
        refine wpAnyH_ready (rs := [7]) (by kernel_rfl) (by simp) ?_
        refine AllReadyH.cons (List.getElem?_toArray.trans rfl) (fun K hK => ?_) AllReadyH.nil
        obtain ⟨ga, c5, w_9_6_4_7, hr_9_6_4_7, hv_9_6_4_7, _⟩ := run_app_sg V_9_6_4.out (i := 0) rfl HVS.out 23 (b := g_9_6) (AS, cS) s (fun j u hu => (V_9_6_4.out.box_at (i := 1) rfl hu).1) (by omega)
        have HR_9_6_4_7 := Lib.hid hr_9_6_4_7
        have V_9_6_4_7 := Lib.hid (show Hp w (sgv (some ⟨ga, 0, none⟩) (n + 1) c5 (vs ++ [(AS, cS)]) (L ++ [s]) :: sgbox g_9_6 (AS, cS) s :: obox g_9 [] none 0 0 :: sgbox g2 (AS, cS) s :: dbox g1 (q : Int) AD nd cd AM mm cm :: obox g5 nm AO n c :: sgv AO n c vs L :: pool) w_9_6_4_7 from hv_9_6_4_7)
        clear hr_9_6_4_7 hv_9_6_4_7
        refine step_app_run rfl (.tmp 33) (.tmp 35) 23 rfl HR_9_6_4_7.out rfl rfl ?_
        refine hK.out _ _ (List.forall_mem_cons.2 ⟨⟨(V_9_6_4_7.out.box_at (i := 5) (j := 0) rfl rfl).1, (V_9_6_4_7.out.box_at (i := 5) (j := 0) rfl rfl).2.2⟩, List.forall_mem_cons.2 ⟨⟨(V_9_6_4_7.out.box_at (i := 5) (j := 1) rfl rfl).1, (V_9_6_4_7.out.box_at (i := 5) (j := 1) rfl rfl).2.2⟩, List.forall_mem_cons.2 ⟨⟨(V_9_6_4_7.out.box_at (i := 3) (j := 0) rfl rfl).1, (V_9_6_4_7.out.box_at (i := 3) (j := 0) rfl rfl).2.2⟩, List.forall_mem_cons.2 ⟨⟨(V_9_6_4_7.out.box_at (i := 3) (j := 1) rfl rfl).1, (V_9_6_4_7.out.box_at (i := 3) (j := 1) rfl rfl).2.2⟩, List.forall_mem_cons.2 ⟨⟨(V_9_6_4_7.out.box_at (i := 3) (j := 2) rfl rfl).1, (V_9_6_4_7.out.box_at (i := 3) (j := 2) rfl rfl).2.2⟩, List.forall_mem_cons.2 ⟨⟨(V_9_6_4_7.out.box_at (i := 3) (j := 3) rfl rfl).1, (V_9_6_4_7.out.box_at (i := 3) (j := 3) rfl rfl).2.2⟩, fun _ h => by simp at h⟩⟩⟩⟩⟩⟩) (fun hHeld => ?_)
        clear hK K
        try simp only [Act.put, sA, sZ, sS]
        refine tk 8 ?_ rfl ?_ ?_; rotate_left; focus (intro w hSw; clear hSw; go_simp; try (with_reducible rfl))
        try simp only [Act.put, sA, sZ, sS]
        refine wpAnyH_ready (rs := [10]) (by kernel_rfl) (by simp) ?_
        refine AllReadyH.cons (List.getElem?_toArray.trans rfl) (fun K hK => ?_) AllReadyH.nil
        obtain ⟨u01, u02, u03⟩ := (V_9_6_4_7.out.box_at (i := 2) (j := 0) rfl rfl)
        obtain ⟨u11, u12, u13⟩ := (V_9_6_4_7.out.box_at (i := 2) (j := 1) rfl rfl)
        have VE := Lib.hid (show Hp w (sgv (some ⟨ga, 0, none⟩) (n + 1) c5 (vs ++ [(AS, cS)]) (L ++ [s]) :: sgbox g_9_6 (AS, cS) s :: obox g_9 nm (some ⟨ga, 0, none⟩) (n + 1) c5 :: sgbox g2 (AS, cS) s :: dbox g1 (q : Int) AD nd cd AM mm cm :: obox g5 nm AO n c :: sgv AO n c vs L :: pool) _ from Hp.box_set (T := 25) (g := g_9) (cs := [.string (bs nm), .slice none 0 0]) (Hp.box_set (T := 25) (g := g_9) (cs := oC [] none 0 0) V_9_6_4_7.out (i := 2) rfl 0 (.string (bs nm))) (i := 2) rfl 1 (.slice (some ⟨ga, 0, none⟩) (n + 1) c5))
        go_simp
        refine hK.out _ _ (List.forall_mem_cons.2 ⟨⟨(VE.out.box_at (i := 5) (j := 0) rfl rfl).1, (VE.out.box_at (i := 5) (j := 0) rfl rfl).2.2⟩, List.forall_mem_cons.2 ⟨⟨(VE.out.box_at (i := 5) (j := 1) rfl rfl).1, (VE.out.box_at (i := 5) (j := 1) rfl rfl).2.2⟩, List.forall_mem_cons.2 ⟨⟨(VE.out.box_at (i := 3) (j := 0) rfl rfl).1, (VE.out.box_at (i := 3) (j := 0) rfl rfl).2.2⟩, List.forall_mem_cons.2 ⟨⟨(VE.out.box_at (i := 3) (j := 1) rfl rfl).1, (VE.out.box_at (i := 3) (j := 1) rfl rfl).2.2⟩, List.forall_mem_cons.2 ⟨⟨(VE.out.box_at (i := 3) (j := 2) rfl rfl).1, (VE.out.box_at (i := 3) (j := 2) rfl rfl).2.2⟩, List.forall_mem_cons.2 ⟨⟨(VE.out.box_at (i := 3) (j := 3) rfl rfl).1, (VE.out.box_at (i := 3) (j := 3) rfl rfl).2.2⟩, fun _ h => by simp at h⟩⟩⟩⟩⟩⟩) (fun hHeld => ?_)
        clear hK K
        try simp only [Act.put, sA, sZ, sS]
        refine wpAnyH_done (by kernel_rfl) ?_ _
        clear hHeld
        have VF := Lib.hid (show Hp w (sgbox g2 (AS, cS) s :: dbox g1 (q : Int) AD nd cd AM mm cm :: obox g5 nm AO n c :: obox g_9 nm (some ⟨ga, 0, none⟩) (n + 1) c5 :: sgv AO n c vs L :: sgv (some ⟨ga, 0, none⟩) (n + 1) c5 (vs ++ [(AS, cS)]) (L ++ [s]) :: sgbox g_9_6 (AS, cS) s :: pool) _ from (Hp.front (l := [_, _, _, _, _, _]) ((Hp.front (l := [_, _, _, _, _, _]) ((Hp.front (l := [_, _, _, _, _, _]) ((Hp.front (l := [_, _, _]) ((Hp.front (l := [_, _, _, _, _, _]) ((Hp.front (l := [_]) ((Hp.front (l := [_]) (VE.out)))))))))))))))
        go_wp2_with fail
        go_meet
        exact ⟨_, _, _, _, rfl, VF.out⟩
      exact AllReadyH.nil
    exact AllReadyH.nil
  case rest =>
  obtain ⟨g6, gz, A4, c4, rfl, hV⟩ := hcut
  obtain ⟨wb, rfl⟩ : ∃ z : World, z = wc := ⟨_, rfl⟩
  have V7 := Lib.hid hV
  have HLM := Lib.hid (show (L ++ [s]).length = n + 1 by rw [List.length_append, HL.out]; rfl)
  have HBM := Lib.hid (show SgBd (L ++ [s]) from fun z hz => by
    rcases List.mem_append.1 hz with hz | hz
    · exact SgBd.ok HV.out z hz
    · rw [List.mem_singleton.1 hz]
      exact ⟨HLIM.out.1, by have := HFEW.out.1; omega, HLIM.out.2.2⟩)
  have HSO := Lib.hid (fun (wx : World) (h : Hp w (sgbox g2 (AS, cS) s :: dbox g1 (q : Int) AD nd cd AM mm cm :: obox g5 nm AO n c :: obox g6 nm A4 (n + 1) c4 :: sgv AO n c vs L :: sgv A4 (n + 1) c4 (vs ++ [(AS, cS)]) (L ++ [s]) :: sgbox gz (AS, cS) s :: pool) wx) => (show SgnIn wx AO L from sg_in (i := 4) (d := 0) (n := n) (c := c) h rfl HVS.out (fun j u z hu hz => by
    obtain ⟨r, hr⟩ := HPO.out j u z hu hz
    exact h.cells (i := r + 7) (it := snds u.1 z.s.length u.2 z.s) hr rfl)))
  have HSM := Lib.hid (fun (wx : World) (h : Hp w (sgbox g2 (AS, cS) s :: dbox g1 (q : Int) AD nd cd AM mm cm :: obox g5 nm AO n c :: obox g6 nm A4 (n + 1) c4 :: sgv AO n c vs L :: sgv A4 (n + 1) c4 (vs ++ [(AS, cS)]) (L ++ [s]) :: sgbox gz (AS, cS) s :: pool) wx) => (show SgnIn wx A4 (L ++ [s]) from sg_in (i := 5) (d := 0) (n := n + 1) (c := c4) h rfl (by rw [List.length_append, List.length_append, HVS.out]; rfl) (fun j u z hu hz => by
    rcases get_snoc hu with ⟨h1, h2⟩ | ⟨h1, h2⟩ <;> rcases get_snoc hz with ⟨h3, h4⟩ | ⟨h3, h4⟩
    · obtain ⟨r, hr⟩ := HPO.out j u z h2 h4
      exact h.cells (i := r + 7) (it := snds u.1 z.s.length u.2 z.s) hr rfl
    · have := HVS.out; omega
    · have := HVS.out; omega
    · subst h2; subst h4; exact HS.out.below h.below)))
  have hcap : n ≤ c := (hV.cap (i := 4) (it := sgv AO n c vs L) rfl (A := AO) (c := c) rfl).1
  have hcap2 : n + 1 ≤ c4 := (hV.cap (i := 5) (it := sgv A4 (n + 1) c4 (vs ++ [(AS, cS)]) (L ++ [s])) rfl (A := A4) (c := c4) rfl).1
  obtain ⟨o0, o1, o2⟩ := V7.out.obox_at (i := 2) rfl
  clear hV V6
  go_upto_region 6 with fail
  go_loopw [41] (fun i wr => ∃ k : Nat, k ≤ n ∧ i = .int .i64 (k : Int) ∧ Hp w (sgbox g2 (AS, cS) s :: dbox g1 (q : Int) AD nd cd AM mm cm :: obox g5 nm AO n c :: obox g6 nm A4 (n + 1) c4 :: sgv AO n c vs L :: sgv A4 (n + 1) c4 (vs ++ [(AS, cS)]) (L ++ [s]) :: sgbox gz (AS, cS) s :: pool) wr) (fun i _ => n - (intOf i).toNat)
  case atStart => exact ⟨0, Nat.zero_le _, rfl, V7.out⟩
  case round =>
    obtain ⟨k, hk, rfl, hV⟩ := hrel
    obtain ⟨wi, rfl⟩ : ∃ wi : World, wi = wr := ⟨_, rfl⟩
    have V8 := Lib.hid hV
    clear hV V7 o0 o1 o2
    by_cases hlt : k < n
    · obtain ⟨x, hx⟩ := get_at (L := L) (k := k) (by have := HL.out; omega)
      obtain ⟨b, off, Aj, cj, hAe, hb, c0, c1, c2, c3, c4'⟩ := (HSO.out _ V8.out).at hx
      have HX := Lib.hid hx
      have HAE := Lib.hid hAe
      have hk4 : k * 4 ≤ 480 := by omega
      subst hAe
      obtain ⟨g8, hg8⟩ : ∃ z, z = wi.heap.size := ⟨_, rfl⟩
      obtain ⟨W9, hW9⟩ : ∃ z, z = wi.alloc (.cells #[.string (bs x.t), .slice Aj x.s.length cj, .int .i64 x.c, .int .i64 x.w] 34) := ⟨_, rfl⟩
      have V9 := Lib.hid (show Hp w (sgbox g8 (Aj, cj) x :: (sgbox g2 (AS, cS) s :: dbox g1 (q : Int) AD nd cd AM mm cm :: obox g5 nm (some ⟨b, off, none⟩) n c :: obox g6 nm A4 (n + 1) c4 :: sgv (some ⟨b, off, none⟩) n c vs L :: sgv A4 (n + 1) c4 (vs ++ [(AS, cS)]) (L ++ [s]) :: sgbox gz (AS, cS) s :: pool)) W9 by rw [hW9, hg8]; exact V8.out.sgbox_new Aj cj x)
      have HW9 := Lib.hid hW9
      have HG8 := Lib.hid hg8
      clear hx hW9 hg8 c4'
      go_upto_region 8 with fail
      rw [← HG8.out, ← HW9.out]
      clear c0 c1 c2 c3 hb
      have hKp : Keep [(⟨g5, 0, none⟩, .string (bs nm)), (⟨g5, 1, none⟩, .slice (some ⟨b, off, none⟩) n c), (⟨g8, 0, none⟩, .string (bs x.t)), (⟨g6, 0, none⟩, .string (bs nm)), (⟨g6, 1, none⟩, .slice A4 (n + 1) c4)] W9 := List.forall_mem_cons.2 ⟨⟨(V9.out.box_at (i := 3) (j := 0) rfl rfl).1, (V9.out.box_at (i := 3) (j := 0) rfl rfl).2.2⟩, List.forall_mem_cons.2 ⟨⟨(V9.out.box_at (i := 3) (j := 1) rfl rfl).1, (V9.out.box_at (i := 3) (j := 1) rfl rfl).2.2⟩, List.forall_mem_cons.2 ⟨⟨(V9.out.box_at (i := 0) (j := 0) rfl rfl).1, (V9.out.box_at (i := 0) (j := 0) rfl rfl).2.2⟩, List.forall_mem_cons.2 ⟨⟨(V9.out.box_at (i := 4) (j := 0) rfl rfl).1, (V9.out.box_at (i := 4) (j := 0) rfl rfl).2.2⟩, List.forall_mem_cons.2 ⟨⟨(V9.out.box_at (i := 4) (j := 1) rfl rfl).1, (V9.out.box_at (i := 4) (j := 1) rfl rfl).2.2⟩, fun _ h => by simp at h⟩⟩⟩⟩⟩
      refine wp_region_held_drew (S := Keep _) (by kernel_rfl) hKp.drew (fun hHeld => ?_)
      obtain ⟨wf, hwf⟩ : ∃ z, z = W9.drew := ⟨_, rfl⟩
      have Vwf := Lib.hid (show Hp w (sgbox g8 (Aj, cj) x :: sgbox g2 (AS, cS) s :: dbox g1 (q : Int) AD nd cd AM mm cm :: obox g5 nm (some ⟨b, off, none⟩) n c :: obox g6 nm A4 (n + 1) c4 :: sgv (some ⟨b, off, none⟩) n c vs L :: sgv A4 (n + 1) c4 (vs ++ [(AS, cS)]) (L ++ [s]) :: sgbox gz (AS, cS) s :: pool) wf by rw [hwf]; exact V9.out.go (bdrew _))
      have Bwf := Lib.hid (show Below W9.heap.size W9 wf by rw [hwf]; exact bdrew _)
      rw [← hwf] at hHeld ⊢
      clear hwf hKp
      refine tk 0 ?_ rfl ?_ ?_; rotate_left
      · intro wl hSw
        have hSw : Keep _ wl := hSw
        have k0 := (hSw _ (.head _)).1
        have k1 := (hSw _ (.tail _ (.head _))).1
        dsimp only at k0 k1
        clear hSw
        go_simp
        try (with_reducible rfl)
      try simp only [Act.put, sA, sZ, sS]
      refine tk 1 ?_ rfl ?_ ?_; rotate_left; focus (intro w hSw; clear hSw; go_simp; try (with_reducible rfl))
      try simp only [Act.put, sA, sZ, sS]
      refine tk 2 ?_ rfl ?_ ?_; rotate_left
      · intro wl hSw
        have hSw : Keep _ wl := hSw
        have k0 := (hSw _ (.tail _ (.tail _ (.head _)))).1
        dsimp only at k0
        clear hSw
        go_simp
        try (with_reducible rfl)
      try simp only [Act.put, sA, sZ, sS]
      refine tk 4 ?_ rfl ?_ ?_; rotate_left
      · intro wl hSw
        have hSw : Keep _ wl := hSw
        have k0 := (hSw _ (.tail _ (.tail _ (.tail _ (.head _))))).1
        have k1 := (hSw _ (.tail _ (.tail _ (.tail _ (.tail _ (.head _)))))).1
        dsimp only at k0 k1
        clear hSw
        go_simp
        try (with_reducible rfl)
      try simp only [Act.put, sA, sZ, sS]
      refine tk 5 ?_ rfl ?_ ?_; rotate_left; focus (intro w hSw; clear hSw; go_simp; try (with_reducible rfl))
      try simp only [Act.put, sA, sZ, sS]
      refine tk 6 ?_ rfl ?_ ?_; rotate_left
      · intro wl hSw
        have hSw : Keep _ wl := hSw
        have k0 := (hSw _ (.tail _ (.tail _ (.head _)))).1
        dsimp only at k0
        clear hSw
        go_simp
        try (with_reducible rfl)
      try simp only [Act.put, sA, sZ, sS]
      refine wpAnyH_ready (rs := [3]) (by kernel_rfl) (by simp) ?_
      refine AllReadyH.cons (List.getElem?_toArray.trans rfl) (fun K hK => ?_) AllReadyH.nil
      go_simp
      refine (find_any nm L x.t (some ⟨b, off, none⟩) n c _ HL.out (by omega) (HSO.out _ (Hp.tail Vwf.out))).mono ?_
      rintro e w_3 ⟨C1, mC1, dC1, rfl, hm, hp⟩
      have HMC1 := Lib.hid hm
      have V_3 := Lib.hid (show Hp w (nums C1 mC1 dC1 (fndI x.t L) :: sgbox g8 (Aj, cj) x :: sgbox g2 (AS, cS) s :: dbox g1 (q : Int) AD nd cd AM mm cm :: obox g5 nm (some ⟨b, off, none⟩) n c :: obox g6 nm A4 (n + 1) c4 :: sgv (some ⟨b, off, none⟩) n c vs L :: sgv A4 (n + 1) c4 (vs ++ [(AS, cS)]) (L ++ [s]) :: sgbox gz (AS, cS) s :: pool) w_3 from Vwf.out.join hp)
      have B_3 := Lib.hid hp.below
      clear hp hm
      try go_wp2_with fail
      refine hK.out _ _ (hHeld.go B_3.out) (fun hHeld => ?_)
      clear hK K
      try simp only [Act.put, sA, sZ, sS]
      refine wpAnyH_ready (rs := [7]) (by kernel_rfl) (by simp) ?_
      refine AllReadyH.cons (List.getElem?_toArray.trans rfl) (fun K hK => ?_) AllReadyH.nil
      go_simp
      refine (find_any nm (L ++ [s]) x.t A4 (n + 1) c4 _ HLM.out (by omega) (HSM.out _ (Hp.tail (Hp.tail V_3.out)))).mono ?_
      rintro e w_3_7 ⟨C2, mC2, dC2, rfl, hm, hp⟩
      have HMC2 := Lib.hid hm
      have V_3_7 := Lib.hid (show Hp w (nums C2 mC2 dC2 (fndI x.t (L ++ [s])) :: nums C1 mC1 dC1 (fndI x.t L) :: sgbox g8 (Aj, cj) x :: sgbox g2 (AS, cS) s :: dbox g1 (q : Int) AD nd cd AM mm cm :: obox g5 nm (some ⟨b, off, none⟩) n c :: obox g6 nm A4 (n + 1) c4 :: sgv (some ⟨b, off, none⟩) n c vs L :: sgv A4 (n + 1) c4 (vs ++ [(AS, cS)]) (L ++ [s]) :: sgbox gz (AS, cS) s :: pool) w_3_7 from V_3.out.join hp)
      have B_3_7 := Lib.hid hp.below
      clear hp hm
      try go_wp2_with fail
      refine hK.out _ _ (hHeld.go B_3_7.out) (fun hHeld => ?_)
      clear hK K
      try simp only [Act.put, sA, sZ, sS]
      refine tk 8 ?_ rfl ?_ ?_; rotate_left; focus (intro w hSw; clear hSw; go_simp; try (with_reducible rfl))
      try simp only [Act.put, sA, sZ, sS]
      refine tk 9 ?_ rfl ?_ ?_; rotate_left; focus (intro w hSw; clear hSw; go_simp; try (with_reducible rfl))
      try simp only [Act.put, sA, sZ, sS]
      refine wpAnyH_done (by kernel_rfl) ?_ _
      clear hHeld
      obtain ⟨y0, y1, y2, y3, y4⟩ := V_3_7.out.sgbox_at (i := 2) rfl
      obtain ⟨z0, z1, z2, z3, z4⟩ := V_3_7.out.sgbox_at (i := 3) rfl
      dsimp only at y1 z1
      cases hnu : (x.t == s.t) with
      | true =>
        have e1 : ((bs x.t).toList == (bs s.t).toList) = true := by rw [toL, toL]; exact hnu
        have hxs : s.t = x.t := (beq_iff_eq.1 hnu).symm
        have HS2 := Lib.hid (show fndI x.t (L ++ [s]) = fndI x.t L ++ [(n : Int)] by
          rw [fndI_snoc, hxs, if_pos (by simp), HL.out])
        obtain ⟨o0, o1, o2⟩ := V_3_7.out.obox_at (i := 5) rfl
        have hmC : mC1 ≤ 120 := by rw [HMC1.out]; have := fndI_le x.t L; have := HL.out; omega
        clear hnu hxs
        obtain ⟨wy, hwy⟩ : ∃ z, z = w_3_7.alloc (.cells #[.int .i64 (n : Int)] 3) := ⟨_, rfl⟩
        have V3 := Lib.hid (show Hp w (box 3 w_3_7.heap.size [.int .i64 (n : Int)] :: (nums C2 mC2 dC2 (fndI x.t (L ++ [s])) :: nums C1 mC1 dC1 (fndI x.t L) :: sgbox g8 (Aj, cj) x :: sgbox g2 (AS, cS) s :: dbox g1 (q : Int) AD nd cd AM mm cm :: obox g5 nm (some ⟨b, off, none⟩) n c :: obox g6 nm A4 (n + 1) c4 :: sgv (some ⟨b, off, none⟩) n c vs L :: sgv A4 (n + 1) c4 (vs ++ [(AS, cS)]) (L ++ [s]) :: sgbox gz (AS, cS) s :: pool)) wy by rw [hwy]; exact V_3_7.out.box_new _ _)
        have q0 := (V3.out.box_at (i := 0) (j := 0) rfl rfl).1
        obtain ⟨g9, cap9, w9, hr9, hv9, _⟩ := run_app_num V3.out (i := 2) rfl 47 (n : Int) q0 (by omega)
        have V10 := Lib.hid (show Hp w (box 3 w_3_7.heap.size [.int .i64 (n : Int)] :: (nums C2 mC2 dC2 (fndI x.t (L ++ [s])) :: nums (some ⟨g9, 0, none⟩) (mC1 + 1) cap9 (fndI x.t L ++ [(n : Int)]) :: sgbox g8 (Aj, cj) x :: sgbox g2 (AS, cS) s :: dbox g1 (q : Int) AD nd cd AM mm cm :: obox g5 nm (some ⟨b, off, none⟩) n c :: obox g6 nm A4 (n + 1) c4 :: sgv (some ⟨b, off, none⟩) n c vs L :: sgv A4 (n + 1) c4 (vs ++ [(AS, cS)]) (L ++ [s]) :: sgbox gz (AS, cS) s :: pool)) w9 from hv9)
        have HY := Lib.hid hwy
        have HR9 := Lib.hid hr9
        clear hwy q0 hv9 hr9
        go_wp2_with (at_builtin; rw [← HY.out]; refine wpList_app_run rfl (.tmp 58) (.tmp 62) 47 rfl HR9.out rfl rfl ?_)
        refine (equal_nums (some ⟨g9, 0, none⟩) C2 (mC1 + 1) cap9 mC2 dC2 (fndI x.t L ++ [(n : Int)]) (fndI x.t (L ++ [s])) _ (by rw [List.length_append, ← HMC1.out]; rfl) HMC2.out.symm (by omega) (by rw [HMC2.out]; have := fndI_le x.t (L ++ [s]); have := HLM.out; omega) (V10.out.cells (i := 2) (it := nums (some ⟨g9, 0, none⟩) (mC1 + 1) cap9 (fndI x.t L ++ [(n : Int)])) rfl rfl) (V10.out.cells (i := 1) (it := nums C2 mC2 dC2 (fndI x.t (L ++ [s]))) rfl rfl)).mono ?_
        rintro e w11 ⟨rfl, hb⟩
        rw [decide_eq_true HS2.out.symm]
        have V11 := Lib.hid (V10.out.go hb)
        clear hb
        go_wp2_with fail
        go_roundw
        case rel => exact ⟨k + 1, by omega, by go_num, Hp.tail (Hp.tail (Hp.tail (Hp.tail V11.out)))⟩
        case measure => simp [intOf]; omega
      | false =>
        have e1 : ((bs x.t).toList == (bs s.t).toList) = false := by rw [toL, toL]; exact hnu
        have HS2 := Lib.hid (show fndI x.t (L ++ [s]) = fndI x.t L by
          rw [fndI_snoc, if_neg (by intro h; rw [beq_iff_eq] at h; rw [h] at hnu; simp at hnu), List.append_nil])
        clear hnu
        go_wp2_with fail
        refine (equal_nums C1 C2 mC1 dC1 mC2 dC2 (fndI x.t L) (fndI x.t (L ++ [s])) _ HMC1.out.symm HMC2.out.symm (by rw [HMC1.out]; have := fndI_le x.t L; have := HL.out; omega) (by rw [HMC2.out]; have := fndI_le x.t (L ++ [s]); have := HLM.out; omega) (V_3_7.out.cells (i := 1) (it := nums C1 mC1 dC1 (fndI x.t L)) rfl rfl) (V_3_7.out.cells (i := 0) (it := nums C2 mC2 dC2 (fndI x.t (L ++ [s]))) rfl rfl)).mono ?_
        rintro e w11 ⟨rfl, hb⟩
        rw [decide_eq_true HS2.out.symm]
        have V11 := Lib.hid (V_3_7.out.go hb)
        clear hb
        go_wp2_with fail
        go_roundw
        case rel => exact ⟨k + 1, by omega, by go_num, Hp.tail (Hp.tail (Hp.tail V11.out))⟩
        case measure => simp [intOf]; omega
    · obtain ⟨o0, o1, o2⟩ := V8.out.obox_at (i := 3) rfl
      obtain ⟨z0, z1, z2, z3, z4⟩ := V8.out.sgbox_at (i := 0) rfl
      dsimp only at z1
      go_wp2_with fail
      refine (find_any nm (L ++ [s]) s.t A4 (n + 1) c4 _ HLM.out (by omega) (HSM.out _ V8.out)).mono ?_
      rintro e w10 ⟨C, m, d, rfl, hm2, hp⟩
      have hF : fndI s.t (L ++ [s]) = fndI s.t L ++ [(n : Int)] := by rw [fndI_snoc, if_pos (by simp), HL.out]
      obtain ⟨f, hf⟩ : ∃ f, f = (fndI s.t L).length := ⟨_, rfl⟩
      have hf2 : f ≤ 120 := by rw [hf]; have := fndI_le s.t L; have := HL.out; omega
      obtain rfl : m = f + 1 := by rw [hm2, hF, List.length_append, hf]; rfl
      have V10 := Lib.hid (show Hp w (nums C (f + 1) d (fndI s.t (L ++ [s])) :: (sgbox g2 (AS, cS) s :: dbox g1 (q : Int) AD nd cd AM mm cm :: obox g5 nm AO n c :: obox g6 nm A4 (n + 1) c4 :: sgv AO n c vs L :: sgv A4 (n + 1) c4 (vs ++ [(AS, cS)]) (L ++ [s]) :: sgbox gz (AS, cS) s :: pool)) w10 from V8.out.join hp)
      obtain ⟨gc, hC⟩ := V10.out.head (i := 0) (it := nums C (f + 1) d (fndI s.t (L ++ [s]))) rfl (A := C) (c := d) rfl (Nat.succ_pos f)
      subst hC
      have hx : (ints (fndI s.t (L ++ [s])))[f]? = some (.int .i64 (n : Int)) := by rw [hF, hf]; simp [ints]
      have KC := Lib.hid (fun (wx : World) (h : Hp w (nums (some ⟨gc, 0, none⟩) (f + 1) d (fndI s.t (L ++ [s])) :: (sgbox g2 (AS, cS) s :: dbox g1 (q : Int) AD nd cd AM mm cm :: obox g5 nm AO n c :: obox g6 nm A4 (n + 1) c4 :: sgv AO n c vs L :: sgv A4 (n + 1) c4 (vs ++ [(AS, cS)]) (L ++ [s]) :: sgbox gz (AS, cS) s :: pool)) wx) => h.cell (i := 0) (it := nums (some ⟨gc, 0, none⟩) (f + 1) d (fndI s.t (L ++ [s]))) rfl (g := gc) (cap := d) rfl hx)
      obtain ⟨ev, hev⟩ : ∃ ev, ev = (vO nm (L ++ [s])).2 := ⟨_, rfl⟩
      have HEV := Lib.hid hev
      have hwf : IntKind.i64.wrap (f : Int) = (f : Int) := IntWalk.i64_in _ (by omega)
      clear hev hm2 hp hF hf hx o0 o1 o2 z0 z1 z2 z3 z4
      go_upto_region 15 with fail
      have hKp : Keep [(⟨gc, f, none⟩, .int .i64 (n : Int)), (⟨g5, 0, none⟩, .string (bs nm)), (⟨g5, 1, none⟩, .slice AO n c), (⟨g6, 0, none⟩, .string (bs nm)), (⟨g6, 1, none⟩, .slice A4 (n + 1) c4)] w10 := List.forall_mem_cons.2 ⟨⟨(KC.out _ V10.out).1, (KC.out _ V10.out).2.2⟩, List.forall_mem_cons.2 ⟨⟨(V10.out.box_at (i := 3) (j := 0) rfl rfl).1, (V10.out.box_at (i := 3) (j := 0) rfl rfl).2.2⟩, List.forall_mem_cons.2 ⟨⟨(V10.out.box_at (i := 3) (j := 1) rfl rfl).1, (V10.out.box_at (i := 3) (j := 1) rfl rfl).2.2⟩, List.forall_mem_cons.2 ⟨⟨(V10.out.box_at (i := 4) (j := 0) rfl rfl).1, (V10.out.box_at (i := 4) (j := 0) rfl rfl).2.2⟩, List.forall_mem_cons.2 ⟨⟨(V10.out.box_at (i := 4) (j := 1) rfl rfl).1, (V10.out.box_at (i := 4) (j := 1) rfl rfl).2.2⟩, fun _ h => by simp at h⟩⟩⟩⟩⟩
      refine wp_region_held_drew (S := Keep _) (by kernel_rfl) hKp.drew (fun hHeld => ?_)
      obtain ⟨wf, hwf⟩ : ∃ z, z = w10.drew := ⟨_, rfl⟩
      have Vwf := Lib.hid (show Hp w (nums (some ⟨gc, 0, none⟩) (f + 1) d (fndI s.t (L ++ [s])) :: sgbox g2 (AS, cS) s :: dbox g1 (q : Int) AD nd cd AM mm cm :: obox g5 nm AO n c :: obox g6 nm A4 (n + 1) c4 :: sgv AO n c vs L :: sgv A4 (n + 1) c4 (vs ++ [(AS, cS)]) (L ++ [s]) :: sgbox gz (AS, cS) s :: pool) wf by rw [hwf]; exact V10.out.go (bdrew _))
      have Bwf := Lib.hid (show Below w10.heap.size w10 wf by rw [hwf]; exact bdrew _)
      rw [← hwf] at hHeld ⊢
      clear hwf hKp
      refine tk 0 ?_ rfl ?_ ?_; rotate_left; focus (intro w hSw; clear hSw; go_simp; try (with_reducible rfl))
      try simp only [Act.put, sA, sZ, sS]
      refine tk 1 ?_ rfl ?_ ?_; rotate_left; focus (intro w hSw; clear hSw; go_simp; try (with_reducible rfl))
      try simp only [Act.put, sA, sZ, sS]
      refine tk 2 ?_ rfl ?_ ?_; rotate_left; focus (intro w hSw; clear hSw; go_simp; try (with_reducible rfl))
      try simp only [Act.put, sA, sZ, sS]
      refine tk 3 ?_ rfl ?_ ?_; rotate_left; focus (intro w hSw; clear hSw; go_simp; try (with_reducible rfl))
      try simp only [Act.put, sA, sZ, sS]
      refine tk 4 ?_ rfl ?_ ?_; rotate_left; focus (intro w hSw; clear hSw; go_simp; try (with_reducible rfl))
      try simp only [Act.put, sA, sZ, sS]
      refine tk 5 ?_ rfl ?_ ?_; rotate_left; focus (intro w hSw; clear hSw; go_simp; try (with_reducible rfl))
      try simp only [Act.put, sA, sZ, sS]
      refine tk 6 ?_ rfl ?_ ?_; rotate_left; focus (intro w hSw; clear hSw; go_simp; try (with_reducible rfl))
      try simp only [Act.put, sA, sZ, sS]
      refine tk 7 ?_ rfl ?_ ?_; rotate_left; focus (intro w hSw; clear hSw; go_simp; try (with_reducible rfl))
      try simp only [Act.put, sA, sZ, sS]
      refine tk 8 ?_ rfl ?_ ?_; rotate_left
      · intro w hSw; clear hSw; go_simp; rw [if_pos (show (f : Int) < (f : Int) + 1 by omega)]
      try simp only [Act.put, sA, sZ, sS]
      refine tk 9 ?_ rfl ?_ ?_; rotate_left
      · intro wl hSw
        have hSw : Keep _ wl := hSw
        have k0 := (hSw _ (.head _)).1
        dsimp only at k0
        clear hSw
        go_simp
        try (with_reducible rfl)
      try simp only [Act.put, sA, sZ, sS]
      refine tk 10 ?_ rfl ?_ ?_; rotate_left; focus (intro w hSw; clear hSw; go_simp; try (with_reducible rfl))
      try simp only [Act.put, sA, sZ, sS]
      refine tk 11 ?_ rfl ?_ ?_; rotate_left
      · intro wl hSw
        have hSw : Keep _ wl := hSw
        have k0 := (hSw _ (.tail _ (.tail _ (.head _)))).1
        dsimp only at k0
        clear hSw
        go_simp
        try (with_reducible rfl)
      try simp only [Act.put, sA, sZ, sS]
      refine tk 12 ?_ rfl ?_ ?_; rotate_left; focus (intro w hSw; clear hSw; go_simp; try (with_reducible rfl))
      try simp only [Act.put, sA, sZ, sS]
      refine tk 13 ?_ rfl ?_ ?_; rotate_left; focus (intro w hSw; clear hSw; go_simp; try (with_reducible rfl))
      try simp only [Act.put, sA, sZ, sS]
      refine tk 14 ?_ rfl ?_ ?_; rotate_left; focus (intro w hSw; clear hSw; go_simp; try (with_reducible rfl))
      try simp only [Act.put, sA, sZ, sS]
      refine tk 15 ?_ rfl ?_ ?_; rotate_left; focus (intro w hSw; clear hSw; go_simp; try (with_reducible rfl))
      try simp only [Act.put, sA, sZ, sS]
      refine tk 16 ?_ rfl ?_ ?_; rotate_left
      · intro wl hSw
        have hSw : Keep _ wl := hSw
        have k0 := (hSw _ (.tail _ (.head _))).1
        have k1 := (hSw _ (.tail _ (.tail _ (.head _)))).1
        dsimp only at k0 k1
        clear hSw
        go_simp
        try (with_reducible rfl)
      try simp only [Act.put, sA, sZ, sS]
      refine wpAnyH_ready (rs := [17]) (by kernel_rfl) (by simp) ?_
      refine AllReadyH.cons (List.getElem?_toArray.trans rfl) (fun K hK => ?_) AllReadyH.nil
      go_simp
      refine (ovalid_any nm L AO n c _ (by omega) HL.out (by omega) hcap (SgBd.ok HV.out) (HSO.out _ (Hp.tail Vwf.out))).mono ?_
      rintro e w_17 ⟨rfl, hb⟩
      rw [HV.out]
      have V_17 := Lib.hid (Vwf.out.go hb)
      have B_17 := Lib.hid hb
      clear hb
      try go_wp2_with fail
      refine hK.out _ _ (hHeld.go B_17.out) (fun hHeld => ?_)
      clear hK K
      try simp only [Act.put, sA, sZ, sS]
      refine tk 18 ?_ rfl ?_ ?_; rotate_left; focus (intro w hSw; clear hSw; go_simp; try (with_reducible rfl))
      try simp only [Act.put, sA, sZ, sS]
      refine tk 19 ?_ rfl ?_ ?_; rotate_left; focus (intro w hSw; clear hSw; go_simp; try (with_reducible rfl))
      try simp only [Act.put, sA, sZ, sS]
      refine tk 20 ?_ rfl ?_ ?_; rotate_left; focus (intro w hSw; clear hSw; go_simp; try (with_reducible rfl))
      try simp only [Act.put, sA, sZ, sS]
      refine tk 21 ?_ rfl ?_ ?_; rotate_left
      · intro wl hSw
        have hSw : Keep _ wl := hSw
        have k0 := (hSw _ (.tail _ (.tail _ (.tail _ (.head _))))).1
        have k1 := (hSw _ (.tail _ (.tail _ (.tail _ (.tail _ (.head _)))))).1
        dsimp only at k0 k1
        clear hSw
        go_simp
        try (with_reducible rfl)
      try simp only [Act.put, sA, sZ, sS]
      refine tk 24 ?_ rfl ?_ ?_; rotate_left
      · intro wl hSw
        have hSw : Keep _ wl := hSw
        have k0 := (hSw _ (.tail _ (.tail _ (.tail _ (.head _))))).1
        have k1 := (hSw _ (.tail _ (.tail _ (.tail _ (.tail _ (.head _)))))).1
        dsimp only at k0 k1
        clear hSw
        go_simp
        try (with_reducible rfl)
      try simp only [Act.put, sA, sZ, sS]
      refine wpAnyH_ready (rs := [22]) (by kernel_rfl) (by simp) ?_
      refine AllReadyH.cons (List.getElem?_toArray.trans rfl) (fun K hK => ?_) AllReadyH.nil
      go_simp
      refine (ovalid_any nm (L ++ [s]) A4 (n + 1) c4 _ (by omega) HLM.out (by omega) hcap2 HBM.out (HSM.out _ (Hp.tail V_17.out))).mono ?_
      rintro e w_17_22 ⟨rfl, hb⟩
      rw [← HEV.out]
      have V_17_22 := Lib.hid (V_17.out.go hb)
      have B_17_22 := Lib.hid hb
      clear hb
      try go_wp2_with fail
      refine hK.out _ _ (hHeld.go B_17_22.out) (fun hHeld => ?_)
      clear hK K
      try simp only [Act.put, sA, sZ, sS]
      refine tk 23 ?_ rfl ?_ ?_; rotate_left; focus (intro w hSw; clear hSw; go_simp; try (with_reducible rfl))
      try simp only [Act.put, sA, sZ, sS]
      refine wpAnyH_ready (rs := [25]) (by kernel_rfl) (by simp) ?_
      refine AllReadyH.cons (List.getElem?_toArray.trans rfl) (fun K hK => ?_) AllReadyH.nil
      go_simp
      refine (rovalid_any nm (L ++ [s]) A4 (n + 1) c4 _ (by omega) HLM.out (by omega) HBM.out (HSM.out _ (Hp.tail V_17_22.out))).mono ?_
      rintro e w_17_22_25 ⟨rfl, hb⟩
      rw [← HEV.out]
      have V_17_22_25 := Lib.hid (V_17_22.out.go hb)
      have B_17_22_25 := Lib.hid hb
      clear hb
      try go_wp2_with fail
      refine hK.out _ _ (hHeld.go B_17_22_25.out) (fun hHeld => ?_)
      clear hK K
      try simp only [Act.put, sA, sZ, sS]
      refine tk 26 ?_ rfl ?_ ?_; rotate_left; focus (intro w hSw; clear hSw; go_simp; try (with_reducible rfl))
      try simp only [Act.put, sA, sZ, sS]
      refine tk 27 ?_ rfl ?_ ?_; rotate_left; focus (intro w hSw; clear hSw; go_simp; try (with_reducible rfl))
      try simp only [Act.put, sA, sZ, sS]
      refine tk 28 ?_ rfl ?_ ?_; rotate_left; focus (intro w hSw; clear hSw; go_simp; try (with_reducible rfl))
      try simp only [Act.put, sA, sZ, sS]
      refine tk 29 ?_ rfl ?_ ?_; rotate_left; focus (intro w hSw; clear hSw; go_simp; try (with_reducible rfl))
      try simp only [Act.put, sA, sZ, sS]
      refine wpAnyH_done (by kernel_rfl) ?_ _
      clear hHeld
      go_wp2_with fail
      go_ret
      exact ⟨rfl, V_17_22_25.out.below⟩
theorem lawmore_any (kd : Int) (AD : Option Addr) (nd cd : Nat) (D : List Int) (AM : Option Addr) (mm cm : Nat) (M : List Int) (s : Sg) (AS : Option Addr) (cS : Nat) (w : World) (hq : 0 ≤ kd ∧ kd ≤ 255) (hD : D.length = nd ∧ nd ≤ 1000000000000000) (hDz : ∀ z ∈ D, 0 ≤ z ∧ z ≤ 255) (hDc : CellsIn w AD (bytesC D)) (hMl : M.length = mm ∧ mm ≤ 1000000000000000) (hMz : ∀ z ∈ M, 0 ≤ z ∧ z ≤ 255) (hMc : CellsIn w AM (bytesC M))
    (hlim : SgLim s) (hS : CellsIn w AS (sndsC s.s)) (hm : MaxAt w) :
    Calls Tryz.prog 5 #[.agg #[.int .u8 kd, .slice AD nd cd, .slice AM mm cm], .agg #[.string (bs s.t), .slice AS s.s.length cS, .int .i64 s.c, .int .i64 s.w]] w fun e w' => e = .returned (.bool true) ∧ Below w.heap.size w w' := by
  obtain ⟨q, rfl⟩ := Int.eq_ofNat_of_zero_le hq.1
  exact lawmore_nat q AD nd cd D AM mm cm M s AS cS w (by omega) hD.1 hDz hDc hMl.1 hMz hMc hlim hS hm
end Go.Proofs.YtfgnekbkcmpdiaaGreatDoor
