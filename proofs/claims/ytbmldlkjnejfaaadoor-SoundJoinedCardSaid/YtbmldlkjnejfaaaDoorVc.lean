/- What the statement SoundJoined answers: true, whatever the input. -/
import Derived.Test.YtbmldlkjnejfaaaDoorVb
namespace Go.Proofs.YtbmldlkjnejfaaaDoor
open Go.RowKit
set_option linter.unusedVariables false
set_option linter.unusedSimpArgs false
set_option maxRecDepth 100000

/-- Rows between rows. -/
theorem CluIn.mid {w : World} {A B K E : Option Addr} {vs us : List (Option Addr × Nat)} {R Q : List (List Snd)} {row : List Snd} {f p : Nat} (hX : CluIn w A vs R) (hY : CluIn w B us Q) (hp : p ≤ vs.length) (hrow : row.length ≤ f ∧ CellsIn w E (sndsC row)) (hv : CellsIn w K (List.zipWith slV (vs.take p ++ (E, f) :: us.drop 1) (R.take p ++ row :: Q.drop 1))) : CluIn w K (vs.take p ++ (E, f) :: us.drop 1) (R.take p ++ row :: Q.drop 1) := by
  have h1 := hX.len
  have h2 := hY.len
  have l1 : (vs.take p).length = p := by rw [List.length_take]; omega
  have l2 : (R.take p).length = p := by rw [List.length_take]; omega
  refine ⟨by simp [l1, l2, h2], hv, fun j v r hj hr => ?_⟩
  rcases Nat.lt_trichotomy j p with h | h | h
  · rw [List.getElem?_append_left (by omega), List.getElem?_take_of_lt h] at hj hr
    exact hX.row j v r hj hr
  · subst h
    rw [List.getElem?_append_right (by omega), l1, Nat.sub_self] at hj
    rw [List.getElem?_append_right (by omega), l2, Nat.sub_self] at hr
    injection hj with hj; injection hr with hr
    subst hj; subst hr
    exact hrow
  · obtain ⟨d, hd⟩ : ∃ d, j - p = d + 1 := ⟨j - p - 1, by omega⟩
    rw [List.getElem?_append_right (by omega), l1, hd, List.getElem?_cons_succ, List.getElem?_drop] at hj
    rw [List.getElem?_append_right (by omega), l2, hd, List.getElem?_cons_succ, List.getElem?_drop] at hr
    exact hY.row _ v r hj hr
theorem nuc_cat (L M : List Snd) : (nucI (L ++ M)).length = (nucI L).length + (nucI M).length := by rw [nucI_len, nucI_len, nucI_len, List.countP_append]
set_option maxHeartbeats 16000000 in
theorem lawjoined_any (Bs : List Int) (n c : Nat) (A : Option Addr) (Bt : List Int) (m c2 : Nat) (A2 : Option Addr) (w : World) (hl : Bs.length = n) (hn : n ≤ 1000000000000000) (hz : ∀ z ∈ Bs, 0 ≤ z ∧ z ≤ 255) (hA : CellsIn w A (bytesC Bs)) (hl2 : Bt.length = m) (hn2 : m ≤ 1000000000000000) (hz2 : ∀ z ∈ Bt, 0 ≤ z ∧ z ≤ 255) (hA2 : CellsIn w A2 (bytesC Bt)) (hm : MaxAt w) :
    Calls Tryd.prog 8 #[.slice A n c, .slice A2 m c2] w fun e w' => e = .returned (.bool true) ∧ Below w.heap.size w w' := by
  have HM := Lib.hid hm
  have HN := Lib.hid hl
  have HA := Lib.hid hA
  have HZ := Lib.hid hz
  have HN2 := Lib.hid hl2
  have HA2 := Lib.hid hA2
  have HZ2 := Lib.hid hz2
  clear hm hl hA hz hl2 hA2 hz2
  by_cases hbig : 100 < n
  · go_enter Tryd.func8, Tryd.ntmps8
    go_wp2_with fail
    refine (awake_any _ HM.out).mono ?_
    rintro e w1 ⟨rfl, hb1⟩
    have B1 := Lib.hid hb1
    clear hb1
    go_wp2_with fail
    refine (awake_any _ (HM.out.below B1.out)).mono ?_
    rintro e w3 ⟨rfl, hb3⟩
    go_wp2_with fail
    go_ret
    exact ⟨rfl, btwo B1.out hb3⟩
  · by_cases hbig2 : 100 < m
    · go_enter Tryd.func8, Tryd.ntmps8
      go_wp2_with fail
      refine (awake_any _ HM.out).mono ?_
      rintro e w1 ⟨rfl, hb1⟩
      have B1 := Lib.hid hb1
      clear hb1
      go_wp2_with fail
      refine (awake_any _ (HM.out.below B1.out)).mono ?_
      rintro e w3 ⟨rfl, hb3⟩
      go_wp2_with fail
      go_ret
      exact ⟨rfl, btwo B1.out hb3⟩
    · obtain ⟨L, hL⟩ : ∃ L, L = allS Bs := ⟨_, rfl⟩
      obtain ⟨M, hM⟩ : ∃ M, M = allS Bt := ⟨_, rfl⟩
      have HL := Lib.hid hL
      have HM2 := Lib.hid hM
      have hok : ∀ x ∈ L, vS x = 0 := by rw [hL]; exact all_ok Bs
      have hok2 : ∀ x ∈ M, vS x = 0 := by rw [hM]; exact all_ok Bt
      have HOK := Lib.hid hok
      have HOK2 := Lib.hid hok2
      have hln : L.length = n := by rw [hL, all_len]; exact HN.out
      have hmn : M.length = m := by rw [hM, all_len]; exact HN2.out
      have HLN := Lib.hid hln
      have HMN := Lib.hid hmn
      have HBN := Lib.hid (show (L ++ M).length = n + m by rw [List.length_append, hln, hmn])
      obtain ⟨bl, hbl⟩ : ∃ bl, btL L = bl := ⟨_, rfl⟩
      obtain ⟨bm, hbm⟩ : ∃ bm, btL M = bm := ⟨_, rfl⟩
      have hblb : bl ≤ 200 := by rw [← hbl]; have := btL_le L; omega
      have hbmb : bm ≤ 200 := by rw [← hbm]; have := btL_le M; omega
      have HBL := Lib.hid hbl
      have HBM := Lib.hid hbm
      have HBB := Lib.hid (show btL (L ++ M) = bl + bm by rw [btL_cat, hbl, hbm])
      obtain ⟨nl, hnl⟩ : ∃ nl, (nucI L).length = nl := ⟨_, rfl⟩
      obtain ⟨nm, hnm⟩ : ∃ nm, (nucI M).length = nm := ⟨_, rfl⟩
      have hnlb : nl ≤ 100 := by rw [← hnl]; exact nuc_bd (by omega)
      have hnmb : nm ≤ 100 := by rw [← hnm]; exact nuc_bd (by omega)
      have HNL := Lib.hid hnl
      have HNM := Lib.hid hnm
      have HNB := Lib.hid (show (nucI (L ++ M)).length = nl + nm by rw [nuc_cat, hnl, hnm])
      have HXL := Lib.hid (show (cluL L).length = nl + 1 by rw [cluL_len, hnl])
      have HYL := Lib.hid (show (cluL M).length = nm + 1 by rw [cluL_len, hnm])
      have HZL := Lib.hid (show (cluL (L ++ M)).length = nl + nm + 1 by rw [cluL_len, nuc_cat, hnl, hnm])
      have HXR := Lib.hid (show ∀ r ∈ cluL L, r.length ≤ 100 from clu_row (by omega))
      have HYR := Lib.hid (show ∀ r ∈ cluL M, r.length ≤ 100 from clu_row (by omega))
      have HZR := Lib.hid (show ∀ r ∈ cluL (L ++ M), r.length ≤ 1000000 from clu_row (by rw [List.length_append]; omega))
      have e1 : (((bl : Int) + (bm : Int)) != ((bl : Int) + (bm : Int))) = false := by simp
      have e2 : (((nl : Int) + (nm : Int)) != ((nl : Int) + (nm : Int))) = false := by simp
      have hall : ∀ x ∈ L ++ M, vS x = 0 := fun x hx => (List.mem_append.1 hx).elim (hok x) (hok2 x)
      have HSL := Lib.hid (show ∀ x ∈ L, x.t.length ≤ 140737488355328 from fun x hx => by have := (vS_zero (hok x hx)).2.2.2.1; omega)
      have HSM := Lib.hid (show ∀ x ∈ M, x.t.length ≤ 140737488355328 from fun x hx => by have := (vS_zero (hok2 x hx)).2.2.2.1; omega)
      have HSB := Lib.hid (show ∀ x ∈ L ++ M, x.t.length ≤ 140737488355328 from fun x hx => by have := (vS_zero (hall x hx)).2.2.2.1; omega)
      obtain ⟨s, hs⟩ : ∃ s, s = txL L := ⟨_, rfl⟩
      obtain ⟨t, ht⟩ : ∃ t, t = txL M := ⟨_, rfl⟩
      obtain ⟨z, hz⟩ : ∃ z, z = txL (L ++ M) := ⟨_, rfl⟩
      have HFL := Lib.hid (show fmtV L = (s, 0) by rw [hs]; exact fmt_ok (by omega) hok)
      have HFM := Lib.hid (show fmtV M = (t, 0) by rw [ht]; exact fmt_ok (by omega) hok2)
      have HFB := Lib.hid (show fmtV (L ++ M) = (z, 0) by rw [hz]; exact fmt_ok (by rw [List.length_append]; omega) hall)
      have hsl : s.length ≤ 1200 := by rw [hs]; have := txL_len hok; omega
      have htl : t.length ≤ 1200 := by rw [ht]; have := txL_len hok2; omega
      have HZT := Lib.hid (show z = if 0 < n ∧ 0 < m then s ++ 32 :: t else s ++ t by rw [hz, joined_txt, hln, hmn, hs, ht])
      clear hall hs ht hz
      clear hL hM hok hok2 hln hmn hbl hbm hnl hnm
      go_enter Tryd.func8, Tryd.ntmps8
      go_wp2_with fail
      refine (awake_any _ HM.out).mono ?_
      rintro e w1 ⟨rfl, hb1⟩
      have B1 := Lib.hid hb1
      clear hb1
      go_wp2_with fail
      refine (all_any Bs n c A _ HN.out (by omega) HZ.out (HA.out.below B1.out)).mono ?_
      rintro e w2 ⟨KL, dL, rfl, hp2⟩
      rw [← HL.out] at hp2
      have B2 := Lib.hid (btwo B1.out hp2.below)
      have CL0 := Lib.hid (hp2.cells (i := 0) (A := KL) (c := dL) rfl rfl)
      clear hp2
      go_wp2_with fail
      refine (all_any Bt m c2 A2 _ HN2.out (by omega) HZ2.out (HA2.out.below B2.out)).mono ?_
      rintro e w3 ⟨KM, dM, rfl, hp3⟩
      rw [← HM2.out] at hp3
      have B3 := Lib.hid (btwo B2.out hp3.below)
      have CL := Lib.hid (CL0.out.below hp3.below)
      have CM := Lib.hid (hp3.cells (i := 0) (A := KM) (c := dM) rfl rfl)
      clear hp3
      obtain ⟨g4, hg4⟩ : ∃ g, g = w3.heap.size := ⟨_, rfl⟩
      obtain ⟨w4, hw4⟩ : ∃ z, z = w3.alloc (.cells #[.slice KL n dL, .slice KM m dM] 26) := ⟨_, rfl⟩
      have HG4 := Lib.hid hg4
      have HW4 := Lib.hid hw4
      have B4 := Lib.hid (show Below w.heap.size w w4 by rw [hw4]; exact btwo B3.out (bnew _ _))
      have b34 : Below w3.heap.size w3 w4 := by rw [hw4]; exact bnew _ _
      have CL4 := Lib.hid (CL.out.below b34)
      have CM4 := Lib.hid (CM.out.below b34)
      clear hg4 hw4 b34
      go_wp2_with fail
      rw [← HW4.out, ← HG4.out]
      refine (concat2_any L M n m dL dM KL KM w3 HLN.out HMN.out (by omega) CL.out CM.out g4 w4 HG4.out HW4.out).mono ?_
      rintro e w5 ⟨KB, dB, rfl, hp5⟩
      have B5 := Lib.hid (btwo B4.out hp5.below)
      have CL5 := Lib.hid (CL4.out.below hp5.below)
      have CM5 := Lib.hid (CM4.out.below hp5.below)
      have CB5 := Lib.hid (hp5.cells (i := 0) (A := KB) (c := dB) rfl rfl)
      clear hp5
      go_wp2_with fail
      refine (beats_any (L ++ M) (n + m) dB KB _ HBN.out (by omega) CB5.out).mono ?_
      rintro e w6 ⟨rfl, hb6⟩
      rw [HBB.out]
      have B6 := Lib.hid (btwo B5.out hb6)
      have CL6 := Lib.hid (CL5.out.below hb6)
      have CM6 := Lib.hid (CM5.out.below hb6)
      have CB6 := Lib.hid (CB5.out.below hb6)
      clear hb6
      go_wp2_with fail
      refine (beats_any L n dL KL _ HLN.out (by omega) CL6.out).mono ?_
      rintro e w7 ⟨rfl, hb7⟩
      rw [HBL.out]
      have B7 := Lib.hid (btwo B6.out hb7)
      have CL7 := Lib.hid (CL6.out.below hb7)
      have CM7 := Lib.hid (CM6.out.below hb7)
      have CB7 := Lib.hid (CB6.out.below hb7)
      clear hb7
      go_wp2_with fail
      refine (beats_any M m dM KM _ HMN.out (by omega) CM7.out).mono ?_
      rintro e w8 ⟨rfl, hb8⟩
      rw [HBM.out]
      have B8 := Lib.hid (btwo B7.out hb8)
      have CL8 := Lib.hid (CL7.out.below hb8)
      have CM8 := Lib.hid (CM7.out.below hb8)
      have CB8 := Lib.hid (CB7.out.below hb8)
      clear hb8
      go_wp2_with fail
      refine (nuclei_any (L ++ M) (n + m) dB KB _ HBN.out (by omega) CB8.out).mono ?_
      rintro e w9 ⟨K9, n9, d9, rfl, hn9, hp9⟩
      obtain rfl : n9 = nl + nm := by rw [hn9, HNB.out]
      have B9 := Lib.hid (btwo B8.out hp9.below)
      have CL9 := Lib.hid (CL8.out.below hp9.below)
      have CM9 := Lib.hid (CM8.out.below hp9.below)
      have CB9 := Lib.hid (CB8.out.below hp9.below)
      clear hp9 hn9
      go_wp2_with fail
      refine (nuclei_any L n dL KL _ HLN.out (by omega) CL9.out).mono ?_
      rintro e w10 ⟨K10, n10, d10, rfl, hn10, hp10⟩
      obtain rfl : n10 = nl := by rw [hn10, HNL.out]
      have B10 := Lib.hid (btwo B9.out hp10.below)
      have CL10 := Lib.hid (CL9.out.below hp10.below)
      have CM10 := Lib.hid (CM9.out.below hp10.below)
      have CB10 := Lib.hid (CB9.out.below hp10.below)
      clear hp10 hn10
      go_wp2_with fail
      refine (nuclei_any M m dM KM _ HMN.out (by omega) CM10.out).mono ?_
      rintro e w11 ⟨K11, n11, d11, rfl, hn11, hp11⟩
      obtain rfl : n11 = nm := by rw [hn11, HNM.out]
      have B11 := Lib.hid (btwo B10.out hp11.below)
      have CL11 := Lib.hid (CL10.out.below hp11.below)
      have CM11 := Lib.hid (CM10.out.below hp11.below)
      have CB11 := Lib.hid (CB10.out.below hp11.below)
      clear hp11 hn11
      go_wp2_with fail
      refine (clusters_any L n dL KL _ HLN.out (by omega) CL11.out).mono ?_
      rintro e w12 ⟨KX, q12, dX, vx, rfl, hq12, hv12, hp12⟩
      obtain rfl : q12 = n10 + 1 := by rw [← hq12, HXL.out]
      have B12 := Lib.hid (btwo B11.out hp12.below)
      have CL12 := Lib.hid (CL11.out.below hp12.below)
      have CM12 := Lib.hid (CM11.out.below hp12.below)
      have CB12 := Lib.hid (CB11.out.below hp12.below)
      have XX12 := Lib.hid (CluIn.of hp12 hv12 hq12)
      have hcx : n10 + 1 ≤ dX := (hp12.cap (i := 0) rfl (A := KX) (c := dX) rfl).1
      have hcx2 : dX ≤ maxLen := (hp12.cap (i := 0) rfl (A := KX) (c := dX) rfl).2
      unfold maxLen at hcx2
      have HVX := Lib.hid hv12
      clear hp12 hq12 hv12
      go_wp2_with fail
      refine (clusters_any M m dM KM _ HMN.out (by omega) CM12.out).mono ?_
      rintro e w13 ⟨KY, q13, dY, vy, rfl, hq13, hv13, hp13⟩
      obtain rfl : q13 = n11 + 1 := by rw [← hq13, HYL.out]
      have B13 := Lib.hid (btwo B12.out hp13.below)
      have CL13 := Lib.hid (CL12.out.below hp13.below)
      have CM13 := Lib.hid (CM12.out.below hp13.below)
      have CB13 := Lib.hid (CB12.out.below hp13.below)
      have XX13 := Lib.hid (XX12.out.below hp13.below)
      have YY13 := Lib.hid (CluIn.of hp13 hv13 hq13)
      have hcy : n11 + 1 ≤ dY := (hp13.cap (i := 0) rfl (A := KY) (c := dY) rfl).1
      have hcy2 : dY ≤ maxLen := (hp13.cap (i := 0) rfl (A := KY) (c := dY) rfl).2
      unfold maxLen at hcy2
      have HVY := Lib.hid hv13
      clear hp13 hq13 hv13
      go_wp2_with fail
      refine (clusters_any (L ++ M) (n + m) dB KB _ HBN.out (by omega) CB13.out).mono ?_
      rintro e w14 ⟨KZ, q14, dZ, vz, rfl, hq14, hv14, hp14⟩
      obtain rfl : q14 = n10 + n11 + 1 := by rw [← hq14, HZL.out]
      have B14 := Lib.hid (btwo B13.out hp14.below)
      have CL14 := Lib.hid (CL13.out.below hp14.below)
      have CM14 := Lib.hid (CM13.out.below hp14.below)
      have CB14 := Lib.hid (CB13.out.below hp14.below)
      have XX14 := Lib.hid (XX13.out.below hp14.below)
      have YY14 := Lib.hid (YY13.out.below hp14.below)
      have ZZ14 := Lib.hid (CluIn.of hp14 hv14 hq14)
      clear hp14 hq14 hv14
      obtain ⟨u, hu⟩ := idx_lt HXL.out (show n10 < n10 + 1 by omega)
      obtain ⟨v, hv⟩ := idx_lt HYL.out (show 0 < n11 + 1 by omega)
      obtain ⟨⟨uA, uc⟩, bx, ox, hvu, rfl, hbx, x0, cu⟩ := XX14.out.at hu
      obtain ⟨⟨vA, vc⟩, bY, oy, hvv, rfl, hby, y0, cv⟩ := YY14.out.at hv
      dsimp only at x0 y0 cu cv
      rw [Nat.add_zero] at y0
      obtain ⟨ul, hul⟩ : ∃ ul, u.length = ul := ⟨_, rfl⟩
      obtain ⟨vl, hvl⟩ : ∃ vl, v.length = vl := ⟨_, rfl⟩
      have hulb : ul ≤ 100 := by rw [← hul]; exact HXR.out u (List.mem_of_getElem? hu)
      have hvlb : vl ≤ 100 := by rw [← hvl]; exact HYR.out v (List.mem_of_getElem? hv)
      rw [hul] at x0
      rw [hvl] at y0
      have HJC := Lib.hid (joined_clu L M HXL.out hu hv)
      have HUL := Lib.hid hul
      have HVL := Lib.hid hvl
      have CU := Lib.hid cu
      have CV := Lib.hid cv
      have HU := Lib.hid hu
      have HV := Lib.hid hv
      have p0 : (0 : Int) ≤ (n10 : Int) := by omega
      have p1 : (n10 : Int) < (n10 : Int) + 1 := by omega
      have p2 : IntKind.i64.wrap (n10 : Int) = (n10 : Int) := IntWalk.i64_in _ (by omega)
      have p3 : (n10 : Int) ≤ (n10 : Int) + 1 := by omega
      have p4 : (n10 : Int) ≤ (dX : Int) := by omega
      have p5 : (1 : Int) ≤ (n11 : Int) + 1 := by omega
      have p6 : (n11 : Int) + 1 ≤ (dY : Int) := by omega
      have p7 : (1 : Int) ≤ (dY : Int) := by omega
      have p8 : (0 : Int) < (n11 : Int) + 1 := by omega
      have q1 : ((n10 : Int) + 1 == 0) = false := by rw [beq_eq_false_iff_ne]; omega
      have q2 : ((n11 : Int) + 1 == 0) = false := by rw [beq_eq_false_iff_ne]; omega
      clear hu hv hvu hvv hul hvl cu cv
      go_upto_region 11 with fail
      have hKp : Keep [(⟨bx, ox + n10, none⟩, .slice uA ul uc), (⟨bY, oy, none⟩, .slice vA vl vc)] w14 := List.forall_mem_cons.2 ⟨⟨x0, hbx⟩, List.forall_mem_cons.2 ⟨⟨y0, hby⟩, fun _ h => by simp at h⟩⟩
      clear x0 y0
      refine wp_region_held_drew (S := Keep _) (by kernel_rfl) hKp.drew (fun hHeld => ?_)
      refine tk 0 ?_ rfl ?_ ?_; rotate_left; focus (intro w hSw; clear hSw; go_simp; try (with_reducible rfl))
      try simp only [Act.put, sA, sZ, sS]
      refine tk 1 ?_ rfl ?_ ?_; rotate_left; focus (intro w hSw; clear hSw; go_simp; try (with_reducible rfl))
      try simp only [Act.put, sA, sZ, sS]
      refine tk 2 ?_ rfl ?_ ?_; rotate_left; focus (intro w hSw; clear hSw; go_simp; try (with_reducible rfl))
      try simp only [Act.put, sA, sZ, sS]
      refine tk 3 ?_ rfl ?_ ?_; rotate_left
      · intro wl hSw
        have hSw : Keep _ wl := hSw
        have k0 := (hSw _ (.head _)).1
        dsimp only at k0
        clear hSw
        go_simp
        try (with_reducible rfl)
      try simp only [Act.put, sA, sZ, sS]
      refine tk 4 ?_ rfl ?_ ?_; rotate_left; focus (intro w hSw; clear hSw; go_simp; try (with_reducible rfl))
      try simp only [Act.put, sA, sZ, sS]
      refine tk 5 ?_ rfl ?_ ?_; rotate_left; focus (intro w hSw; clear hSw; go_simp; try (with_reducible rfl))
      try simp only [Act.put, sA, sZ, sS]
      refine tk 6 ?_ rfl ?_ ?_; rotate_left
      · intro wl hSw
        have hSw : Keep _ wl := hSw
        have k0 := (hSw _ (.tail _ (.head _))).1
        dsimp only at k0
        clear hSw
        go_simp
        try (with_reducible rfl)
      try simp only [Act.put, sA, sZ, sS]
      refine wpAnyH_ready (rs := [7]) (by kernel_rfl) (by simp) ?_
      refine AllReadyH.cons (List.getElem?_toArray.trans rfl) (fun K hK => ?_) AllReadyH.nil
      obtain ⟨g15, hg15⟩ : ∃ g, g = w14.heap.size := ⟨_, rfl⟩
      obtain ⟨wb, hwb⟩ : ∃ z, z = (w14.alloc (.cells #[.slice uA ul uc, .slice vA vl vc] 26)).drew := ⟨_, rfl⟩
      have hbb : Below w14.drew.heap.size w14.drew wb := by rw [hwb]; exact bnew w14.drew _
      have B15 := Lib.hid (btwo B14.out (btwo (bdrew _) hbb))
      have HG := Lib.hid hg15
      have HW := Lib.hid hwb
      go_simp
      rw [← hwb, ← hg15]
      clear hwb hg15
      refine hK.out _ _ (hHeld.go hbb) (fun hHeld => ?_)
      clear hK K
      try simp only [Act.put, sA, sZ, sS]
      refine wpAnyH_ready (rs := [8]) (by kernel_rfl) (by simp) ?_
      refine AllReadyH.cons (List.getElem?_toArray.trans rfl) (fun K hK => ?_) AllReadyH.nil
      go_simp
      refine (concat2_any u v ul vl uc vc uA vA w14.drew HUL.out HVL.out (by omega) (CU.out.below (bdrew _)) (CV.out.below (bdrew _)) g15 wb HG.out HW.out).mono ?_
      rintro e w15 ⟨KD, dD, rfl, hp15⟩
      have hb15 := hp15.below
      have B16 := Lib.hid (btwo B15.out hb15)
      have B14x := Lib.hid (btwo (bdrew w14) (btwo hbb hb15))
      have CD := Lib.hid (hp15.cells (i := 0) (A := KD) (c := dD) rfl rfl)
      have hcd : ul + vl ≤ dD := (hp15.cap (i := 0) rfl (A := KD) (c := dD) rfl).1
      clear hp15 hbb
      try go_wp2_with fail
      refine hK.out _ _ (hHeld.go hb15) (fun hHeld => ?_)
      clear hK K
      try simp only [Act.put, sA, sZ, sS]
      refine tk 9 ?_ rfl ?_ ?_; rotate_left; focus (intro w hSw; clear hSw; go_simp; try (with_reducible rfl))
      try simp only [Act.put, sA, sZ, sS]
      refine wpAnyH_done (by kernel_rfl) ?_ _
      clear hb15 hHeld HG HW
      have CL15 := Lib.hid (CL14.out.below B14x.out)
      have CM15 := Lib.hid (CM14.out.below B14x.out)
      have CB15 := Lib.hid (CB14.out.below B14x.out)
      have XX15 := Lib.hid (XX14.out.below B14x.out)
      have YY15 := Lib.hid (YY14.out.below B14x.out)
      have ZZ15 := Lib.hid (ZZ14.out.below B14x.out)
      clear B14x CL14 CM14 CB14 XX14 YY14 ZZ14
      go_upto_region 12 with fail
      refine wp_region_held_drew (S := Keep []) (by kernel_rfl) (fun _ h => by simp at h) (fun hHeld => ?_)
      refine tk 0 ?_ rfl ?_ ?_; rotate_left; focus (intro w hSw; clear hSw; go_simp; try (with_reducible rfl))
      try simp only [Act.put, sA, sZ, sS]
      refine tk 1 ?_ rfl ?_ ?_; rotate_left; focus (intro w hSw; clear hSw; go_simp; try (with_reducible rfl))
      try simp only [Act.put, sA, sZ, sS]
      refine tk 2 ?_ rfl ?_ ?_; rotate_left; focus (intro w hSw; clear hSw; go_simp; try (with_reducible rfl))
      try simp only [Act.put, sA, sZ, sS]
      refine tk 3 ?_ rfl ?_ ?_; rotate_left; focus (intro w hSw; clear hSw; go_simp; try (with_reducible rfl))
      try simp only [Act.put, sA, sZ, sS]
      refine tk 4 ?_ rfl ?_ ?_; rotate_left; focus (intro w hSw; clear hSw; go_simp; try (with_reducible rfl))
      try simp only [Act.put, sA, sZ, sS]
      refine tk 6 ?_ rfl ?_ ?_; rotate_left; focus (intro w hSw; clear hSw; go_simp; try (with_reducible rfl))
      try simp only [Act.put, sA, sZ, sS]
      refine tk 7 ?_ rfl ?_ ?_; rotate_left; focus (intro w hSw; clear hSw; go_simp; try (with_reducible rfl))
      try simp only [Act.put, sA, sZ, sS]
      refine wpAnyH_ready (rs := [5]) (by kernel_rfl) (by simp) ?_
      refine AllReadyH.cons (List.getElem?_toArray.trans rfl) (fun K hK => ?_) AllReadyH.nil
      obtain ⟨g16, hg16⟩ : ∃ g, g = w15.heap.size := ⟨_, rfl⟩
      obtain ⟨wc, hwc⟩ : ∃ z, z = (w15.alloc (.cells #[.slice KD (ul + vl) dD] 26)).drew := ⟨_, rfl⟩
      have hbc : Below w15.drew.heap.size w15.drew wc := by rw [hwc]; exact bnew w15.drew _
      have B17 := Lib.hid (btwo B16.out (btwo (bdrew _) hbc))
      have CM1 := Lib.hid (show CellsIn wc (some ⟨g16, 0, none⟩) [.slice KD (ul + vl) dD] by
        rw [hwc, hg16]
        exact ((Hp.start w15.drew).lit 26 1 1 [.slice KD (ul + vl) dD] rfl (by decide)).cells (i := 0) (A := some ⟨w15.drew.heap.size, 0, none⟩) (c := 1) rfl rfl)
      go_simp
      rw [← hwc, ← hg16]
      clear hwc hg16
      refine hK.out _ _ (hHeld.go hbc) (fun hHeld => ?_)
      clear hK K
      try simp only [Act.put, sA, sZ, sS]
      refine wpAnyH_ready (rs := [8]) (by kernel_rfl) (by simp) ?_
      refine AllReadyH.cons (List.getElem?_toArray.trans rfl) (fun K hK => ?_) AllReadyH.nil
      obtain ⟨g17, hg17⟩ : ∃ g, g = wc.heap.size := ⟨_, rfl⟩
      obtain ⟨YA, hYA⟩ : ∃ A : Option Addr, A = if dY = 1 then some ⟨bY, oy, none⟩ else some ⟨bY, oy + 1, none⟩ := ⟨_, rfl⟩
      have CY := Lib.hid (show CellsIn wc YA (List.zipWith slV (vy.drop 1) ((cluL M).drop 1)) by
        have h := (YY15.out.below (btwo (bdrew w15) hbc)).vals.drop1 dY (by rw [List.length_zipWith, HYL.out, HVY.out]; omega)
        rwa [List.drop_zipWith, ← hYA] at h)
      have CX := Lib.hid (show CellsIn wc (some ⟨bx, ox, none⟩) (List.zipWith slV (vx.take n10) ((cluL L).take n10)) by
        have h := (XX15.out.below (btwo (bdrew w15) hbc)).vals.takeC n10
        rwa [List.take_zipWith] at h)
      obtain ⟨wd, hwd⟩ : ∃ z, z = wc.alloc (.cells #[.slice (some ⟨bx, ox, none⟩) n10 dX, .slice (some ⟨g16, 0, none⟩) 1 1, .slice YA n11 (dY - 1)] 36) := ⟨_, rfl⟩
      have hbd : Below wc.heap.size wc wd := by rw [hwd]; exact bnew _ _
      have B18 := Lib.hid (btwo B17.out hbd)
      have HG := Lib.hid hg17
      have HW := Lib.hid hwd
      go_simp
      rw [← hYA, ← hwd, ← hg17]
      clear hwd hg17 hYA
      refine hK.out _ _ (hHeld.go hbd) (fun hHeld => ?_)
      clear hK K
      try simp only [Act.put, sA, sZ, sS]
      refine wpAnyH_ready (rs := [9]) (by kernel_rfl) (by simp) ?_
      refine AllReadyH.cons (List.getElem?_toArray.trans rfl) (fun K hK => ?_) AllReadyH.nil
      go_simp
      refine (concat3_any (vx.take n10) (vy.drop 1) ((cluL L).take n10) ((cluL M).drop 1) (u ++ v) n10 n11 (ul + vl) dX (dY - 1) dD (some ⟨bx, ox, none⟩) YA (some ⟨g16, 0, none⟩) KD wc (by rw [List.length_take, HVX.out]; omega) (by rw [List.length_take, HXL.out]; omega) (by rw [List.length_drop, HVY.out]; omega) (by rw [List.length_drop, HYL.out]; omega) (by omega) (by rw [List.length_append, HUL.out, HVL.out]) CX.out CY.out CM1.out g17 wd HG.out HW.out).mono ?_
      rintro e w19 ⟨KJ, dJ, rfl, hb19, hj⟩
      have B19 := Lib.hid (btwo B18.out hb19)
      have B15x := Lib.hid (btwo (bdrew w15) (btwo hbc (btwo hbd hb19)))
      have hJ : CluIn w19 KJ (vx.take n10 ++ (KD, dD) :: vy.drop 1) ((cluL L).take n10 ++ (u ++ v) :: (cluL M).drop 1) := CluIn.mid (XX15.out.below B15x.out) (YY15.out.below B15x.out) (by rw [HVX.out]; omega) ⟨by rw [List.length_append, HUL.out, HVL.out]; exact hcd, CD.out.below B15x.out⟩ hj
      rw [← HJC.out] at hJ
      have SJ := Lib.hid (hJ.rows HZR.out)
      have SZ := Lib.hid ((ZZ15.out.below B15x.out).rows HZR.out)
      clear hJ hj
      try go_wp2_with fail
      refine hK.out _ _ (hHeld.go hb19) (fun hHeld => ?_)
      clear hK K
      try simp only [Act.put, sA, sZ, sS]
      refine wpAnyH_ready (rs := [10]) (by kernel_rfl) (by simp) ?_
      refine AllReadyH.cons (List.getElem?_toArray.trans rfl) (fun K hK => ?_) AllReadyH.nil
      go_simp
      refine (rsamelists_any (cluL (L ++ M)) (cluL (L ++ M)) (n10 + n11 + 1) (n10 + 1 + n11) dZ dJ KZ KJ w19 HZL.out (by rw [HZL.out]; omega) (by omega) (by omega) SZ.out SJ.out HZR.out HZR.out).mono ?_
      rintro e w20 ⟨rfl, hb20⟩
      rw [eqB_yes rfl]
      have B20 := Lib.hid (btwo B19.out hb20)
      have B15y := Lib.hid (btwo B15x.out hb20)
      try go_wp2_with fail
      refine hK.out _ _ (hHeld.go hb20) (fun hHeld => ?_)
      clear hK K
      try simp only [Act.put, sA, sZ, sS]
      refine tk 11 ?_ rfl ?_ ?_; rotate_left; focus (intro w hSw; clear hSw; go_simp; try (with_reducible rfl))
      try simp only [Act.put, sA, sZ, sS]
      refine wpAnyH_done (by kernel_rfl) ?_ _
      have CL20 := Lib.hid (CL15.out.below B15y.out)
      have CM20 := Lib.hid (CM15.out.below B15y.out)
      have CB20 := Lib.hid (CB15.out.below B15y.out)
      clear hHeld HG HW hb20 hb19 hbd hbc B15x B15y SJ SZ CL15 CM15 CB15
      go_wp2_with fail
      refine (format_any L s 0 HFL.out n dL KL _ HLN.out (by omega) HSL.out CL20.out).mono ?_
      rintro e w21 ⟨rfl, hb21⟩
      have B21 := Lib.hid (btwo B20.out hb21)
      have CM21 := Lib.hid (CM20.out.below hb21)
      have CB21 := Lib.hid (CB20.out.below hb21)
      clear hb21
      go_wp2_with fail
      refine (format_any M t 0 HFM.out m dM KM _ HMN.out (by omega) HSM.out CM21.out).mono ?_
      rintro e w22 ⟨rfl, hb22⟩
      have B22 := Lib.hid (btwo B21.out hb22)
      have CB22 := Lib.hid (CB21.out.below hb22)
      clear hb22
      go_wp2_with fail
      refine (format_any (L ++ M) z 0 HFB.out (n + m) dB KB _ HBN.out (by omega) HSB.out CB22.out).mono ?_
      rintro e w23 ⟨rfl, hb23⟩
      have B23 := Lib.hid (btwo B22.out hb23)
      clear hb23
      by_cases hnm : 0 < n ∧ 0 < m
      · obtain ⟨hn0, hm0⟩ := hnm
        have hz := HZT.out
        rw [if_pos ⟨hn0, hm0⟩] at hz
        have f1 : ((bs z).toList == (bs s ++ ⟨#[32]⟩ ++ bs t).toList) = true := by
          rw [beq_iff_eq, ByteArray.toList_eq, ByteArray.toList_eq, bs_list, hz]
          simp [ByteArray.data_append, bs_list]
        have s1 := add_run (bs s) ⟨#[32]⟩ (by rw [bs_size, show (⟨#[32]⟩ : ByteArray).size = 1 from rfl]; omega)
        have s2 := add_run (bs s ++ ⟨#[32]⟩) (bs t) (by rw [ByteArray.size_append, bs_size, bs_size, show (⟨#[32]⟩ : ByteArray).size = 1 from rfl]; omega)
        clear hz
        go_wp2_with fail
        go_ret
        exact ⟨by first | rfl | simp, B23.out⟩
      · have hz := HZT.out
        rw [if_neg hnm] at hz
        have f1 : ((bs z).toList == (bs s ++ bs t).toList) = true := by
          rw [beq_iff_eq, ByteArray.toList_eq, ByteArray.toList_eq, bs_list, hz]
          simp [ByteArray.data_append, bs_list]
        have s2 := add_run (bs s) (bs t) (by rw [bs_size, bs_size]; omega)
        clear hz
        by_cases hn0 : n = 0
        · clear hnm
          go_wp2_with fail
          go_ret
          exact ⟨by first | rfl | simp, B23.out⟩
        · have hm0 : m = 0 := by omega
          clear hnm
          go_wp2_with fail
          go_ret
          exact ⟨by first | rfl | simp, B23.out⟩
end Go.Proofs.YtbmldlkjnejfaaaDoor
