/- What the statement on Latin and Greek answers: true, whatever the input. -/
import Derived.Test.YtfgnekbkcmpdiaaGreatDoorMH
import Derived.Test.YtfgnekbkcmpdiaaGreatDoorYc
import Derived.Test.YtfgnekbkcmpdiaaGreatDoorOq
namespace Go.Proofs.YtfgnekbkcmpdiaaGreatDoor
open Go.RowKit
set_option linter.unusedVariables false
set_option linter.unusedSimpArgs false
set_option maxRecDepth 100000

theorem Pool.ahead {pool : List Itm} {vs : List (Option Addr × Nat)} {L : List Sg} (h : Pool pool vs L) (r : List Itm) : Pool (r ++ pool) vs L := fun j v x hv hx => by
  obtain ⟨k, hk⟩ := h j v x hv hx
  exact ⟨r.length + k, by rw [List.getElem?_append_right (by omega), show r.length + k - r.length = k by omega]; exact hk⟩
theorem snd_cell {L : List Snd} {x : Snd} (h : L[0]? = some x) : (sndsC L)[2]? = some (.string (bs x.t)) := by
  match L, h with
  | y :: r, h =>
    have e : y = x := by simpa using h
    subst e; rfl
set_option maxHeartbeats 3000000 in
theorem lawfixed_any (q : Nat) (w : World) (hq : q ≤ 255) (hm : MaxAt w) :
    Calls Tryz.prog 3 #[.int .u8 (q : Int)] w fun e w' => e = .returned (.bool true) ∧ Below w.heap.size w w' := by
  have HM := Lib.hid hm
  clear hm
  obtain ⟨N1, L1, N2, L2, hv1, hv2, h1, h2, h3, h4⟩ : ∃ N1 L1 N2 L2, (vO N1 L1).2 = 0 ∧ (vO N2 L2).2 = 0 ∧ (∀ w, MaxAt w → Calls Tryz.prog 7 #[] w (OnlyO N1 L1 w)) ∧ (∀ w, MaxAt w → Calls Tryz.prog 8 #[] w (OnlyO N2 L2 w)) ∧ (∀ w, Calls Tryz.prog 10 #[] w (OnlyO N1 L1 w)) ∧ (∀ w, Calls Tryz.prog 11 #[] w (OnlyO N2 L2 w)) :=
    ⟨latN, latL, grkN, grkL, lat_ok, grk_ok, latin_any, greek_any, rlatin_any, rgreek_any⟩
  have HV1 := Lib.hid hv1
  have HV2 := Lib.hid hv2
  have C1 := Lib.hid h1
  have C2 := Lib.hid h2
  have C3 := Lib.hid h3
  have C4 := Lib.hid h4
  have hb1 := nm_bnd hv1
  have hb2 := nm_bnd hv2
  clear hv1 hv2 h1 h2 h3 h4
  go_enter Tryz.func3, Tryz.ntmps3
  go_wp2_with fail
  refine (awake12_any _ HM.out).mono ?_
  rintro e w1 ⟨rfl, hb⟩
  have B1 := Lib.hid hb
  clear hb
  go_wp2_with fail
  refine (C1.out _ (HM.out.below B1.out)).mono ?_
  rintro e w2 ⟨A, n, c, vs, pool, rfl, hn, hvs, hpool, hp⟩
  have V2 := Lib.hid (show Hp w (sgv A n c vs L1 :: pool) w2 by have := ((Hp.start w).go B1.out).join hp; simpa using this)
  have SA2 := Lib.hid (sg_pool hp hvs hpool)
  have HL := Lib.hid hn
  have HW1 := Lib.hid hvs
  have HP := Lib.hid hpool
  clear hp hn hvs hpool
  go_wp2_with fail
  refine (C2.out _ (HM.out.below V2.out.below)).mono ?_
  rintro e w3 ⟨A2, n2, c2, vs2, pool2, rfl, hn, hvs, hpool, hp⟩
  have V3 := Lib.hid (show Hp w (sgv A n c vs L1 :: sgv A2 n2 c2 vs2 L2 :: (pool2 ++ pool)) w3 by
    have h1 := V2.out.join hp
    have h2 : Hp w ((sgv A2 n2 c2 vs2 L2 :: pool2) ++ sgv A n c vs L1 :: pool) w3 := h1
    simpa using h2.front)
  have SB3 := Lib.hid (sg_pool hp hvs hpool)
  have SA3 := Lib.hid (SA2.out.below hp.below)
  have HL2 := Lib.hid hn
  have HW2 := Lib.hid hvs
  have HP2 := Lib.hid hpool
  have hn1 : n ≤ 120 ∧ 1 ≤ n := by obtain ⟨_, a, b, _⟩ := vO_zero HV1.out; have := HL.out; omega
  have hn2 : n2 ≤ 120 ∧ 1 ≤ n2 := by obtain ⟨_, a, b, _⟩ := vO_zero HV2.out; have := HL2.out; omega
  clear hp hn hvs hpool
  obtain ⟨ga, hga⟩ : ∃ z, z = w3.heap.size := ⟨_, rfl⟩
  obtain ⟨W4, hW4⟩ : ∃ z, z = w3.alloc (.cells #[.string (bs N1), .slice A n c] 25) := ⟨_, rfl⟩
  have V4 := Lib.hid (show Hp w (obox ga N1 A n c :: sgv A n c vs L1 :: sgv A2 n2 c2 vs2 L2 :: (pool2 ++ pool)) W4 by rw [hW4, hga]; exact V3.out.obox_new N1 A n c)
  obtain ⟨gb, hgb⟩ : ∃ z, z = W4.heap.size := ⟨_, rfl⟩
  obtain ⟨W5, hW5⟩ : ∃ z, z = W4.alloc (.cells #[.string (bs N2), .slice A2 n2 c2] 25) := ⟨_, rfl⟩
  have V5 := Lib.hid (show Hp w (obox gb N2 A2 n2 c2 :: obox ga N1 A n c :: sgv A n c vs L1 :: sgv A2 n2 c2 vs2 L2 :: (pool2 ++ pool)) W5 by rw [hW5, hgb]; exact V4.out.obox_new N2 A2 n2 c2)
  have b35 : Below w3.heap.size w3 W5 := by rw [hW5, hW4]; exact btwo (bnew _ _) (bnew _ _)
  have SA5 := Lib.hid (SA3.out.below b35)
  have SB5 := Lib.hid (SB3.out.below b35)
  have HGB := Lib.hid (show gb = ga + 1 by rw [hgb, hW4, hga]; simp)
  have HGA := Lib.hid hga
  have HW4 := Lib.hid hW4
  have HW5 := Lib.hid hW5
  clear hga hW4 hgb hW5 b35
  go_upto_region 4 with fail
  rw [← HGA.out, ← HW4.out, ← HGB.out, ← HW5.out]
  have hKp : Keep [(⟨ga, 0, none⟩, .string (bs N1)), (⟨ga, 1, none⟩, .slice A n c), (⟨gb, 0, none⟩, .string (bs N2)), (⟨gb, 1, none⟩, .slice A2 n2 c2)] W5 := List.forall_mem_cons.2 ⟨⟨(V5.out.box_at (i := 1) (j := 0) rfl rfl).1, (V5.out.box_at (i := 1) (j := 0) rfl rfl).2.2⟩, List.forall_mem_cons.2 ⟨⟨(V5.out.box_at (i := 1) (j := 1) rfl rfl).1, (V5.out.box_at (i := 1) (j := 1) rfl rfl).2.2⟩, List.forall_mem_cons.2 ⟨⟨(V5.out.box_at (i := 0) (j := 0) rfl rfl).1, (V5.out.box_at (i := 0) (j := 0) rfl rfl).2.2⟩, List.forall_mem_cons.2 ⟨⟨(V5.out.box_at (i := 0) (j := 1) rfl rfl).1, (V5.out.box_at (i := 0) (j := 1) rfl rfl).2.2⟩, fun _ h => by simp at h⟩⟩⟩⟩
  refine wp_region_held_drew (S := Keep _) (by kernel_rfl) hKp.drew (fun hHeld => ?_)
  obtain ⟨wd, hwd⟩ : ∃ z, z = W5.drew := ⟨_, rfl⟩
  have Vwd := Lib.hid (show Hp w (obox gb N2 A2 n2 c2 :: obox ga N1 A n c :: sgv A n c vs L1 :: sgv A2 n2 c2 vs2 L2 :: (pool2 ++ pool)) wd by rw [hwd]; exact V5.out.go (bdrew _))
  have Bwd := Lib.hid (show Below W5.heap.size W5 wd by rw [hwd]; exact bdrew _)
  rw [← hwd] at hHeld ⊢
  clear hwd hKp
  have SA6 := Lib.hid (SA5.out.below Bwd.out)
  have SB6 := Lib.hid (SB5.out.below Bwd.out)
  refine tk 0 ?_ rfl ?_ ?_; rotate_left
  · intro wl hSw
    have hSw : Keep _ wl := hSw
    have k0 := (hSw _ (.head _)).1
    have k1 := (hSw _ (.tail _ (.head _))).1
    dsimp only at k0 k1
    clear hSw
    go_simp
    try (with_reducible rfl)
  try simp only [Act.put, sA, sZ, sS]
  refine wpAnyH_ready (rs := [1]) (by kernel_rfl) (by simp) ?_
  refine AllReadyH.cons (List.getElem?_toArray.trans rfl) (fun K hK => ?_) AllReadyH.nil
  go_simp
  refine (C3.out _).mono ?_
  rintro e w_1 ⟨A3, n3, c3, vs3, p3, rfl, hn, hvs, hpool, hp⟩
  obtain rfl : n = n3 := HL.out.symm.trans hn
  have SA_1 := Lib.hid (SA6.out.below hp.below)
  have SB_1 := Lib.hid (SB6.out.below hp.below)
  have SX_1 := Lib.hid (sg_pool hp hvs hpool)
  have V_1 := Lib.hid (Vwd.out.go hp.below)
  have B_1 := Lib.hid hp.below
  clear hn hvs hpool hp
  try go_wp2_with fail
  refine hK.out _ _ (hHeld.go B_1.out) (fun hHeld => ?_)
  clear hK K
  try simp only [Act.put, sA, sZ, sS]
  refine wpAnyH_ready (rs := [2]) (by kernel_rfl) (by simp) ?_
  refine AllReadyH.cons (List.getElem?_toArray.trans rfl) (fun K hK => ?_) AllReadyH.nil
  go_simp
  refine (rsameO_refl N1 L1 A A3 n c c3 _ HL.out (by omega) (SgBd.ok HV1.out) SA_1.out SX_1.out).mono ?_
  rintro e w_1_2 ⟨rfl, hb⟩
  have SA_1_2 := Lib.hid (SA_1.out.below hb)
  have SB_1_2 := Lib.hid (SB_1.out.below hb)
  have V_1_2 := Lib.hid (V_1.out.go hb)
  have B_1_2 := Lib.hid hb
  clear hb
  try go_wp2_with fail
  refine hK.out _ _ (hHeld.go B_1_2.out) (fun hHeld => ?_)
  clear hK K
  try simp only [Act.put, sA, sZ, sS]
  refine tk 3 ?_ rfl ?_ ?_; rotate_left; focus (intro w hSw; clear hSw; go_simp; try (with_reducible rfl))
  try simp only [Act.put, sA, sZ, sS]
  refine tk 4 ?_ rfl ?_ ?_; rotate_left; focus (intro w hSw; clear hSw; go_simp; try (with_reducible rfl))
  try simp only [Act.put, sA, sZ, sS]
  refine tk 5 ?_ rfl ?_ ?_; rotate_left
  · intro wl hSw
    have hSw : Keep _ wl := hSw
    have k0 := (hSw _ (.tail _ (.tail _ (.head _)))).1
    have k1 := (hSw _ (.tail _ (.tail _ (.tail _ (.head _))))).1
    dsimp only at k0 k1
    clear hSw
    go_simp
    try (with_reducible rfl)
  try simp only [Act.put, sA, sZ, sS]
  refine wpAnyH_ready (rs := [6]) (by kernel_rfl) (by simp) ?_
  refine AllReadyH.cons (List.getElem?_toArray.trans rfl) (fun K hK => ?_) AllReadyH.nil
  go_simp
  refine (C4.out _).mono ?_
  rintro e w_1_2_6 ⟨A4, n4, c4, vs4, p4, rfl, hn, hvs, hpool, hp⟩
  obtain rfl : n2 = n4 := HL2.out.symm.trans hn
  have SA_1_2_6 := Lib.hid (SA_1_2.out.below hp.below)
  have SB_1_2_6 := Lib.hid (SB_1_2.out.below hp.below)
  have SX_1_2_6 := Lib.hid (sg_pool hp hvs hpool)
  have V_1_2_6 := Lib.hid (V_1_2.out.go hp.below)
  have B_1_2_6 := Lib.hid hp.below
  clear hn hvs hpool hp
  try go_wp2_with fail
  refine hK.out _ _ (hHeld.go B_1_2_6.out) (fun hHeld => ?_)
  clear hK K
  try simp only [Act.put, sA, sZ, sS]
  refine wpAnyH_ready (rs := [7]) (by kernel_rfl) (by simp) ?_
  refine AllReadyH.cons (List.getElem?_toArray.trans rfl) (fun K hK => ?_) AllReadyH.nil
  go_simp
  refine (rsameO_refl N2 L2 A2 A4 n2 c2 c4 _ HL2.out (by omega) (SgBd.ok HV2.out) SB_1_2_6.out SX_1_2_6.out).mono ?_
  rintro e w_1_2_6_7 ⟨rfl, hb⟩
  have SA_1_2_6_7 := Lib.hid (SA_1_2_6.out.below hb)
  have SB_1_2_6_7 := Lib.hid (SB_1_2_6.out.below hb)
  have V_1_2_6_7 := Lib.hid (V_1_2_6.out.go hb)
  have B_1_2_6_7 := Lib.hid hb
  clear hb
  try go_wp2_with fail
  refine hK.out _ _ (hHeld.go B_1_2_6_7.out) (fun hHeld => ?_)
  clear hK K
  try simp only [Act.put, sA, sZ, sS]
  refine tk 8 ?_ rfl ?_ ?_; rotate_left; focus (intro w hSw; clear hSw; go_simp; try (with_reducible rfl))
  try simp only [Act.put, sA, sZ, sS]
  refine tk 9 ?_ rfl ?_ ?_; rotate_left; focus (intro w hSw; clear hSw; go_simp; try (with_reducible rfl))
  try simp only [Act.put, sA, sZ, sS]
  refine tk 10 ?_ rfl ?_ ?_; rotate_left; focus (intro w hSw; clear hSw; go_simp; try (with_reducible rfl))
  try simp only [Act.put, sA, sZ, sS]
  refine tk 11 ?_ rfl ?_ ?_; rotate_left
  · intro wl hSw
    have hSw : Keep _ wl := hSw
    have k0 := (hSw _ (.head _)).1
    have k1 := (hSw _ (.tail _ (.head _))).1
    dsimp only at k0 k1
    clear hSw
    go_simp
    try (with_reducible rfl)
  try simp only [Act.put, sA, sZ, sS]
  refine wpAnyH_ready (rs := [12]) (by kernel_rfl) (by simp) ?_
  refine AllReadyH.cons (List.getElem?_toArray.trans rfl) (fun K hK => ?_) AllReadyH.nil
  have hcap : n ≤ c := (V_1_2_6_7.out.cap (i := 2) (it := sgv A n c vs L1) rfl (A := A) (c := c) rfl).1
  go_simp
  refine (ovalid_any N1 L1 A n c _ (by omega) HL.out (by omega) hcap (SgBd.ok HV1.out) SA_1_2_6_7.out).mono ?_
  rintro e w_1_2_6_7_12 ⟨rfl, hb⟩
  rw [show (vO N1 L1).2 = 0 from HV1.out]
  have SA_1_2_6_7_12 := Lib.hid (SA_1_2_6_7.out.below hb)
  have SB_1_2_6_7_12 := Lib.hid (SB_1_2_6_7.out.below hb)
  have V_1_2_6_7_12 := Lib.hid (V_1_2_6_7.out.go hb)
  have B_1_2_6_7_12 := Lib.hid hb
  clear hb hcap
  try go_wp2_with fail
  refine hK.out _ _ (hHeld.go B_1_2_6_7_12.out) (fun hHeld => ?_)
  clear hK K
  try simp only [Act.put, sA, sZ, sS]
  refine tk 13 ?_ rfl ?_ ?_; rotate_left; focus (intro w hSw; clear hSw; go_simp; try (with_reducible rfl))
  try simp only [Act.put, sA, sZ, sS]
  refine tk 14 ?_ rfl ?_ ?_; rotate_left; focus (intro w hSw; clear hSw; go_simp; try (with_reducible rfl))
  try simp only [Act.put, sA, sZ, sS]
  refine tk 15 ?_ rfl ?_ ?_; rotate_left; focus (intro w hSw; clear hSw; go_simp; try (with_reducible rfl))
  try simp only [Act.put, sA, sZ, sS]
  refine tk 16 ?_ rfl ?_ ?_; rotate_left
  · intro wl hSw
    have hSw : Keep _ wl := hSw
    have k0 := (hSw _ (.tail _ (.tail _ (.head _)))).1
    have k1 := (hSw _ (.tail _ (.tail _ (.tail _ (.head _))))).1
    dsimp only at k0 k1
    clear hSw
    go_simp
    try (with_reducible rfl)
  try simp only [Act.put, sA, sZ, sS]
  refine wpAnyH_ready (rs := [17]) (by kernel_rfl) (by simp) ?_
  refine AllReadyH.cons (List.getElem?_toArray.trans rfl) (fun K hK => ?_) AllReadyH.nil
  have hcap : n2 ≤ c2 := (V_1_2_6_7_12.out.cap (i := 3) (it := sgv A2 n2 c2 vs2 L2) rfl (A := A2) (c := c2) rfl).1
  go_simp
  refine (ovalid_any N2 L2 A2 n2 c2 _ (by omega) HL2.out (by omega) hcap (SgBd.ok HV2.out) SB_1_2_6_7_12.out).mono ?_
  rintro e w_1_2_6_7_12_17 ⟨rfl, hb⟩
  rw [show (vO N2 L2).2 = 0 from HV2.out]
  have SA_1_2_6_7_12_17 := Lib.hid (SA_1_2_6_7_12.out.below hb)
  have SB_1_2_6_7_12_17 := Lib.hid (SB_1_2_6_7_12.out.below hb)
  have V_1_2_6_7_12_17 := Lib.hid (V_1_2_6_7_12.out.go hb)
  have B_1_2_6_7_12_17 := Lib.hid hb
  clear hb hcap
  try go_wp2_with fail
  refine hK.out _ _ (hHeld.go B_1_2_6_7_12_17.out) (fun hHeld => ?_)
  clear hK K
  try simp only [Act.put, sA, sZ, sS]
  refine tk 18 ?_ rfl ?_ ?_; rotate_left; focus (intro w hSw; clear hSw; go_simp; try (with_reducible rfl))
  try simp only [Act.put, sA, sZ, sS]
  refine tk 19 ?_ rfl ?_ ?_; rotate_left; focus (intro w hSw; clear hSw; go_simp; try (with_reducible rfl))
  try simp only [Act.put, sA, sZ, sS]
  refine wpAnyH_done (by kernel_rfl) ?_ _
  clear hHeld
  have VA := Lib.hid V_1_2_6_7_12_17.out
  obtain ⟨b, hA⟩ := VA.out.head (i := 2) (it := sgv A n c vs L1) rfl (A := A) (c := c) rfl (show 0 < n by omega)
  subst hA
  obtain ⟨kk, hkk⟩ : ∃ kk, kk = q % n := ⟨_, rfl⟩
  have hkn : kk < n := by rw [hkk]; exact Nat.mod_lt _ (by omega)
  have hmod : (q : Int).tmod (n : Int) = (kk : Int) := by rw [hkk]; rfl
  have hwz : IntKind.i64.wrap (q : Int) = (q : Int) := IntWalk.i64_in _ (by omega)
  have hn0 : ¬ n = 0 := by omega
  clear hkk
  obtain ⟨x, hx⟩ := get_at (L := L1) (k := kk) (by have := HL.out; omega)
  obtain ⟨⟨v1, v2⟩, hvv⟩ : ∃ v, vs[kk]? = some v := ⟨_, List.getElem?_eq_getElem (by rw [HW1.out, HL.out]; exact hkn)⟩
  obtain ⟨r, hr⟩ := HP.out kk (v1, v2) x hvv hx
  have hr : pool[r]? = some (snds v1 x.s.length v2 x.s) := hr
  have hr4 : (obox gb N2 A2 n2 c2 :: obox ga N1 (some ⟨b, 0, none⟩) n c :: sgv (some ⟨b, 0, none⟩) n c vs L1 :: sgv A2 n2 c2 vs2 L2 :: (pool2 ++ pool))[pool2.length + r + 4]? = some (snds v1 x.s.length v2 x.s) := by
    show (pool2 ++ pool)[pool2.length + r]? = _
    rw [List.getElem?_append_right (by omega), show pool2.length + r - pool2.length = r by omega]; exact hr
  have hsl := (sgE_zero ((vO_zero HV1.out).2.2.2 x (List.mem_of_getElem? hx))).2.1
  obtain ⟨y, hy⟩ := get_at (L := x.s) (k := 0) hsl.1
  obtain ⟨gs, hgs⟩ := VA.out.head (i := pool2.length + r + 4) (it := snds v1 x.s.length v2 x.s) hr4 (A := v1) (c := v2) rfl hsl.1
  subst hgs
  obtain ⟨_, a1, _⟩ := sgsC_at hvv hx
  have A1 := Lib.hid a1
  obtain ⟨c1, _, cb⟩ := VA.out.cell (i := 2) (it := sgv (some ⟨b, 0, none⟩) n c vs L1) rfl (g := b) (cap := c) rfl a1
  dsimp only at c1
  obtain ⟨o0, o1, o2⟩ := VA.out.obox_at (i := 1) rfl
  have hk4 : kk * 4 ≤ 480 := by omega
  clear a1
  go_upto_region 6 with fail
  have hKp : Keep [(⟨ga, 1, none⟩, .slice (some ⟨b, 0, none⟩) n c), (⟨b, kk * 4 + 1, none⟩, .slice (some ⟨gs, 0, none⟩) x.s.length v2)] w_1_2_6_7_12_17 := List.forall_mem_cons.2 ⟨⟨(VA.out.box_at (i := 1) (j := 1) rfl rfl).1, (VA.out.box_at (i := 1) (j := 1) rfl rfl).2.2⟩, List.forall_mem_cons.2 ⟨⟨(VA.out.cell (i := 2) (it := sgv (some ⟨b, 0, none⟩) n c vs L1) rfl (g := b) (cap := c) rfl A1.out).1, (VA.out.cell (i := 2) (it := sgv (some ⟨b, 0, none⟩) n c vs L1) rfl (g := b) (cap := c) rfl A1.out).2.2⟩, fun _ h => by simp at h⟩⟩
  refine wp_region_held_drew (S := Keep _) (by kernel_rfl) hKp.drew (fun hHeld => ?_)
  obtain ⟨wg, hwg⟩ : ∃ z, z = w_1_2_6_7_12_17.drew := ⟨_, rfl⟩
  have Vwg := Lib.hid (show Hp w (obox gb N2 A2 n2 c2 :: obox ga N1 (some ⟨b, 0, none⟩) n c :: sgv (some ⟨b, 0, none⟩) n c vs L1 :: sgv A2 n2 c2 vs2 L2 :: (pool2 ++ pool)) wg by rw [hwg]; exact VA.out.go (bdrew _))
  have Bwg := Lib.hid (show Below w_1_2_6_7_12_17.heap.size w_1_2_6_7_12_17 wg by rw [hwg]; exact bdrew _)
  rw [← hwg] at hHeld ⊢
  clear hwg hKp
  refine tk 0 ?_ rfl ?_ ?_; rotate_left; focus (intro w hSw; clear hSw; go_simp; try (with_reducible rfl))
  try simp only [Act.put, sA, sZ, sS]
  refine tk 1 ?_ rfl ?_ ?_; rotate_left
  · intro wl hSw
    have hSw : Keep _ wl := hSw
    have k0 := (hSw _ (.head _)).1
    dsimp only at k0
    clear hSw
    go_simp
    try (with_reducible rfl)
  try simp only [Act.put, sA, sZ, sS]
  refine tk 2 ?_ rfl ?_ ?_; rotate_left; focus (intro w hSw; clear hSw; go_simp; try (with_reducible rfl))
  try simp only [Act.put, sA, sZ, sS]
  refine tk 3 ?_ rfl ?_ ?_; rotate_left; focus (intro w hSw; clear hSw; go_simp; try (with_reducible rfl))
  try simp only [Act.put, sA, sZ, sS]
  refine tk 4 ?_ rfl ?_ ?_; rotate_left; focus (intro w hSw; clear hSw; go_simp; try (with_reducible rfl))
  try simp only [Act.put, sA, sZ, sS]
  refine tk 5 ?_ rfl ?_ ?_; rotate_left
  · intro wl hSw
    have hSw : Keep _ wl := hSw
    have k0 := (hSw _ (.head _)).1
    dsimp only at k0
    clear hSw
    go_simp
    try (with_reducible rfl)
  try simp only [Act.put, sA, sZ, sS]
  refine tk 6 ?_ rfl ?_ ?_; rotate_left; focus (intro w hSw; clear hSw; go_simp; try (with_reducible rfl))
  try simp only [Act.put, sA, sZ, sS]
  refine tk 7 ?_ rfl ?_ ?_; rotate_left; focus (intro w hSw; clear hSw; go_simp; try (with_reducible rfl))
  try simp only [Act.put, sA, sZ, sS]
  refine tk 8 ?_ rfl ?_ ?_; rotate_left; focus (intro w hSw; clear hSw; go_simp; try (with_reducible rfl))
  try simp only [Act.put, sA, sZ, sS]
  refine tk 9 ?_ rfl ?_ ?_; rotate_left; focus (intro w hSw; clear hSw; go_simp; try (with_reducible rfl))
  try simp only [Act.put, sA, sZ, sS]
  refine tk 10 ?_ rfl ?_ ?_; rotate_left
  · intro wl hSw
    have hSw : Keep _ wl := hSw
    have k0 := (hSw _ (.tail _ (.head _))).1
    dsimp only at k0
    clear hSw
    go_simp
    try (with_reducible rfl)
  try simp only [Act.put, sA, sZ, sS]
  refine tk 11 ?_ rfl ?_ ?_; rotate_left; focus (intro w hSw; clear hSw; go_simp; try (with_reducible rfl))
  try simp only [Act.put, sA, sZ, sS]
  refine tk 12 ?_ rfl ?_ ?_; rotate_left; focus (intro w hSw; clear hSw; go_simp; try (with_reducible rfl))
  try simp only [Act.put, sA, sZ, sS]
  refine wpAnyH_ready (rs := [13]) (by kernel_rfl) (by simp) ?_
  refine AllReadyH.cons (List.getElem?_toArray.trans rfl) (fun K hK => ?_) AllReadyH.nil
  obtain ⟨s0, s1, s2⟩ := Vwg.out.cell (i := pool2.length + r + 4) (it := snds (some ⟨gs, 0, none⟩) x.s.length v2 x.s) hr4 (g := gs) (cap := v2) rfl (snd_cell hy)
  obtain ⟨P3, hVB⟩ : ∃ P3, Hp w (obox gb N2 A2 n2 c2 :: obox ga N1 (some ⟨b, 0, none⟩) n c :: sgv (some ⟨b, 0, none⟩) n c vs L1 :: sgv A2 n2 c2 vs2 L2 :: P3) (wg.setCell ⟨gs, 2, none⟩ (.string ⟨#[99, 104, 97, 110, 103, 101, 100]⟩)) := ⟨_, Vwg.out.store (i := pool2.length + r + 4) (it := snds (some ⟨gs, 0, none⟩) x.s.length v2 x.s) hr4 (g := gs) (cap := v2) rfl 2 (.string ⟨#[99, 104, 97, 110, 103, 101, 100]⟩)⟩
  have VB := Lib.hid hVB
  clear hVB
  go_simp
  refine hK.out _ _ (List.forall_mem_cons.2 ⟨⟨(VB.out.box_at (i := 1) (j := 1) rfl rfl).1, (VB.out.box_at (i := 1) (j := 1) rfl rfl).2.2⟩, List.forall_mem_cons.2 ⟨⟨(VB.out.cell (i := 2) (it := sgv (some ⟨b, 0, none⟩) n c vs L1) rfl (g := b) (cap := c) rfl A1.out).1, (VB.out.cell (i := 2) (it := sgv (some ⟨b, 0, none⟩) n c vs L1) rfl (g := b) (cap := c) rfl A1.out).2.2⟩, fun _ h => by simp at h⟩⟩) (fun hHeld => ?_)
  clear hK K
  try simp only [Act.put, sA, sZ, sS]
  refine wpAnyH_done (by kernel_rfl) ?_ _
  clear hHeld o0 o1 o2 c1 cb
  obtain ⟨bb, hA2⟩ := VB.out.head (i := 3) (it := sgv A2 n2 c2 vs2 L2) rfl (A := A2) (c := c2) rfl (show 0 < n2 by omega)
  subst hA2
  obtain ⟨kk2, hkk⟩ : ∃ kk, kk = q % n2 := ⟨_, rfl⟩
  have hkn2 : kk2 < n2 := by rw [hkk]; exact Nat.mod_lt _ (by omega)
  have hmod2 : (q : Int).tmod (n2 : Int) = (kk2 : Int) := by rw [hkk]; rfl
  have hn02 : ¬ n2 = 0 := by omega
  clear hkk
  obtain ⟨z, hz⟩ := get_at (L := L2) (k := kk2) (by have := HL2.out; omega)
  obtain ⟨u, hu⟩ : ∃ v, vs2[kk2]? = some v := ⟨_, List.getElem?_eq_getElem (by rw [HW2.out, HL2.out]; exact hkn2)⟩
  obtain ⟨a0, _⟩ := sgsC_at hu hz
  have hk42 : kk2 * 4 ≤ 480 := by omega
  obtain ⟨o0, o1, o2⟩ := VB.out.obox_at (i := 0) rfl
  go_upto_region 7 with fail
  obtain ⟨wy, hwy⟩ : ∃ z, z = wg.setCell ⟨gs, 2, none⟩ (.string ⟨#[99, 104, 97, 110, 103, 101, 100]⟩) := ⟨_, rfl⟩
  rw [← hwy] at VB ⊢
  clear hwy
  have hKp : Keep [(⟨gb, 1, none⟩, .slice (some ⟨bb, 0, none⟩) n2 c2)] wy := List.forall_mem_cons.2 ⟨⟨(VB.out.box_at (i := 0) (j := 1) rfl rfl).1, (VB.out.box_at (i := 0) (j := 1) rfl rfl).2.2⟩, fun _ h => by simp at h⟩
  refine wp_region_held_drew (S := Keep _) (by kernel_rfl) hKp.drew (fun hHeld => ?_)
  obtain ⟨wh, hwh⟩ : ∃ z, z = wy.drew := ⟨_, rfl⟩
  have Vwh := Lib.hid (show Hp w (obox gb N2 (some ⟨bb, 0, none⟩) n2 c2 :: obox ga N1 (some ⟨b, 0, none⟩) n c :: sgv (some ⟨b, 0, none⟩) n c vs L1 :: sgv (some ⟨bb, 0, none⟩) n2 c2 vs2 L2 :: P3) wh by rw [hwh]; exact VB.out.go (bdrew _))
  have Bwh := Lib.hid (show Below wy.heap.size wy wh by rw [hwh]; exact bdrew _)
  rw [← hwh] at hHeld ⊢
  clear hwh hKp
  refine tk 0 ?_ rfl ?_ ?_; rotate_left; focus (intro w hSw; clear hSw; go_simp; try (with_reducible rfl))
  try simp only [Act.put, sA, sZ, sS]
  refine tk 1 ?_ rfl ?_ ?_; rotate_left
  · intro wl hSw
    have hSw : Keep _ wl := hSw
    have k0 := (hSw _ (.head _)).1
    dsimp only at k0
    clear hSw
    go_simp
    try (with_reducible rfl)
  try simp only [Act.put, sA, sZ, sS]
  refine tk 2 ?_ rfl ?_ ?_; rotate_left; focus (intro w hSw; clear hSw; go_simp; try (with_reducible rfl))
  try simp only [Act.put, sA, sZ, sS]
  refine tk 3 ?_ rfl ?_ ?_; rotate_left; focus (intro w hSw; clear hSw; go_simp; try (with_reducible rfl))
  try simp only [Act.put, sA, sZ, sS]
  refine tk 4 ?_ rfl ?_ ?_; rotate_left; focus (intro w hSw; clear hSw; go_simp; try (with_reducible rfl))
  try simp only [Act.put, sA, sZ, sS]
  refine tk 5 ?_ rfl ?_ ?_; rotate_left
  · intro wl hSw
    have hSw : Keep _ wl := hSw
    have k0 := (hSw _ (.head _)).1
    dsimp only at k0
    clear hSw
    go_simp
    try (with_reducible rfl)
  try simp only [Act.put, sA, sZ, sS]
  refine tk 6 ?_ rfl ?_ ?_; rotate_left; focus (intro w hSw; clear hSw; go_simp; try (with_reducible rfl))
  try simp only [Act.put, sA, sZ, sS]
  refine tk 7 ?_ rfl ?_ ?_; rotate_left; focus (intro w hSw; clear hSw; go_simp; try (with_reducible rfl))
  try simp only [Act.put, sA, sZ, sS]
  refine tk 8 ?_ rfl ?_ ?_; rotate_left; focus (intro w hSw; clear hSw; go_simp; try (with_reducible rfl))
  try simp only [Act.put, sA, sZ, sS]
  refine tk 9 ?_ rfl ?_ ?_; rotate_left; focus (intro w hSw; clear hSw; go_simp; try (with_reducible rfl))
  try simp only [Act.put, sA, sZ, sS]
  refine wpAnyH_ready (rs := [10]) (by kernel_rfl) (by simp) ?_
  refine AllReadyH.cons (List.getElem?_toArray.trans rfl) (fun K hK => ?_) AllReadyH.nil
  obtain ⟨s0, s1, s2⟩ := Vwh.out.cell (i := 3) (it := sgv (some ⟨bb, 0, none⟩) n2 c2 vs2 L2) rfl (g := bb) (cap := c2) rfl a0
  have VC := Lib.hid (Vwh.out.store (i := 3) (it := sgv (some ⟨bb, 0, none⟩) n2 c2 vs2 L2) rfl (g := bb) (cap := c2) rfl (kk2 * 4) (.string ⟨#[99, 104, 97, 110, 103, 101, 100]⟩))
  go_simp
  refine hK.out _ _ (List.forall_mem_cons.2 ⟨⟨(VC.out.box_at (i := 0) (j := 1) rfl rfl).1, (VC.out.box_at (i := 0) (j := 1) rfl rfl).2.2⟩, fun _ h => by simp at h⟩) (fun hHeld => ?_)
  clear hK K
  try simp only [Act.put, sA, sZ, sS]
  refine wpAnyH_done (by kernel_rfl) ?_ _
  clear hHeld
  go_wp2_with fail
  refine (C1.out _ (HM.out.below VC.out.below)).mono ?_
  rintro e x1 ⟨A5, n5, c5, vs5, p5, rfl, hn, hvs, hpool, hp⟩
  obtain rfl : n = n5 := HL.out.symm.trans hn
  have BX1 := Lib.hid (btwo VC.out.below hp.below)
  have S1 := Lib.hid (sg_pool hp hvs hpool)
  clear hn hvs hpool hp
  go_wp2_with fail
  refine (C3.out _).mono ?_
  rintro e x2 ⟨A6, n6, c6, vs6, p6, rfl, hn, hvs, hpool, hp⟩
  obtain rfl : n = n6 := HL.out.symm.trans hn
  have BX2 := Lib.hid (btwo BX1.out hp.below)
  have S2 := Lib.hid (S1.out.below hp.below)
  have S3 := Lib.hid (sg_pool hp hvs hpool)
  clear hn hvs hpool hp
  go_wp2_with fail
  refine (rsameO_refl N1 L1 A5 A6 n c5 c6 _ HL.out (by omega) (SgBd.ok HV1.out) S2.out S3.out).mono ?_
  rintro e x3 ⟨rfl, hb⟩
  have BX3 := Lib.hid (btwo BX2.out hb)
  clear hb
  go_wp2_with fail
  refine (C2.out _ (HM.out.below BX3.out)).mono ?_
  rintro e x4 ⟨A7, n7, c7, vs7, p7, rfl, hn, hvs, hpool, hp⟩
  obtain rfl : n2 = n7 := HL2.out.symm.trans hn
  have BX4 := Lib.hid (btwo BX3.out hp.below)
  have S4 := Lib.hid (sg_pool hp hvs hpool)
  clear hn hvs hpool hp
  go_wp2_with fail
  refine (C4.out _).mono ?_
  rintro e x5 ⟨A8, n8, c8, vs8, p8, rfl, hn, hvs, hpool, hp⟩
  obtain rfl : n2 = n8 := HL2.out.symm.trans hn
  have BX5 := Lib.hid (btwo BX4.out hp.below)
  have S5 := Lib.hid (S4.out.below hp.below)
  have S6 := Lib.hid (sg_pool hp hvs hpool)
  clear hn hvs hpool hp
  go_wp2_with fail
  refine (rsameO_refl N2 L2 A7 A8 n2 c7 c8 _ HL2.out (by omega) (SgBd.ok HV2.out) S5.out S6.out).mono ?_
  rintro e x6 ⟨rfl, hb⟩
  have BX6 := Lib.hid (btwo BX5.out hb)
  clear hb
  go_wp2_with fail
  go_ret
  exact ⟨rfl, BX6.out⟩
theorem lawfixed_int (z : Int) (w : World) (h0 : 0 ≤ z) (h1 : z ≤ 255) (hm : MaxAt w) :
    Calls Tryz.prog 3 #[.int .u8 z] w fun e w' => e = .returned (.bool true) ∧ Below w.heap.size w w' := by
  obtain ⟨q, rfl⟩ := Int.eq_ofNat_of_zero_le h0
  exact lawfixed_any q w (by omega) hm
end Go.Proofs.YtfgnekbkcmpdiaaGreatDoor
