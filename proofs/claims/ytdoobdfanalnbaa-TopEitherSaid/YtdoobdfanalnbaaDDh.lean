/- Contract of the program: a check of a cut. -/
import Derived.Test.YtdoobdfanalnbaaDDg
import Derived.Deep.RegionLaw
namespace Go.Proofs.Ytdoobdfanalnbaa
open Go.RowKit
set_option linter.unusedVariables false
set_option linter.unusedSimpArgs false
set_option maxRecDepth 100000

set_option maxHeartbeats 16000000 in
theorem checkCut_any (g : Gr) (A B : Option Addr) (n c m d : Nat) (L : List Int) (w : World) (h : GrIn w A n c g) (hL : L.length = m) (hb : m ≤ 17592186044416) (hB : CellsIn w B (ints L)) :
    Calls Try.prog 46 #[gval g A n c, .slice B m d] w fun e w' => e = .returned (.bool (g.ccV L)) ∧ Below w.heap.size w w' := by
  have H := Lib.hid h
  have HB := Lib.hid hB
  have HL := Lib.hid hL
  clear h hB hL
  obtain ⟨wz, hwz⟩ : ∃ z, z = w.alloc (.cells #[.int .i64 g.n, .slice A n c] 24) := ⟨_, rfl⟩
  have HZ := Lib.hid hwz
  have V := Lib.hid (show Hp w [gbox w.heap.size g A n c] wz by rw [hwz]; exact (Hp.start w).gnew g A n c)
  clear hwz
  go_enter Try.func46, Try.ntmps46
  go_upto_region 1 with fail
  rw [← HZ.out]
  clear HZ
  obtain ⟨r0, r1, r9⟩ := V.out.gb (i := 0) rfl
  go_wp2_with fail
  refine (valid_any g A n c _ (H.out.below V.out.below)).mono ?_
  rintro e w1 ⟨rfl, b1⟩
  have V1 := Lib.hid (V.out.go b1)
  clear b1 r0 r1 r9 V
  obtain ⟨r0, r1, r9⟩ := V1.out.gb (i := 0) rfl
  by_cases hv : g.vE = 0
  case neg =>
    have HE := Lib.hid (cc_bad (l := L) hv)
    have g1 : (g.vE != 0) = true := bne_yes hv
    have g2 : (g.vE == 0) = false := beq_no hv
    clear hv
    go_wp2_with fail
    go_ret
    exact ⟨ret_bool HE.out.symm, V1.out.below⟩
  have HV := Lib.hid hv
  have HO := Lib.hid (Gr.ok hv)
  rw [hv]
  clear hv
  go_wp2_with fail
  refine (nodelist_any g A B n c m d L _ HL.out hb (HB.out.below V1.out.below)).mono ?_
  rintro e w2 ⟨rfl, b2⟩
  have V2 := Lib.hid (V1.out.go b2)
  clear b2 r0 r1 r9 V1
  obtain ⟨x, hx⟩ : ∃ x, x = nlB g.n L := ⟨_, rfl⟩
  rw [← hx]
  cases x with
  | false =>
    have HE := Lib.hid (cc_nl (l := L) hx.symm)
    clear hx
    go_wp2_with fail
    go_ret
    exact ⟨ret_bool HE.out.symm, V2.out.below⟩
  | true =>
  have HNL := Lib.hid hx.symm
  clear hx
  obtain ⟨N, hN⟩ : ∃ N, N = g.n.toNat := ⟨_, rfl⟩
  have n1 := HO.out.n1
  have n2 := HO.out.n2
  have hN1 : 1 ≤ N := by omega
  have hN0 : 0 < N := by omega
  have hN2 : N ≤ 2000 := by omega
  have hnl : n ≤ 6000 := by have := HO.out.len; have := H.out.len; omega
  have hgN : g.n = (N : Int) := by omega
  have HGN := Lib.hid hgN
  have HN := Lib.hid hN
  obtain ⟨E, hE⟩ : ∃ E, E = N - 1 := ⟨_, rfl⟩
  have hEN : E < N := by omega
  have HEN := Lib.hid (show g.n - 1 = (E : Int) by omega)
  have HEND := Lib.hid (show ∀ W, Calls Try.prog 62 #[gval g A n c] W fun e w' => e = .returned (.int .i64 (E : Int)) ∧ Below W.heap.size W w' from fun W => by
    have := end_any g A n c W n1 n2
    rwa [HEN.out] at this)
  have HXS := Lib.hid (show ∀ (k : Nat) x, L[k]? = some x → 0 ≤ x ∧ x < (N : Int) from fun k x hk => by
    have := (of_decide_eq_true HNL.out).1 x (List.mem_of_getElem? hk)
    omega)
  obtain ⟨r0, r1, r9⟩ := V2.out.gb (i := 0) rfl
  have hmk := fun w => make_bools g.n N hgN (by omega) w
  obtain ⟨wy, hwy⟩ : ∃ z, z = w2.alloc (.cells (Array.replicate N (.bool false)) 4) := ⟨_, rfl⟩
  have HY := Lib.hid hwy
  have VY := Lib.hid (show Hp w [flags (some ⟨w2.heap.size, 0, none⟩) N N (List.replicate N false), gbox w.heap.size g A n c] wy by
    rw [hwy]; exact V2.out.made_flagsA N (by omega))
  obtain ⟨wx, hwx⟩ : ∃ z, z = wy.alloc (.cells #[.slice (some ⟨w2.heap.size, 0, none⟩) N N] 76) := ⟨_, rfl⟩
  have HX := Lib.hid hwx
  have VX := Lib.hid (show Hp w [box 76 wy.heap.size [.slice (some ⟨w2.heap.size, 0, none⟩) N N], flags (some ⟨w2.heap.size, 0, none⟩) N N (marks N (L.take 0)), gbox w.heap.size g A n c] wx by
    rw [hwx]; exact VY.out.box_new _ _)
  have HSZ := Lib.hid (show wy.heap.size = w2.heap.size + 1 by rw [hwy]; unfold World.alloc; exact Array.size_push ..)
  rw [HSZ.out] at VX
  clear hN hE hgN hwy hwx VY
  go_upto_region 4 with fail
  rw [← HY.out, ← HX.out]
  clear HY HX HSZ hmk r0 r1 r9
  obtain ⟨gm, hgm⟩ : ∃ gm, gm = w2.heap.size := ⟨_, rfl⟩
  rw [← hgm] at VX ⊢
  obtain ⟨gb, hgb⟩ : ∃ gb, gb = gm + 1 := ⟨_, rfl⟩
  rw [← hgb] at VX ⊢
  clear hgm hgb V2
  go_wp2_with fail
  go_loopw [23] (fun cv wr => ∃ k : Nat, cv = .int .i64 (k : Int) ∧ k ≤ m ∧ Hp w [box 76 gb [.slice (some ⟨gm, 0, none⟩) N N], flags (some ⟨gm, 0, none⟩) N N (marks N (L.take k)), gbox w.heap.size g A n c] wr) (fun cv _ => m - (intOf cv).toNat)
  case atStart => exact ⟨0, rfl, Nat.zero_le _, VX.out⟩
  case round =>
    clear VX
    obtain ⟨k, rfl, hkm, hV⟩ := hrel
    obtain ⟨wi, rfl⟩ : ∃ wi : World, wi = wr := ⟨_, rfl⟩
    have V := Lib.hid hV
    clear hV
    by_cases hlt : k < m
    · obtain ⟨b, off, rfl, hbl, hc⟩ := (HB.out.below V.out.below).int (j := k) (by rw [HL.out]; exact hlt)
      obtain ⟨x, hx⟩ : ∃ x, x = L.getD k 0 := ⟨_, rfl⟩
      rw [← hx] at hc
      have hX : L[k]? = some x := by rw [hx, List.getD_eq_getElem?_getD, List.getElem?_eq_getElem (by rw [HL.out]; exact hlt)]; rfl
      obtain ⟨x0, x1⟩ := HXS.out k x hX
      obtain ⟨X, rfl⟩ := Int.eq_ofNat_of_zero_le x0
      have hXN : X < N := by omega
      have HNEW := Lib.hid (show (marks N (L.take k)).set X true = marks N (L.take (k + 1)) from marks_take hX)
      obtain ⟨q0, _, q9⟩ := V.out.box_at (i := 0) (j := 0) rfl rfl
      obtain ⟨y1, y2, y3⟩ := V.out.flag_at (i := 1) rfl (j := X) (by rw [marks_len]; exact hXN)
      have V5 := V.out.flag_set (i := 1) rfl X true
      rw [HNEW.out] at V5
      have V6 := Lib.hid V5
      clear hx hX x0 x1 V5
      go_wp2_with fail
      go_roundw
      case rel => exact ⟨k + 1, by go_num, by omega, V6.out⟩
      case measure => simp [intOf]; omega
    obtain rfl : k = m := by omega
    clear hkm hlt
    obtain ⟨F, hF⟩ : ∃ F, F = marks N L := ⟨_, rfl⟩
    have HF := Lib.hid hF
    have HFL := Lib.hid (show F.length = N by rw [hF, marks_len])
    have V3 := Lib.hid (show Hp w [box 76 gb [.slice (some ⟨gm, 0, none⟩) N N], flags (some ⟨gm, 0, none⟩) N N F, gbox w.heap.size g A n c] wi by
      have := V.out
      rwa [List.take_of_length_le (by rw [HL.out]; exact Nat.le_refl _), ← hF] at this)
    have HM0 := Lib.hid (show F.getD 0 false = decide ((0 : Int) ∈ L) by rw [hF]; exact marks_get (by omega) (nlB_pos HNL.out))
    have HME := Lib.hid (show F.getD E false = decide ((g.n - 1) ∈ L) by rw [hF, HEN.out]; exact marks_get hEN (nlB_pos HNL.out))
    obtain ⟨y, hy⟩ : ∃ y, y = g.rs.any (leaves F) := ⟨_, rfl⟩
    have HYA := Lib.hid hy
    have HCON := Lib.hid (show ∀ W, Hp w [box 76 gb [.slice (some ⟨gm, 0, none⟩) N N], flags (some ⟨gm, 0, none⟩) N N F, gbox w.heap.size g A n c] W → Calls Try.prog 91 #[.slice A n c, .func (.func 90) #[] #[.pointer (some ⟨gb, 0, none⟩)]] W fun e w' => e = .returned (.bool y) ∧ Below W.heap.size W w' from fun W hW => by
      rw [HYA.out]
      refine contains_arcs (fun W => W.cell? ⟨gb, 0, none⟩ = some (.slice (some ⟨gm, 0, none⟩) N N) ∧ CellsIn W (some ⟨gm, 0, none⟩) (bools F)) (fun w w' h hb => ⟨(hb.cell (p := ⟨gb, 0, none⟩) (World.block_lt_of_cell? w _ h.1)).trans h.1, h.2.below hb⟩) (leaves F) gb g.rs (fun W a hW ha => ?_) A n c W H.out.len hnl (H.out.below hW.below).arcs ⟨(hW.box_at (i := 0) (j := 0) rfl rfl).1, hW.cells (i := 1) rfl rfl⟩
      have har := HO.out.arc a ha
      have := HGN.out
      exact cclos_any F gb gm N a W hW.1 hW.2 HFL.out hN2 (by omega))
    obtain ⟨q0, _, q9⟩ := V3.out.box_at (i := 0) (j := 0) rfl rfl
    obtain ⟨p0, p1, p9⟩ := V3.out.gb (i := 2) rfl
    obtain ⟨m0, _, m9⟩ := V3.out.flag_at (i := 1) rfl (j := 0) (by rw [HFL.out]; omega)
    obtain ⟨mE, _, _⟩ := V3.out.flag_at (i := 1) rfl (j := E) (by rw [HFL.out]; exact hEN)
    obtain ⟨u, hu⟩ : ∃ u, u = F.getD 0 false := ⟨_, rfl⟩
    obtain ⟨v, hv⟩ : ∃ v, v = F.getD E false := ⟨_, rfl⟩
    rw [← hu] at m0
    rw [← hv] at mE
    clear V hF hy
    go_upto_region 10 with fail
    cases u with
    | false =>
      have HE := Lib.hid (cc_start (g := g) (l := L) (HM0.out.symm.trans hu.symm))
      clear hu hv HCON HEND
      have hKp : Keep [(⟨gb, 0, none⟩, .slice (some ⟨gm, 0, none⟩) N N), (⟨gm, 0, none⟩, .bool false), (⟨w.heap.size, 0, none⟩, .int .i64 g.n), (⟨w.heap.size, 1, none⟩, .slice A n c), (⟨gm, E, none⟩, .bool v)] wi := List.forall_mem_cons.2 ⟨⟨q0, q9⟩, List.forall_mem_cons.2 ⟨⟨m0, m9⟩, List.forall_mem_cons.2 ⟨⟨p0, p9⟩, List.forall_mem_cons.2 ⟨⟨p1, p9⟩, List.forall_mem_cons.2 ⟨⟨mE, m9⟩, fun _ h => by simp at h⟩⟩⟩⟩⟩
      refine wp_region_held_drew (S := Keep _) (by kernel_rfl) hKp.drew (fun hHeld => ?_)
      have V3d := Lib.hid (V3.out.go (bdrew _))
      refine tk 0 ?_ rfl ?_ ?_; rotate_left
      · intro wl hSw
        have hSw : Keep _ wl := hSw
        have k0 : wl.cell? ⟨gb, 0, none⟩ = some (.slice (some ⟨gm, 0, none⟩) N N) := (hSw _ (.head _)).1
        clear hSw
        go_simp
        try (with_reducible rfl)
      try simp only [Act.put, sA, sZ, sS]
      refine tk 1 ?_ rfl ?_ ?_; rotate_left; focus (intro w hSw; clear hSw; go_simp; try (with_reducible rfl))
      try simp only [Act.put, sA, sZ, sS]
      refine tk 2 ?_ rfl ?_ ?_; rotate_left
      · intro wl hSw
        have hSw : Keep _ wl := hSw
        have k0 : wl.cell? ⟨gm, 0, none⟩ = some (.bool false) := (hSw _ (.tail _ (.head _))).1
        clear hSw
        go_simp
        try (with_reducible rfl)
      try simp only [Act.put, sA, sZ, sS]
      refine tk 3 ?_ rfl ?_ ?_; rotate_left; focus (intro w hSw; clear hSw; go_simp; try (with_reducible rfl))
      try simp only [Act.put, sA, sZ, sS]
      refine tu 4 rfl ?_
      try simp only [Act.put, sA, sZ, sS]
      refine tu 5 rfl ?_
      try simp only [Act.put, sA, sZ, sS]
      refine tu 6 rfl ?_
      try simp only [Act.put, sA, sZ, sS]
      refine tu 7 rfl ?_
      try simp only [Act.put, sA, sZ, sS]
      refine tu 8 rfl ?_
      try simp only [Act.put, sA, sZ, sS]
      refine tu 9 rfl ?_
      try simp only [Act.put, sA, sZ, sS]
      refine tk 10 ?_ rfl ?_ ?_; rotate_left; focus (intro w hSw; clear hSw; go_simp; try (with_reducible rfl))
      try simp only [Act.put, sA, sZ, sS]
      refine tk 11 ?_ rfl ?_ ?_; rotate_left; focus (intro w hSw; clear hSw; go_simp; try (with_reducible rfl))
      try simp only [Act.put, sA, sZ, sS]
      refine tu 12 rfl ?_
      try simp only [Act.put, sA, sZ, sS]
      refine tu 13 rfl ?_
      try simp only [Act.put, sA, sZ, sS]
      refine tu 14 rfl ?_
      try simp only [Act.put, sA, sZ, sS]
      refine tu 15 rfl ?_
      try simp only [Act.put, sA, sZ, sS]
      refine tu 16 rfl ?_
      try simp only [Act.put, sA, sZ, sS]
      refine tk 17 ?_ rfl ?_ ?_; rotate_left; focus (intro w hSw; clear hSw; go_simp; try (with_reducible rfl))
      try simp only [Act.put, sA, sZ, sS]
      refine tk 18 ?_ rfl ?_ ?_; rotate_left; focus (intro w hSw; clear hSw; go_simp; try (with_reducible rfl))
      try simp only [Act.put, sA, sZ, sS]
      refine wpAnyH_done (by kernel_rfl) ?_ _
      go_wp2_with fail
      go_ret
      exact ⟨ret_bool HE.out.symm, V3d.out.below⟩
    | true =>
      cases v with
      | true =>
        have HE := Lib.hid (cc_end (g := g) (l := L) (HME.out.symm.trans hv.symm))
        clear hu hv HCON
        have hKp : Keep [(⟨gb, 0, none⟩, .slice (some ⟨gm, 0, none⟩) N N), (⟨gm, 0, none⟩, .bool true), (⟨w.heap.size, 0, none⟩, .int .i64 g.n), (⟨w.heap.size, 1, none⟩, .slice A n c), (⟨gm, E, none⟩, .bool true)] wi := List.forall_mem_cons.2 ⟨⟨q0, q9⟩, List.forall_mem_cons.2 ⟨⟨m0, m9⟩, List.forall_mem_cons.2 ⟨⟨p0, p9⟩, List.forall_mem_cons.2 ⟨⟨p1, p9⟩, List.forall_mem_cons.2 ⟨⟨mE, m9⟩, fun _ h => by simp at h⟩⟩⟩⟩⟩
        refine wp_region_held_drew (S := Keep _) (by kernel_rfl) hKp.drew (fun hHeld => ?_)
        have V3d := Lib.hid (V3.out.go (bdrew _))
        refine tk 0 ?_ rfl ?_ ?_; rotate_left
        · intro wl hSw
          have hSw : Keep _ wl := hSw
          have k0 : wl.cell? ⟨gb, 0, none⟩ = some (.slice (some ⟨gm, 0, none⟩) N N) := (hSw _ (.head _)).1
          clear hSw
          go_simp
          try (with_reducible rfl)
        try simp only [Act.put, sA, sZ, sS]
        refine tk 1 ?_ rfl ?_ ?_; rotate_left; focus (intro w hSw; clear hSw; go_simp; try (with_reducible rfl))
        try simp only [Act.put, sA, sZ, sS]
        refine tk 2 ?_ rfl ?_ ?_; rotate_left
        · intro wl hSw
          have hSw : Keep _ wl := hSw
          have k0 : wl.cell? ⟨gm, 0, none⟩ = some (.bool true) := (hSw _ (.tail _ (.head _))).1
          clear hSw
          go_simp
          try (with_reducible rfl)
        try simp only [Act.put, sA, sZ, sS]
        refine tk 3 ?_ rfl ?_ ?_; rotate_left; focus (intro w hSw; clear hSw; go_simp; try (with_reducible rfl))
        try simp only [Act.put, sA, sZ, sS]
        refine tk 4 ?_ rfl ?_ ?_; rotate_left
        · intro wl hSw
          have hSw : Keep _ wl := hSw
          have k0 : wl.cell? ⟨gb, 0, none⟩ = some (.slice (some ⟨gm, 0, none⟩) N N) := (hSw _ (.head _)).1
          clear hSw
          go_simp
          try (with_reducible rfl)
        try simp only [Act.put, sA, sZ, sS]
        refine tk 5 ?_ rfl ?_ ?_; rotate_left
        · intro wl hSw
          have hSw : Keep _ wl := hSw
          have k0 : wl.cell? ⟨w.heap.size, 0, none⟩ = some (.int .i64 g.n) := (hSw _ (.tail _ (.tail _ (.head _)))).1
          have k1 : wl.cell? ⟨w.heap.size, 1, none⟩ = some (.slice A n c) := (hSw _ (.tail _ (.tail _ (.tail _ (.head _))))).1
          clear hSw
          go_simp
          try (with_reducible rfl)
        try simp only [Act.put, sA, sZ, sS]
        refine wpAnyH_ready (rs := [6]) (by kernel_rfl) (by simp) ?_
        refine AllReadyH.cons (List.getElem?_toArray.trans rfl) (fun K hK => ?_) AllReadyH.nil
        go_simp
        refine (HEND.out _).mono ?_
        rintro e w_6 ⟨rfl, b_6⟩
        try go_wp2_with fail
        have V_6 := Lib.hid (V3d.out.go b_6)
        refine hK.out _ _ (hHeld.go b_6) (fun hHeld => ?_)
        clear hK K
        try simp only [Act.put, sA, sZ, sS]
        refine tk 7 ?_ rfl ?_ ?_; rotate_left; focus (intro w hSw; clear hSw; go_simp; try (with_reducible rfl))
        try simp only [Act.put, sA, sZ, sS]
        refine tk 8 ?_ rfl ?_ ?_; rotate_left
        · intro wl hSw
          have hSw : Keep _ wl := hSw
          have k0 : wl.cell? ⟨gm, E, none⟩ = some (.bool true) := (hSw _ (.tail _ (.tail _ (.tail _ (.tail _ (.head _)))))).1
          clear hSw
          go_simp
          try (with_reducible rfl)
        try simp only [Act.put, sA, sZ, sS]
        refine tk 9 ?_ rfl ?_ ?_; rotate_left; focus (intro w hSw; clear hSw; go_simp; try (with_reducible rfl))
        try simp only [Act.put, sA, sZ, sS]
        refine tk 10 ?_ rfl ?_ ?_; rotate_left; focus (intro w hSw; clear hSw; go_simp; try (with_reducible rfl))
        try simp only [Act.put, sA, sZ, sS]
        refine tk 11 ?_ rfl ?_ ?_; rotate_left; focus (intro w hSw; clear hSw; go_simp; try (with_reducible rfl))
        try simp only [Act.put, sA, sZ, sS]
        refine tu 12 rfl ?_
        try simp only [Act.put, sA, sZ, sS]
        refine tu 13 rfl ?_
        try simp only [Act.put, sA, sZ, sS]
        refine tu 14 rfl ?_
        try simp only [Act.put, sA, sZ, sS]
        refine tu 15 rfl ?_
        try simp only [Act.put, sA, sZ, sS]
        refine tu 16 rfl ?_
        try simp only [Act.put, sA, sZ, sS]
        refine tk 17 ?_ rfl ?_ ?_; rotate_left; focus (intro w hSw; clear hSw; go_simp; try (with_reducible rfl))
        try simp only [Act.put, sA, sZ, sS]
        refine tk 18 ?_ rfl ?_ ?_; rotate_left; focus (intro w hSw; clear hSw; go_simp; try (with_reducible rfl))
        try simp only [Act.put, sA, sZ, sS]
        refine wpAnyH_done (by kernel_rfl) ?_ _
        go_wp2_with fail
        go_ret
        exact ⟨ret_bool HE.out.symm, V_6.out.below⟩
      | false =>
        have HE := Lib.hid (show g.ccV L = !y by rw [HYA.out, HF.out]; exact cc_all HV.out HN.out HNL.out (HM0.out.symm.trans hu.symm) (HME.out.symm.trans hv.symm))
        clear hu hv
        have hKp : Keep [(⟨gb, 0, none⟩, .slice (some ⟨gm, 0, none⟩) N N), (⟨gm, 0, none⟩, .bool true), (⟨w.heap.size, 0, none⟩, .int .i64 g.n), (⟨w.heap.size, 1, none⟩, .slice A n c), (⟨gm, E, none⟩, .bool false)] wi := List.forall_mem_cons.2 ⟨⟨q0, q9⟩, List.forall_mem_cons.2 ⟨⟨m0, m9⟩, List.forall_mem_cons.2 ⟨⟨p0, p9⟩, List.forall_mem_cons.2 ⟨⟨p1, p9⟩, List.forall_mem_cons.2 ⟨⟨mE, m9⟩, fun _ h => by simp at h⟩⟩⟩⟩⟩
        refine wp_region_held_drew (S := Keep _) (by kernel_rfl) hKp.drew (fun hHeld => ?_)
        have V3d := Lib.hid (V3.out.go (bdrew _))
        refine tk 0 ?_ rfl ?_ ?_; rotate_left
        · intro wl hSw
          have hSw : Keep _ wl := hSw
          have k0 : wl.cell? ⟨gb, 0, none⟩ = some (.slice (some ⟨gm, 0, none⟩) N N) := (hSw _ (.head _)).1
          clear hSw
          go_simp
          try (with_reducible rfl)
        try simp only [Act.put, sA, sZ, sS]
        refine tk 1 ?_ rfl ?_ ?_; rotate_left; focus (intro w hSw; clear hSw; go_simp; try (with_reducible rfl))
        try simp only [Act.put, sA, sZ, sS]
        refine tk 2 ?_ rfl ?_ ?_; rotate_left
        · intro wl hSw
          have hSw : Keep _ wl := hSw
          have k0 : wl.cell? ⟨gm, 0, none⟩ = some (.bool true) := (hSw _ (.tail _ (.head _))).1
          clear hSw
          go_simp
          try (with_reducible rfl)
        try simp only [Act.put, sA, sZ, sS]
        refine tk 3 ?_ rfl ?_ ?_; rotate_left; focus (intro w hSw; clear hSw; go_simp; try (with_reducible rfl))
        try simp only [Act.put, sA, sZ, sS]
        refine tk 4 ?_ rfl ?_ ?_; rotate_left
        · intro wl hSw
          have hSw : Keep _ wl := hSw
          have k0 : wl.cell? ⟨gb, 0, none⟩ = some (.slice (some ⟨gm, 0, none⟩) N N) := (hSw _ (.head _)).1
          clear hSw
          go_simp
          try (with_reducible rfl)
        try simp only [Act.put, sA, sZ, sS]
        refine tk 5 ?_ rfl ?_ ?_; rotate_left
        · intro wl hSw
          have hSw : Keep _ wl := hSw
          have k0 : wl.cell? ⟨w.heap.size, 0, none⟩ = some (.int .i64 g.n) := (hSw _ (.tail _ (.tail _ (.head _)))).1
          have k1 : wl.cell? ⟨w.heap.size, 1, none⟩ = some (.slice A n c) := (hSw _ (.tail _ (.tail _ (.tail _ (.head _))))).1
          clear hSw
          go_simp
          try (with_reducible rfl)
        try simp only [Act.put, sA, sZ, sS]
        refine wpAnyH_ready (rs := [6]) (by kernel_rfl) (by simp) ?_
        refine AllReadyH.cons (List.getElem?_toArray.trans rfl) (fun K hK => ?_) AllReadyH.nil
        go_simp
        refine (HEND.out _).mono ?_
        rintro e w_6 ⟨rfl, b_6⟩
        try go_wp2_with fail
        have V_6 := Lib.hid (V3d.out.go b_6)
        refine hK.out _ _ (hHeld.go b_6) (fun hHeld => ?_)
        clear hK K
        try simp only [Act.put, sA, sZ, sS]
        refine tk 7 ?_ rfl ?_ ?_; rotate_left; focus (intro w hSw; clear hSw; go_simp; try (with_reducible rfl))
        try simp only [Act.put, sA, sZ, sS]
        refine tk 8 ?_ rfl ?_ ?_; rotate_left
        · intro wl hSw
          have hSw : Keep _ wl := hSw
          have k0 : wl.cell? ⟨gm, E, none⟩ = some (.bool false) := (hSw _ (.tail _ (.tail _ (.tail _ (.tail _ (.head _)))))).1
          clear hSw
          go_simp
          try (with_reducible rfl)
        try simp only [Act.put, sA, sZ, sS]
        refine tk 9 ?_ rfl ?_ ?_; rotate_left; focus (intro w hSw; clear hSw; go_simp; try (with_reducible rfl))
        try simp only [Act.put, sA, sZ, sS]
        refine tk 10 ?_ rfl ?_ ?_; rotate_left; focus (intro w hSw; clear hSw; go_simp; try (with_reducible rfl))
        try simp only [Act.put, sA, sZ, sS]
        refine tk 11 ?_ rfl ?_ ?_; rotate_left; focus (intro w hSw; clear hSw; go_simp; try (with_reducible rfl))
        try simp only [Act.put, sA, sZ, sS]
        refine tk 12 ?_ rfl ?_ ?_; rotate_left; focus (intro w hSw; clear hSw; go_simp; try (with_reducible rfl))
        try simp only [Act.put, sA, sZ, sS]
        refine tk 13 ?_ rfl ?_ ?_; rotate_left
        · intro wl hSw
          have hSw : Keep _ wl := hSw
          have k0 : wl.cell? ⟨w.heap.size, 1, none⟩ = some (.slice A n c) := (hSw _ (.tail _ (.tail _ (.tail _ (.head _))))).1
          clear hSw
          go_simp
          try (with_reducible rfl)
        try simp only [Act.put, sA, sZ, sS]
        refine tk 14 ?_ rfl ?_ ?_; rotate_left; focus (intro w hSw; clear hSw; go_simp; try (with_reducible rfl))
        try simp only [Act.put, sA, sZ, sS]
        refine wpAnyH_ready (rs := [15]) (by kernel_rfl) (by simp) ?_
        refine AllReadyH.cons (List.getElem?_toArray.trans rfl) (fun K hK => ?_) AllReadyH.nil
        go_simp
        refine (HCON.out _ V_6.out).mono ?_
        rintro e w_6_15 ⟨rfl, b_6_15⟩
        try go_wp2_with fail
        have V_6_15 := Lib.hid (V_6.out.go b_6_15)
        refine hK.out _ _ (hHeld.go b_6_15) (fun hHeld => ?_)
        clear hK K
        try simp only [Act.put, sA, sZ, sS]
        refine tk 16 ?_ rfl ?_ ?_; rotate_left; focus (intro w hSw; clear hSw; go_simp; try (with_reducible rfl))
        try simp only [Act.put, sA, sZ, sS]
        refine tk 17 ?_ rfl ?_ ?_; rotate_left; focus (intro w hSw; clear hSw; go_simp; try (with_reducible rfl))
        try simp only [Act.put, sA, sZ, sS]
        refine tk 18 ?_ rfl ?_ ?_; rotate_left; focus (intro w hSw; clear hSw; go_simp; try (with_reducible rfl))
        try simp only [Act.put, sA, sZ, sS]
        refine wpAnyH_done (by kernel_rfl) ?_ _
        go_wp2_with fail
        go_ret
        exact ⟨ret_bool HE.out.symm, V_6_15.out.below⟩
end Go.Proofs.Ytdoobdfanalnbaa
