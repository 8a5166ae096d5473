/- Contract of the program: the arcs that lead from each node. -/
import Derived.Test.YtgdfjblfpeedjaaDBc
import Derived.Test.YtgdfjblfpeedjaaDCa
import Derived.Deep.RegionLaw
namespace Go.Proofs.Ytgdfjblfpeedjaa
open Go.RowKit
set_option linter.unusedVariables false
set_option linter.unusedSimpArgs false
set_option maxRecDepth 100000

/-- What outgoing returns: a row of indices for each node. -/
def OutPost (g : Gr) (w : World) (e : Ending) (w' : World) : Prop := ∃ (go : Nat) (vs : List (Option Addr × Nat)), e = .returned (.slice (some ⟨go, 0, none⟩) g.n.toNat g.n.toNat) ∧ vs.length = g.n.toNat ∧
  Hp w (rvals (some ⟨go, 0, none⟩) g.n.toNat g.n.toNat vs (g.rowsK g.rs.length) :: rowsG vs (g.rowsK g.rs.length)) w'
set_option maxHeartbeats 32000000 in
theorem outgoing_any (g : Gr) (A : Option Addr) (n c : Nat) (w : World) (h : GrIn w A n c g) (hO : g.Ok) :
    Calls Try.prog 30 #[gval g A n c] w (OutPost g w) := by
  have H := Lib.hid h
  have hcs := h.small
  have hcn := h.cap
  have n1 := hO.n1
  have n2 := hO.n2
  have hnl : n ≤ 6000 := by have := hO.len; have := h.len; omega
  have HO := Lib.hid hO
  have HL := Lib.hid h.len
  clear h hO
  obtain ⟨N, hN⟩ : ∃ N, N = g.n.toNat := ⟨_, rfl⟩
  have HN := Lib.hid hN
  have hgN : g.n = (N : Int) := by omega
  have hN1 : 1 ≤ N := by omega
  have hN2 : N ≤ 2000 := by omega
  have HGN := Lib.hid hgN
  have HBX := Lib.hid (show ∀ W l w', Hp W l w' → Hp W (box 26 w'.heap.size [.int .i64 (N : Int), .slice A n c] :: l) (w'.alloc (.cells #[.int .i64 (N : Int), .slice A n c] 26)) from fun W l w' h => h.box_new _ _)
  rw [show gval g A n c = .agg #[.int .i64 (N : Int), .slice A n c] by rw [← hgN]]
  obtain ⟨wz, hwz⟩ : ∃ z, z = w.alloc (.cells #[.int .i64 (N : Int), .slice A n c] 26) := ⟨_, rfl⟩
  have HZ := Lib.hid hwz
  have V := Lib.hid (show Hp w [box 26 w.heap.size [.int .i64 (N : Int), .slice A n c]] wz by rw [hwz]; exact HBX.out _ _ _ (Hp.start w))
  clear hwz hN hgN n1 n2 HBX
  obtain ⟨wy, hwy⟩ : ∃ z, z = wz.alloc (.cells (Array.replicate N (.slice none 0 0)) 33) := ⟨_, rfl⟩
  have HY := Lib.hid hwy
  have VY := Lib.hid (show Hp w ([box 26 w.heap.size [.int .i64 (N : Int), .slice A n c], rvals (some ⟨wz.heap.size, 0, none⟩) N N (List.replicate N (none, 0)) (List.replicate N [])] ++ rowsG (List.replicate N (none, 0)) (List.replicate N [])) wy by
    rw [hwy, rowsG_nils]
    exact ((V.out.made_rowsA N (by omega)).pick [1, 0] (by decide) rfl).nils N)
  have hmk := fun w => make_rows (N : Int) N rfl (by omega) w
  clear hwy
  go_enter Try.func30, Try.ntmps30
  go_upto_region 1 with fail
  rw [← HZ.out]
  clear HZ
  obtain ⟨r0, _, r9⟩ := V.out.box_at (i := 0) (j := 0) rfl rfl
  go_upto_region 2 with fail
  rw [← HY.out]
  clear HY hmk r0 r9
  obtain ⟨r1, _, r9⟩ := VY.out.box_at (i := 0) (j := 1) rfl rfl
  go_wp2_with fail
  clear r1 r9
  have H1 := Lib.hid (show List.replicate N ([] : List Int) = g.rowsK 0 by rw [rowsK_zero, ← HN.out])
  have H2 := Lib.hid (show (List.replicate N ((none : Option Addr), 0)).length = N by simp)
  obtain ⟨go, hgo⟩ : ∃ go, go = wz.heap.size := ⟨_, rfl⟩
  rw [← hgo] at VY ⊢
  clear hgo V
  go_loopw [12] (fun cv wr => ∃ (k : Nat) (vs : List (Option Addr × Nat)), cv = .int .i64 (k : Int) ∧ k ≤ n ∧ vs.length = N ∧ Hp w ([box 26 w.heap.size [.int .i64 (N : Int), .slice A n c], rvals (some ⟨go, 0, none⟩) N N vs (g.rowsK k)] ++ rowsG vs (g.rowsK k)) wr) (fun cv _ => n - (intOf cv).toNat)
  case atStart => exact ⟨0, _, rfl, Nat.zero_le _, H2.out, by rw [← H1.out]; exact VY.out⟩
  case round =>
    clear H1 H2 VY
    obtain ⟨k, vs, rfl, hkn, hvs, hV⟩ := hrel
    obtain ⟨wi, rfl⟩ : ∃ wi : World, wi = wr := ⟨_, rfl⟩
    have V := Lib.hid hV
    have HVS := Lib.hid hvs
    clear hV hvs
    by_cases hlt : k < n
    case neg =>
      obtain rfl : k = n := by omega
      go_wp2_with fail
      go_ret
      refine ⟨go, vs, by rw [← HN.out]; rfl, by rw [← HN.out]; exact HVS.out, ?_⟩
      have := V.out.tail
      rw [← HN.out, HL.out]
      exact this
    obtain ⟨⟨f, t, q⟩, b, off, ha, _, hA, hb, c0, c1, c2⟩ := (H.out.below V.out.below).at hlt
    have har := HO.out.arc _ (List.mem_of_getElem? ha)
    dsimp only at har c0 c1 c2
    obtain ⟨hf0, hf1, hf2, hq0, hq1⟩ := har
    obtain ⟨F, rfl⟩ := Int.eq_ofNat_of_zero_le hf0
    have hFN : F < N := by have := HGN.out; omega
    have HFN := Lib.hid (show F < g.n.toNat by rw [← HN.out]; exact hFN)
    have HA := Lib.hid ha
    obtain ⟨v, hv⟩ : ∃ v, vs[F]? = some v := ⟨_, List.getElem?_eq_getElem (by rw [HVS.out]; exact hFN)⟩
    obtain ⟨row, hrow⟩ : ∃ row, row = outI (g.rs.take k) F := ⟨_, rfl⟩
    have hrl : row.length ≤ 6000 := by rw [hrow]; refine Nat.le_trans (outI_len _ _) ?_; rw [List.length_take]; omega
    have HG := Lib.hid (show (g.rowsK k)[F]? = some row by rw [hrow]; exact rowsK_get HFN.out k)
    have HST := Lib.hid (show (g.rowsK k).set F (row ++ [(k : Int)]) = g.rowsK (k + 1) by rw [hrow]; exact rowsK_step HA.out rfl HFN.out)
    have HV := Lib.hid hv
    obtain ⟨vA, vc⟩ := v
    obtain ⟨wy, hwy⟩ : ∃ z, z = wi.alloc (.cells #[.int .i64 (F : Int), .int .i64 t, .int .i64 q] 40) := ⟨_, rfl⟩
    have HY := Lib.hid hwy
    have VY := Lib.hid (show Hp w ([abox wi.heap.size ⟨(F : Int), t, q⟩, box 26 w.heap.size [.int .i64 (N : Int), .slice A n c], rvals (some ⟨go, 0, none⟩) N N vs (g.rowsK k)] ++ rowsG vs (g.rowsK k)) wy by rw [hwy]; exact V.out.anew ⟨(F : Int), t, q⟩)
    subst hA
    have hbig : k * 3 ≤ 20000 := by omega
    have hkn' : k ≤ 6000 := by omega
    have hgo := (V.out.rv_at (i := 1) rfl HV.out HG.out).2.2
    clear ha hwy hf1 hf2 hq0 hq1 hf0 hv hrow
    obtain ⟨r1, _, r9⟩ := V.out.box_at (i := 0) (j := 1) rfl rfl
    go_upto_region 5 with fail
    rw [← HY.out]
    clear HY r1 r9 V c0 c1 c2 hb
    obtain ⟨RL, hRL⟩ : ∃ RL, RL = row.length := ⟨_, rfl⟩
    have HRL := Lib.hid hRL
    rw [← hRL] at hrl
    clear hRL
    have hKp : Keep [(⟨wi.heap.size, 0, none⟩, .int .i64 (F : Int))] wy := List.forall_mem_cons.2 ⟨⟨(VY.out.box_at (i := 0) (j := 0) rfl rfl).1, (VY.out.box_at (i := 0) (j := 0) rfl rfl).2.2⟩, fun _ h => by simp at h⟩
    refine wp_region_held_drew (S := Keep _) (by kernel_rfl) hKp.drew (fun hHeld => ?_)
    have VYd := Lib.hid (VY.out.go (bdrew _))
    refine tk 0 ?_ rfl ?_ ?_; rotate_left; focus (intro w hSw; clear hSw; go_simp; try (with_reducible rfl))
    try simp only [Act.put, sA, sZ, sS]
    refine tk 1 ?_ rfl ?_ ?_; rotate_left; focus (intro w hSw; clear hSw; go_simp; try (with_reducible rfl))
    try simp only [Act.put, sA, sZ, sS]
    refine tk 2 ?_ rfl ?_ ?_; rotate_left
    · intro wl hSw
      have hSw : Keep _ wl := hSw
      have k0 : wl.cell? ⟨wi.heap.size, 0, none⟩ = some (.int .i64 (F : Int)) := (hSw _ (.head _)).1
      clear hSw
      go_simp
      try (with_reducible rfl)
    try simp only [Act.put, sA, sZ, sS]
    refine tk 3 ?_ rfl ?_ ?_; rotate_left; focus (intro w hSw; clear hSw; go_simp; try (with_reducible rfl))
    try simp only [Act.put, sA, sZ, sS]
    refine tk 4 ?_ rfl ?_ ?_; rotate_left; focus (intro w hSw; clear hSw; go_simp; try (with_reducible rfl))
    try simp only [Act.put, sA, sZ, sS]
    refine tk 5 ?_ rfl ?_ ?_; rotate_left
    · intro wl hSw
      have hSw : Keep _ wl := hSw
      have k0 : wl.cell? ⟨wi.heap.size, 0, none⟩ = some (.int .i64 (F : Int)) := (hSw _ (.head _)).1
      clear hSw
      go_simp
      try (with_reducible rfl)
    try simp only [Act.put, sA, sZ, sS]
    refine tk 6 ?_ rfl ?_ ?_; rotate_left; focus (intro w hSw; clear hSw; go_simp; try (with_reducible rfl))
    try simp only [Act.put, sA, sZ, sS]
    refine tk 8 ?_ rfl ?_ ?_; rotate_left; focus (intro w hSw; clear hSw; go_simp; try (with_reducible rfl))
    try simp only [Act.put, sA, sZ, sS]
    refine wpAnyH_ready (rs := [7, 9]) (by kernel_rfl) (by simp) ?_
    refine AllReadyH.cons (List.getElem?_toArray.trans rfl) (fun K hK => ?_) ?_
    · obtain ⟨x1, x2, x3⟩ := VYd.out.rv_at (i := 2) rfl HV.out HG.out
      rw [← HRL.out] at x1
      go_simp
      refine hK.out _ _ (hHeld) (fun hHeld => ?_)
      clear hK K
      try simp only [Act.put, sA, sZ, sS]
      refine wpAnyH_ready (rs := [9]) (by kernel_rfl) (by simp) ?_
      refine AllReadyH.cons (List.getElem?_toArray.trans rfl) (fun K hK => ?_) AllReadyH.nil
      obtain ⟨w_7_9, hw_7_9⟩ : ∃ z, z = (wy.alloc (.cells #[.int .i64 (k : Int)] 3)).drew := ⟨_, rfl⟩
      have V_7_9 := Lib.hid (show Hp _ (box 3 wy.heap.size [.int .i64 (k : Int)] :: _) w_7_9 by rw [hw_7_9]; exact VYd.out.box_new 3 [.int .i64 (k : Int)])
      have Bw_7_9 := Lib.hid (show Below wy.drew.heap.size wy.drew w_7_9 by rw [hw_7_9]; exact bnew _ _)
      go_simp
      rw [← hw_7_9]
      clear hw_7_9
      refine hK.out _ _ (hHeld.go Bw_7_9.out) (fun hHeld => ?_)
      clear hK K
      try simp only [Act.put, sA, sZ, sS]
      refine wpAnyH_ready (rs := [10]) (by kernel_rfl) (by simp) ?_
      refine AllReadyH.cons (List.getElem?_toArray.trans rfl) (fun K hK => ?_) AllReadyH.nil
      have y0 := (V_7_9.out.box_at (i := 0) (j := 0) rfl rfl).1
      obtain ⟨g4, cap4, w4, hr4, hv4, hg4⟩ := Hp.row_app (pre := [box 3 _ [.int .i64 (k : Int)], abox wi.heap.size ⟨(F : Int), t, q⟩, box 26 w.heap.size [.int .i64 (N : Int), .slice (some ⟨b, off, none⟩) n c], rvals (some ⟨go, 0, none⟩) N N vs (g.rowsK k)]) V_7_9.out HV.out HG.out 33 (k : Int) y0 (by rw [← HRL.out]; omega)
      rw [← HRL.out] at hr4
      dsimp only at hr4
      have V4 := Lib.hid (show Hp w ([abox wi.heap.size ⟨(F : Int), t, q⟩, box 26 w.heap.size [.int .i64 (N : Int), .slice (some ⟨b, off, none⟩) n c], rvals (some ⟨go, 0, none⟩) N N vs (g.rowsK k)] ++ rowsG (vs.set F (some ⟨g4, 0, none⟩, cap4)) ((g.rowsK k).set F (row ++ [(k : Int)]))) w4 from hv4.tail)
      refine step_app_run rfl (.tmp 24) (.tmp 26) 33 rfl hr4 rfl rfl ?_
      refine hK.out _ _ (List.forall_mem_cons.2 ⟨⟨(V4.out.box_at (i := 0) (j := 0) rfl rfl).1, (V4.out.box_at (i := 0) (j := 0) rfl rfl).2.2⟩, fun _ h => by simp at h⟩) (fun hHeld => ?_)
      clear hK K
      try simp only [Act.put, sA, sZ, sS]
      refine tk 11 ?_ rfl ?_ ?_; rotate_left; focus (intro w hSw; clear hSw; go_simp; try (with_reducible rfl))
      try simp only [Act.put, sA, sZ, sS]
      refine wpAnyH_ready (rs := [12]) (by kernel_rfl) (by simp) ?_
      refine AllReadyH.cons (List.getElem?_toArray.trans rfl) (fun K hK => ?_) AllReadyH.nil
      obtain ⟨x1, x2, x3⟩ := V4.out.rv_at (i := 2) rfl HV.out HG.out
      rw [← HRL.out] at x1
      have V5 := Lib.hid (show Hp w ([abox wi.heap.size ⟨(F : Int), t, q⟩, box 26 w.heap.size [.int .i64 (N : Int), .slice (some ⟨b, off, none⟩) n c], rvals (some ⟨go, 0, none⟩) N N (vs.set F (some ⟨g4, 0, none⟩, cap4)) ((g.rowsK k).set F (row ++ [(k : Int)]))] ++ rowsG (vs.set F (some ⟨g4, 0, none⟩, cap4)) ((g.rowsK k).set F (row ++ [(k : Int)]))) (w4.setCell ⟨go, F, none⟩ (.slice (some ⟨g4, 0, none⟩) (RL + 1) cap4)) by have hh := V4.out.rv_set (i := 2) rfl F (some ⟨g4, 0, none⟩) cap4 (row ++ [(k : Int)]); rw [List.length_append, ← HRL.out] at hh; exact hh)
      go_simp
      refine hK.out _ _ (hHeld.set _ _ _ (List.forall_mem_cons.2 ⟨(by show ¬ wi.heap.size = go; omega), fun _ h => by simp at h⟩)) (fun hHeld => ?_)
      clear hK K
      try simp only [Act.put, sA, sZ, sS]
      refine wpAnyH_done (by kernel_rfl) ?_ _
      rw [HST.out] at V5
      have V6 := Lib.hid V5.out.tail
      go_wp2_with fail
      go_roundw
      case rel => exact ⟨k + 1, _, by go_num, by omega, by rw [List.length_set]; exact HVS.out, V6.out⟩
      case measure => simp [intOf]; omega
    refine AllReadyH.cons (List.getElem?_toArray.trans rfl) (fun K hK => ?_) ?_
    · obtain ⟨w_9, hw_9⟩ : ∃ z, z = (wy.alloc (.cells #[.int .i64 (k : Int)] 3)).drew := ⟨_, rfl⟩
      have V_9 := Lib.hid (show Hp _ (box 3 wy.heap.size [.int .i64 (k : Int)] :: _) w_9 by rw [hw_9]; exact VYd.out.box_new 3 [.int .i64 (k : Int)])
      have Bw_9 := Lib.hid (show Below wy.drew.heap.size wy.drew w_9 by rw [hw_9]; exact bnew _ _)
      go_simp
      rw [← hw_9]
      clear hw_9
      refine hK.out _ _ (hHeld.go Bw_9.out) (fun hHeld => ?_)
      clear hK K
      try simp only [Act.put, sA, sZ, sS]
      refine wpAnyH_ready (rs := [7]) (by kernel_rfl) (by simp) ?_
      refine AllReadyH.cons (List.getElem?_toArray.trans rfl) (fun K hK => ?_) AllReadyH.nil
      obtain ⟨x1, x2, x3⟩ := V_9.out.rv_at (i := 3) rfl HV.out HG.out
      rw [← HRL.out] at x1
      go_simp
      refine hK.out _ _ (hHeld) (fun hHeld => ?_)
      clear hK K
      try simp only [Act.put, sA, sZ, sS]
      refine wpAnyH_ready (rs := [10]) (by kernel_rfl) (by simp) ?_
      refine AllReadyH.cons (List.getElem?_toArray.trans rfl) (fun K hK => ?_) AllReadyH.nil
      have y0 := (V_9.out.box_at (i := 0) (j := 0) rfl rfl).1
      obtain ⟨g4, cap4, w4, hr4, hv4, hg4⟩ := Hp.row_app (pre := [box 3 _ [.int .i64 (k : Int)], abox wi.heap.size ⟨(F : Int), t, q⟩, box 26 w.heap.size [.int .i64 (N : Int), .slice (some ⟨b, off, none⟩) n c], rvals (some ⟨go, 0, none⟩) N N vs (g.rowsK k)]) V_9.out HV.out HG.out 33 (k : Int) y0 (by rw [← HRL.out]; omega)
      rw [← HRL.out] at hr4
      dsimp only at hr4
      have V4 := Lib.hid (show Hp w ([abox wi.heap.size ⟨(F : Int), t, q⟩, box 26 w.heap.size [.int .i64 (N : Int), .slice (some ⟨b, off, none⟩) n c], rvals (some ⟨go, 0, none⟩) N N vs (g.rowsK k)] ++ rowsG (vs.set F (some ⟨g4, 0, none⟩, cap4)) ((g.rowsK k).set F (row ++ [(k : Int)]))) w4 from hv4.tail)
      refine step_app_run rfl (.tmp 24) (.tmp 26) 33 rfl hr4 rfl rfl ?_
      refine hK.out _ _ (List.forall_mem_cons.2 ⟨⟨(V4.out.box_at (i := 0) (j := 0) rfl rfl).1, (V4.out.box_at (i := 0) (j := 0) rfl rfl).2.2⟩, fun _ h => by simp at h⟩) (fun hHeld => ?_)
      clear hK K
      try simp only [Act.put, sA, sZ, sS]
      refine tk 11 ?_ rfl ?_ ?_; rotate_left; focus (intro w hSw; clear hSw; go_simp; try (with_reducible rfl))
      try simp only [Act.put, sA, sZ, sS]
      refine wpAnyH_ready (rs := [12]) (by kernel_rfl) (by simp) ?_
      refine AllReadyH.cons (List.getElem?_toArray.trans rfl) (fun K hK => ?_) AllReadyH.nil
      obtain ⟨x1, x2, x3⟩ := V4.out.rv_at (i := 2) rfl HV.out HG.out
      rw [← HRL.out] at x1
      have V5 := Lib.hid (show Hp w ([abox wi.heap.size ⟨(F : Int), t, q⟩, box 26 w.heap.size [.int .i64 (N : Int), .slice (some ⟨b, off, none⟩) n c], rvals (some ⟨go, 0, none⟩) N N (vs.set F (some ⟨g4, 0, none⟩, cap4)) ((g.rowsK k).set F (row ++ [(k : Int)]))] ++ rowsG (vs.set F (some ⟨g4, 0, none⟩, cap4)) ((g.rowsK k).set F (row ++ [(k : Int)]))) (w4.setCell ⟨go, F, none⟩ (.slice (some ⟨g4, 0, none⟩) (RL + 1) cap4)) by have hh := V4.out.rv_set (i := 2) rfl F (some ⟨g4, 0, none⟩) cap4 (row ++ [(k : Int)]); rw [List.length_append, ← HRL.out] at hh; exact hh)
      go_simp
      refine hK.out _ _ (hHeld.set _ _ _ (List.forall_mem_cons.2 ⟨(by show ¬ wi.heap.size = go; omega), fun _ h => by simp at h⟩)) (fun hHeld => ?_)
      clear hK K
      try simp only [Act.put, sA, sZ, sS]
      refine wpAnyH_done (by kernel_rfl) ?_ _
      rw [HST.out] at V5
      have V6 := Lib.hid V5.out.tail
      go_wp2_with fail
      go_roundw
      case rel => exact ⟨k + 1, _, by go_num, by omega, by rw [List.length_set]; exact HVS.out, V6.out⟩
      case measure => simp [intOf]; omega
    exact AllReadyH.nil

end Go.Proofs.Ytgdfjblfpeedjaa
