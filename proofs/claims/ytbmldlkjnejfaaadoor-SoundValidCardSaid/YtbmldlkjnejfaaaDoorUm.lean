/- What the statement SoundValid answers: true, whatever the input. -/
import Derived.Test.YtbmldlkjnejfaaaDoorUe
import Derived.Test.YtbmldlkjnejfaaaDoorUk
namespace Go.Proofs.YtbmldlkjnejfaaaDoor
open Go.RowKit
set_option linter.unusedVariables false
set_option linter.unusedSimpArgs false
set_option maxRecDepth 100000

theorem cells_one (x : Snd) (w : World) : CellsIn (w.alloc (.cells #[.int .i64 x.k, .int .i64 x.q, .string (bs x.t)] 23)) (some ⟨w.heap.size, 0, none⟩) (sndsC [x]) :=
  ((Hp.start w).lit 23 3 1 (sndsC [x]) rfl (by decide)).cells (i := 0) (A := some ⟨w.heap.size, 0, none⟩) (c := 1) rfl rfl
set_option maxHeartbeats 8000000 in
theorem lawvalid_any (x : Snd) (w : World) (hx : x.t.length ≤ 140737488355328) (hm : MaxAt w) :
    Calls Tryd.prog 3 #[.agg #[.int .i64 x.k, .int .i64 x.q, .string (bs x.t)]] w fun e w' => e = .returned (.bool true) ∧ Below w.heap.size w w' := by
  have BX := Lib.hid (box_cells w x)
  have HM := Lib.hid (hm.below (bnew w (.cells #[.int .i64 x.k, .int .i64 x.q, .string (bs x.t)] 23)))
  cases hf : fewB [x] 1 with
  | false =>
    have HF := Lib.hid hf
    clear hf hm
    go_enter Tryd.func3, Tryd.ntmps3
    go_wp2_with fail
    refine (awake_any _ HM.out).mono ?_
    rintro e w1 ⟨rfl, hb1⟩
    have B1 := Lib.hid (btwo (bnew _ _) hb1)
    have HM1 := Lib.hid (HM.out.below hb1)
    obtain ⟨b0, b1, b2⟩ := kept_cells BX.out (by simp) hb1
    have hl : w.heap.size < w1.heap.size := by have := hb1.size; simp at this; omega
    clear hb1
    go_wp2_with fail
    refine (few_any [x] 1 1 1 _ _ rfl (by decide) (by decide) (fun y hy => by rw [List.mem_singleton.1 hy]; exact hx) (cells_one x w1)).mono ?_
    rintro e w2 ⟨rfl, rfl⟩
    rw [HF.out]
    have HM2 := Lib.hid (HM1.out.below (bnew w1 (.cells #[.int .i64 x.k, .int .i64 x.q, .string (bs x.t)] 23)))
    go_wp2_with fail
    refine (awake_any _ HM2.out).mono ?_
    rintro e w3 ⟨rfl, hb3⟩
    go_wp2_with fail
    go_ret
    exact ⟨rfl, btwo (btwo B1.out (bnew _ _)) hb3⟩
  | true =>
    have HF := Lib.hid hf
    clear hf hm
    go_enter Tryd.func3, Tryd.ntmps3
    go_wp2_with fail
    refine (awake_any _ HM.out).mono ?_
    rintro e w1 ⟨rfl, hb1⟩
    have B1 := Lib.hid (btwo (bnew _ _) hb1)
    have C1 := Lib.hid (kept_cells BX.out (by simp) hb1)
    obtain ⟨b0, b1, b2⟩ := C1.out
    have hl : w.heap.size < w1.heap.size := by have := hb1.size; simp at this; omega
    clear hb1
    go_wp2_with fail
    refine (few_any [x] 1 1 1 _ _ rfl (by decide) (by decide) (fun y hy => by rw [List.mem_singleton.1 hy]; exact hx) (cells_one x w1)).mono ?_
    rintro e w2 ⟨rfl, rfl⟩
    rw [HF.out]
    obtain ⟨wz, hwz⟩ : ∃ wz, wz = w1.alloc (.cells #[.int .i64 x.k, .int .i64 x.q, .string (bs x.t)] 23) := ⟨_, rfl⟩
    have HZ := Lib.hid hwz
    have C2 := Lib.hid (show wz.cell? ⟨w.heap.size, 0, none⟩ = some (.int .i64 x.k) ∧ wz.cell? ⟨w.heap.size, 1, none⟩ = some (.int .i64 x.q) ∧ wz.cell? ⟨w.heap.size, 2, none⟩ = some (.string (bs x.t)) by rw [hwz]; exact kept_cells C1.out hl (bnew _ _))
    have B2 := Lib.hid (show Below w.heap.size w wz by rw [hwz]; exact btwo B1.out (bnew _ _))
    have hlz : w.heap.size < wz.heap.size := by rw [hwz]; simp; omega
    clear hwz b0 b1 b2
    obtain ⟨v, hv⟩ : ∃ v, v = vS x := ⟨_, rfl⟩
    have HV := Lib.hid hv
    obtain ⟨u, hu⟩ : ∃ u, u = nuc x := ⟨_, rfl⟩
    have HU := Lib.hid hu
    clear hv hu
    go_upto_region 3 with fail
    rw [← HZ.out]
    have hKp : Keep [(⟨w.heap.size, 0, none⟩, .int .i64 x.k), (⟨w.heap.size, 1, none⟩, .int .i64 x.q), (⟨w.heap.size, 2, none⟩, .string (bs x.t))] wz := List.forall_mem_cons.2 ⟨⟨C2.out.1, hlz⟩, List.forall_mem_cons.2 ⟨⟨C2.out.2.1, hlz⟩, List.forall_mem_cons.2 ⟨⟨C2.out.2.2, hlz⟩, fun _ h => by simp at h⟩⟩⟩
    refine wp_region_held_drew (S := Keep _) (by kernel_rfl) hKp.drew (fun hHeld => ?_)
    refine tk 0 ?_ rfl ?_ ?_; rotate_left
    · intro wl hSw
      have hSw : Keep _ wl := hSw
      have k0 := (hSw _ (.head _)).1
      have k1 := (hSw _ (.tail _ (.head _))).1
      have k2 := (hSw _ (.tail _ (.tail _ (.head _)))).1
      dsimp only at k0 k1 k2
      clear hSw
      go_simp
      try (with_reducible rfl)
    try simp only [Act.put, sA, sZ, sS]
    refine tk 2 ?_ rfl ?_ ?_; rotate_left
    · intro wl hSw
      have hSw : Keep _ wl := hSw
      have k0 := (hSw _ (.head _)).1
      have k1 := (hSw _ (.tail _ (.head _))).1
      have k2 := (hSw _ (.tail _ (.tail _ (.head _)))).1
      dsimp only at k0 k1 k2
      clear hSw
      go_simp
      try (with_reducible rfl)
    try simp only [Act.put, sA, sZ, sS]
    refine wpAnyH_ready (rs := [1]) (by kernel_rfl) (by simp) ?_
    refine AllReadyH.cons (List.getElem?_toArray.trans rfl) (fun K hK => ?_) AllReadyH.nil
    go_simp
    refine (valid_any x _ hx).mono ?_
    rintro e w4 ⟨rfl, hb4⟩
    rw [← HV.out]
    have B4 := Lib.hid (btwo (btwo B2.out (bdrew _)) hb4)
    try go_wp2_with fail
    refine hK.out _ _ (hHeld.go hb4) (fun hHeld => ?_)
    clear hK K
    try simp only [Act.put, sA, sZ, sS]
    refine wpAnyH_ready (rs := [3]) (by kernel_rfl) (by simp) ?_
    refine AllReadyH.cons (List.getElem?_toArray.trans rfl) (fun K hK => ?_) AllReadyH.nil
    go_simp
    refine (rvalid_any x _ hx).mono ?_
    rintro e w5 ⟨rfl, hb5⟩
    rw [← HV.out]
    have B5 := Lib.hid (btwo B4.out hb5)
    try go_wp2_with fail
    refine hK.out _ _ (hHeld.go hb5) (fun hHeld => ?_)
    clear hK K
    try simp only [Act.put, sA, sZ, sS]
    refine tk 4 ?_ rfl ?_ ?_; rotate_left; focus (intro w hSw; clear hSw; go_simp; try (with_reducible rfl))
    try simp only [Act.put, sA, sZ, sS]
    refine tk 5 ?_ rfl ?_ ?_; rotate_left; focus (intro w hSw; clear hSw; go_simp; try (with_reducible rfl))
    try simp only [Act.put, sA, sZ, sS]
    refine tk 6 ?_ rfl ?_ ?_; rotate_left
    · intro wl hSw
      have hSw : Keep _ wl := hSw
      have k0 := (hSw _ (.head _)).1
      have k1 := (hSw _ (.tail _ (.head _))).1
      have k2 := (hSw _ (.tail _ (.tail _ (.head _)))).1
      dsimp only at k0 k1 k2
      clear hSw
      go_simp
      try (with_reducible rfl)
    try simp only [Act.put, sA, sZ, sS]
    refine tk 8 ?_ rfl ?_ ?_; rotate_left
    · intro wl hSw
      have hSw : Keep _ wl := hSw
      have k0 := (hSw _ (.head _)).1
      have k1 := (hSw _ (.tail _ (.head _))).1
      have k2 := (hSw _ (.tail _ (.tail _ (.head _)))).1
      dsimp only at k0 k1 k2
      clear hSw
      go_simp
      try (with_reducible rfl)
    try simp only [Act.put, sA, sZ, sS]
    refine wpAnyH_ready (rs := [7]) (by kernel_rfl) (by simp) ?_
    refine AllReadyH.cons (List.getElem?_toArray.trans rfl) (fun K hK => ?_) AllReadyH.nil
    go_simp
    refine (nucleus_any x _).mono ?_
    rintro e w6 ⟨rfl, hb6⟩
    rw [← HU.out]
    have B6 := Lib.hid (btwo B5.out hb6)
    try go_wp2_with fail
    refine hK.out _ _ (hHeld.go hb6) (fun hHeld => ?_)
    clear hK K
    try simp only [Act.put, sA, sZ, sS]
    refine wpAnyH_ready (rs := [9]) (by kernel_rfl) (by simp) ?_
    refine AllReadyH.cons (List.getElem?_toArray.trans rfl) (fun K hK => ?_) AllReadyH.nil
    go_simp
    refine (rnucleus_any x _).mono ?_
    rintro e w7 ⟨rfl, hb7⟩
    rw [← HU.out]
    have B7 := Lib.hid (btwo B6.out hb7)
    try go_wp2_with fail
    refine hK.out _ _ (hHeld.go hb7) (fun hHeld => ?_)
    clear hK K
    try simp only [Act.put, sA, sZ, sS]
    refine tk 10 ?_ rfl ?_ ?_; rotate_left; focus (intro w hSw; clear hSw; go_simp; try (with_reducible rfl))
    try simp only [Act.put, sA, sZ, sS]
    refine tk 11 ?_ rfl ?_ ?_; rotate_left; focus (intro w hSw; clear hSw; go_simp; try (with_reducible rfl))
    try simp only [Act.put, sA, sZ, sS]
    refine tk 12 ?_ rfl ?_ ?_; rotate_left; focus (intro w hSw; clear hSw; go_simp; try (with_reducible rfl))
    try simp only [Act.put, sA, sZ, sS]
    refine wpAnyH_done (by kernel_rfl) ?_ _
    go_wp2_with fail
    go_ret
    exact ⟨rfl, B7.out⟩
end Go.Proofs.YtbmldlkjnejfaaaDoor
