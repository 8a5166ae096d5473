/- Contracts: Clusters of both sides. -/
import Derived.Test.YtbmldlkjnejfaaaDoorUf
namespace Go.Proofs.YtbmldlkjnejfaaaDoor
open Go.RowKit
set_option linter.unusedVariables false
set_option linter.unusedSimpArgs false
set_option maxRecDepth 100000

theorem clu_yes (L : List Snd) {x : Snd} (h : nuc x = true) : cluL (L ++ [x]) = cluL L ++ [[]] := by
  unfold cluL splL
  rw [splS_snoc]
  unfold stepG
  rw [if_pos h]
theorem clu_no (L : List Snd) {x : Snd} {q : Nat} (h : nuc x = false) (hq : (cluL L).length = q + 1) : ∃ u, (cluL L)[q]? = some u ∧ u.length ≤ L.length ∧ cluL (L ++ [x]) = (cluL L).set q (u ++ [x]) := by
  have hl : (splS nuc L).1.length = q := by unfold cluL splL at hq; simpa using hq
  have hm : (splS nuc L).2 ∈ splL nuc L := by unfold splL; simp
  refine ⟨(splS nuc L).2, ?_, spl_size nuc hm, ?_⟩
  · unfold cluL splL; rw [List.getElem?_append_right (by omega), hl, Nat.sub_self]; rfl
  · unfold cluL splL
    rw [splS_snoc]
    unfold stepG
    rw [if_neg (by simp [h]), List.set_append_right _ _ (by omega), hl, Nat.sub_self]
    rfl
theorem clu_start : cluL [] = [[]] := rfl
def CluPost (L : List Snd) (w : World) (e : Ending) (w' : World) : Prop := ∃ A n c vs, e = .returned (.slice A n c) ∧ (cluL L).length = n ∧ vs.length = n ∧ Hp w (srv A n c vs (cluL L) :: srows vs (cluL L)) w'
set_option maxHeartbeats 8000000 in
theorem clusters_any (L : List Snd) (n c : Nat) (A : Option Addr) (w : World) (hl : L.length = n) (hn : n ≤ 1000000000000) (hA : CellsIn w A (sndsC L)) :
    Calls Tryd.prog 24 #[.slice A n c] w (CluPost L w) := by
  have HL := Lib.hid hl
  have HA := Lib.hid hA
  clear hl hA
  have V0 := Lib.hid (show Hp w (srv (some ⟨w.heap.size, 0, none⟩) 1 1 [(none, 0)] (cluL []) :: srows [(none, 0)] (cluL [])) (w.alloc (.cells #[.slice none 0 0] 26)) from ((Hp.start w).made_rows 1 (by decide)).nil_end (snds none 0 0 []) rfl rfl rfl)
  have hmk := fun w => make_srows (1 : Int) 1 rfl (by decide) w
  simp only [List.replicate_one] at hmk
  go_enter Tryd.func24, Tryd.ntmps24
  go_wp2
  go_loopw [3, 10] (fun v i wr => ∃ (k q d g0 : Nat) (vs : List (Option Addr × Nat)), k ≤ n ∧ q ≤ k ∧ i = .int .i64 k ∧ v = .slice (some ⟨g0, 0, none⟩) (q + 1) d ∧ (cluL (L.take k)).length = q + 1 ∧ vs.length = q + 1 ∧ Hp w (srv (some ⟨g0, 0, none⟩) (q + 1) d vs (cluL (L.take k)) :: srows vs (cluL (L.take k))) wr) (fun _ i _ => n - (intOf i).toNat)
  case atStart => exact ⟨0, 0, 1, w.heap.size, [(none, 0)], Nat.zero_le _, Nat.le_refl _, rfl, rfl, rfl, rfl, V0.out⟩
  case round =>
    clear V0
    obtain ⟨k, q, d, g0, vs, hk, hqk, rfl, rfl, hrl, hvl, hV⟩ := hrel
    have V := Lib.hid hV
    have HRL := Lib.hid hrl
    have HVL := Lib.hid hvl
    by_cases hlt : k < n
    · obtain ⟨x, hx⟩ := idx_lt HL.out hlt
      obtain ⟨b, off, rfl, hb, c0, c1, c2⟩ := (HA.out.below hV.below).snd hx
      have HX := Lib.hid hx
      clear hx hV hrl hvl
      obtain ⟨gb, hgb⟩ : ∃ gb, gb = wr.heap.size := ⟨_, rfl⟩
      have HGB := Lib.hid hgb
      have V1 := Lib.hid (show Hp w (sbox gb x :: (srv (some ⟨g0, 0, none⟩) (q + 1) d vs (cluL (L.take k)) :: srows vs (cluL (L.take k)))) (wr.alloc (.cells #[.int .i64 x.k, .int .i64 x.q, .string (bs x.t)] 23)) by rw [hgb]; exact V.out.sbox_new x)
      obtain ⟨d0, d1, d2⟩ := box_cells wr x
      clear hgb
      cases hnu : nuc x with
      | true =>
        have HNU := Lib.hid hnu
        have HS := Lib.hid (show cluL (L.take (k + 1)) = cluL (L.take k) ++ [[]] by rw [take_snoc HX.out, clu_yes _ hnu])
        clear hnu
        go_wp2_with fail
        refine (nucleus_any x _).mono ?_
        rintro e w1 ⟨rfl, hb1⟩
        rw [← HGB.out]
        have V2 := Lib.hid (V1.out.go hb1)
        clear hb1
        rw [HNU.out]
        obtain ⟨wy, hwy⟩ : ∃ z, z = w1.alloc (.cells #[.slice none 0 0] 26) := ⟨_, rfl⟩
        have V3 := Lib.hid (show Hp w (box 26 w1.heap.size [.slice none 0 0] :: (srv (some ⟨g0, 0, none⟩) (q + 1) d vs (cluL (L.take k)) :: srows vs (cluL (L.take k)))) wy by rw [hwy]; exact (V2.out.tail).box_new 26 [.slice none 0 0])
        have y0 := (V3.out.box_at (i := 0) (j := 0) rfl rfl).1
        obtain ⟨g5, cap5, w5, hr5, hv5, _⟩ := run_app_srv V3.out (i := 1) rfl (by rw [HVL.out, HRL.out]) 36 none 0 0 [] rfl y0 (by omega)
        have V4 := Lib.hid (show Hp w (srv (some ⟨g5, 0, none⟩) (q + 1 + 1) cap5 (vs ++ [(none, 0)]) (cluL (L.take k) ++ [[]]) :: srows (vs ++ [(none, 0)]) (cluL (L.take k) ++ [[]])) w5 by
          have h1 := (show Hp w (srv (some ⟨g5, 0, none⟩) (q + 1 + 1) cap5 (vs ++ [(none, 0)]) (cluL (L.take k) ++ [[]]) :: srows vs (cluL (L.take k))) w5 from hv5.tail).nil_end (snds none 0 0 []) rfl rfl rfl
          rw [srows_snoc none 0 [] (by rw [HVL.out, HRL.out])]
          exact h1)
        rw [← HS.out] at V4
        have HM3 := Lib.hid (show (cluL (L.take (k + 1))).length = q + 1 + 1 by rw [HS.out, List.length_append, HRL.out]; rfl)
        have HY := Lib.hid hwy
        have HR5 := Lib.hid hr5
        clear hwy y0 hv5 hr5
        go_wp2_with (at_builtin; rw [← HY.out]; refine wpList_app_run rfl (.tmp 16) (.tmp 17) 36 rfl HR5.out rfl rfl ?_)
        go_roundw
        case rel => exact ⟨k + 1, q + 1, cap5, g5, _, by omega, by omega, by go_num, rfl, HM3.out, by rw [List.length_append, HVL.out]; rfl, V4.out⟩
        case measure => simp [intOf]; omega
      | false =>
        have HNU := Lib.hid hnu
        obtain ⟨u, hu, hul, hset⟩ := clu_no (L.take k) hnu HRL.out
        rw [← take_snoc HX.out] at hset
        have HST := Lib.hid hset
        have HG := Lib.hid hu
        have hul2 : u.length ≤ k := by rw [List.length_take] at hul; omega
        obtain ⟨v, hv⟩ : ∃ v, vs[q]? = some v := get_at (by rw [HVL.out]; omega)
        have HV := Lib.hid hv
        obtain ⟨vA, vc⟩ := v
        clear hnu hu hul hset hv
        go_wp2_with fail
        refine (nucleus_any x _).mono ?_
        rintro e w1 ⟨rfl, hb1⟩
        rw [← HGB.out]
        have V2 := Lib.hid (V1.out.go hb1)
        clear hb1
        rw [HNU.out]
        go_upto_region 8 with fail
        obtain ⟨RL, hRL⟩ : ∃ RL, RL = u.length := ⟨_, rfl⟩
        have HRLu := Lib.hid hRL
        have hqlt : (q : Int) < (q : Int) + 1 := by omega
        have hq0 : (0 : Int) ≤ (q : Int) := by omega
        have hqw : IntKind.i64.wrap (q : Int) = (q : Int) := IntWalk.i64_in _ (by omega)
        rw [← hRL] at hul2
        clear hRL
        obtain ⟨wi, rfl⟩ : ∃ wi : World, wi = w1 := ⟨_, rfl⟩
        have hg0 : w.heap.size ≤ g0 := (V2.out.lt (i := 1) rfl (k := g0) rfl).1
        have hKp : Keep [(⟨gb, 0, none⟩, .int .i64 x.k), (⟨gb, 1, none⟩, .int .i64 x.q), (⟨gb, 2, none⟩, .string (bs x.t))] wi := by
          have hz := V2.out.sbox_at (i := 0) rfl
          exact List.forall_mem_cons.2 ⟨⟨hz.1, hz.2.2.2⟩, List.forall_mem_cons.2 ⟨⟨hz.2.1, hz.2.2.2⟩, List.forall_mem_cons.2 ⟨⟨hz.2.2.1, hz.2.2.2⟩, fun _ h => by simp at h⟩⟩⟩
        have hgb0 : ¬ gb = g0 := fun e => V2.out.sep 0 1 _ _ (by decide) rfl rfl g0 (by rw [← e]; rfl) rfl
        refine wp_region_held_drew (S := Keep _) (by kernel_rfl) hKp.drew (fun hHeld => ?_)
        have V2d := Lib.hid (V2.out.go (bdrew _))
        refine tk 0 ?_ rfl ?_ ?_; rotate_left; focus (intro w hSw; clear hSw; go_simp; try (with_reducible rfl))
        try simp only [Act.put, sA, sZ, sS]
        refine tk 1 ?_ rfl ?_ ?_; rotate_left; focus (intro w hSw; clear hSw; go_simp; try (with_reducible rfl))
        try simp only [Act.put, sA, sZ, sS]
        refine tk 2 ?_ rfl ?_ ?_; rotate_left; focus (intro w hSw; clear hSw; go_simp; try (with_reducible rfl))
        try simp only [Act.put, sA, sZ, sS]
        refine tk 3 ?_ rfl ?_ ?_; rotate_left; focus (intro w hSw; clear hSw; go_simp; try (with_reducible rfl))
        try simp only [Act.put, sA, sZ, sS]
        refine tk 4 ?_ rfl ?_ ?_; rotate_left; focus (intro w hSw; clear hSw; go_simp; try (with_reducible rfl))
        try simp only [Act.put, sA, sZ, sS]
        refine tk 6 ?_ rfl ?_ ?_; rotate_left
        · intro wl hSw
          have hSw : Keep _ wl := hSw
          have k0 := (hSw _ (.head _)).1
          have k1 := (hSw _ (.tail _ (.head _))).1
          have k2 := (hSw _ (.tail _ (.tail _ (.head _)))).1
          dsimp only at k0 k1 k2
          clear hSw
          go_simp
          try (with_reducible rfl)
        try simp only [Act.put, sA, sZ, sS]
        refine wpAnyH_ready (rs := [5, 7]) (by kernel_rfl) (by simp) ?_
        refine AllReadyH.cons (List.getElem?_toArray.trans rfl) (fun K hK => ?_) ?_
        · obtain ⟨x1, x2, x3⟩ := V2d.out.srv_at (i := 1) rfl HV.out HG.out
          rw [← HRLu.out] at x1
          go_simp
          refine hK.out _ _ (hHeld) (fun hHeld => ?_)
          clear hK K
          try simp only [Act.put, sA, sZ, sS]
          refine wpAnyH_ready (rs := [7]) (by kernel_rfl) (by simp) ?_
          refine AllReadyH.cons (List.getElem?_toArray.trans rfl) (fun K hK => ?_) AllReadyH.nil
          obtain ⟨wb, hwb⟩ : ∃ z, z = (wi.alloc (.cells #[.int .i64 x.k, .int .i64 x.q, .string (bs x.t)] 23)).drew := ⟨_, rfl⟩
          have Vb := Lib.hid (show Hp _ (sbox wi.heap.size x :: _) wb by rw [hwb]; exact V2d.out.sbox_new x)
          have Bwb := Lib.hid (show Below wi.drew.heap.size wi.drew wb by rw [hwb]; exact bnew _ _)
          go_simp
          rw [← hwb]
          clear hwb
          refine hK.out _ _ (hHeld.go Bwb.out) (fun hHeld => ?_)
          clear hK K
          try simp only [Act.put, sA, sZ, sS]
          refine wpAnyH_ready (rs := [8]) (by kernel_rfl) (by simp) ?_
          refine AllReadyH.cons (List.getElem?_toArray.trans rfl) (fun K hK => ?_) AllReadyH.nil
          obtain ⟨g4, cap4, w4, hr4, hv4, hg4⟩ := Hp.srow_app (pre := [sbox wi.heap.size x, sbox gb x, srv (some ⟨g0, 0, none⟩) (q + 1) d vs (cluL (L.take k))]) Vb.out HV.out HG.out 26 (b := wi.heap.size) x (fun j u hu => (Vb.out.box_at (i := 0) rfl hu).1) (by rw [← HRLu.out]; omega)
          rw [← HRLu.out] at hr4
          dsimp only at hr4
          have V4 := Lib.hid (show Hp w ([sbox gb x, srv (some ⟨g0, 0, none⟩) (q + 1) d vs (cluL (L.take k))] ++ srows (vs.set q (some ⟨g4, 0, none⟩, cap4)) ((cluL (L.take k)).set q (u ++ [x]))) w4 from hv4.tail)
          refine step_app_run rfl (.tmp 27) (.tmp 29) 26 rfl hr4 rfl rfl ?_
          have hz := V4.out.sbox_at (i := 0) rfl
          refine hK.out _ _ (List.forall_mem_cons.2 ⟨⟨hz.1, hz.2.2.2⟩, List.forall_mem_cons.2 ⟨⟨hz.2.1, hz.2.2.2⟩, List.forall_mem_cons.2 ⟨⟨hz.2.2.1, hz.2.2.2⟩, fun _ h => by simp at h⟩⟩⟩) (fun hHeld => ?_)
          clear hK K
          try simp only [Act.put, sA, sZ, sS]
          refine tk 9 ?_ rfl ?_ ?_; rotate_left; focus (intro w hSw; clear hSw; go_simp; try (with_reducible rfl))
          try simp only [Act.put, sA, sZ, sS]
          refine wpAnyH_ready (rs := [10]) (by kernel_rfl) (by simp) ?_
          refine AllReadyH.cons (List.getElem?_toArray.trans rfl) (fun K hK => ?_) AllReadyH.nil
          obtain ⟨x1, x2, x3⟩ := V4.out.srv_at (i := 1) rfl HV.out HG.out
          rw [← HRLu.out] at x1
          have V5 := Lib.hid (show Hp w ([sbox gb x, srv (some ⟨g0, 0, none⟩) (q + 1) d (vs.set q (some ⟨g4, 0, none⟩, cap4)) ((cluL (L.take k)).set q (u ++ [x]))] ++ srows (vs.set q (some ⟨g4, 0, none⟩, cap4)) ((cluL (L.take k)).set q (u ++ [x]))) (w4.setCell ⟨g0, q, none⟩ (.slice (some ⟨g4, 0, none⟩) (RL + 1) cap4)) by
            have := V4.out.srv_set (i := 1) rfl q (some ⟨g4, 0, none⟩) cap4 (u ++ [x])
            rw [show (u ++ [x]).length = RL + 1 by rw [List.length_append, HRLu.out]; rfl] at this
            exact this)
          go_simp
          refine hK.out _ _ (hHeld.set _ _ _ (List.forall_mem_cons.2 ⟨(by exact hgb0), List.forall_mem_cons.2 ⟨(by exact hgb0), List.forall_mem_cons.2 ⟨(by exact hgb0), fun _ h => by simp at h⟩⟩⟩)) (fun hHeld => ?_)
          clear hK K
          try simp only [Act.put, sA, sZ, sS]
          refine wpAnyH_done (by kernel_rfl) ?_ _
          rw [← HST.out] at V5
          have V6 := Lib.hid V5.out.tail
          have HM3 := Lib.hid (show (cluL (L.take (k + 1))).length = q + 1 by rw [HST.out, List.length_set, HRL.out])
          go_wp2_with fail
          go_roundw
          case rel => exact ⟨k + 1, q, d, g0, _, by omega, by omega, by go_num, rfl, HM3.out, by rw [List.length_set]; exact HVL.out, V6.out⟩
          case measure => simp [intOf]; omega
        refine AllReadyH.cons (List.getElem?_toArray.trans rfl) (fun K hK => ?_) ?_
        · obtain ⟨wb, hwb⟩ : ∃ z, z = (wi.alloc (.cells #[.int .i64 x.k, .int .i64 x.q, .string (bs x.t)] 23)).drew := ⟨_, rfl⟩
          have Vb := Lib.hid (show Hp _ (sbox wi.heap.size x :: _) wb by rw [hwb]; exact V2d.out.sbox_new x)
          have Bwb := Lib.hid (show Below wi.drew.heap.size wi.drew wb by rw [hwb]; exact bnew _ _)
          go_simp
          rw [← hwb]
          clear hwb
          refine hK.out _ _ (hHeld.go Bwb.out) (fun hHeld => ?_)
          clear hK K
          try simp only [Act.put, sA, sZ, sS]
          refine wpAnyH_ready (rs := [5]) (by kernel_rfl) (by simp) ?_
          refine AllReadyH.cons (List.getElem?_toArray.trans rfl) (fun K hK => ?_) AllReadyH.nil
          obtain ⟨x1, x2, x3⟩ := Vb.out.srv_at (i := 2) rfl HV.out HG.out
          rw [← HRLu.out] at x1
          go_simp
          refine hK.out _ _ (hHeld) (fun hHeld => ?_)
          clear hK K
          try simp only [Act.put, sA, sZ, sS]
          refine wpAnyH_ready (rs := [8]) (by kernel_rfl) (by simp) ?_
          refine AllReadyH.cons (List.getElem?_toArray.trans rfl) (fun K hK => ?_) AllReadyH.nil
          obtain ⟨g4, cap4, w4, hr4, hv4, hg4⟩ := Hp.srow_app (pre := [sbox wi.heap.size x, sbox gb x, srv (some ⟨g0, 0, none⟩) (q + 1) d vs (cluL (L.take k))]) Vb.out HV.out HG.out 26 (b := wi.heap.size) x (fun j u hu => (Vb.out.box_at (i := 0) rfl hu).1) (by rw [← HRLu.out]; omega)
          rw [← HRLu.out] at hr4
          dsimp only at hr4
          have V4 := Lib.hid (show Hp w ([sbox gb x, srv (some ⟨g0, 0, none⟩) (q + 1) d vs (cluL (L.take k))] ++ srows (vs.set q (some ⟨g4, 0, none⟩, cap4)) ((cluL (L.take k)).set q (u ++ [x]))) w4 from hv4.tail)
          refine step_app_run rfl (.tmp 27) (.tmp 29) 26 rfl hr4 rfl rfl ?_
          have hz := V4.out.sbox_at (i := 0) rfl
          refine hK.out _ _ (List.forall_mem_cons.2 ⟨⟨hz.1, hz.2.2.2⟩, List.forall_mem_cons.2 ⟨⟨hz.2.1, hz.2.2.2⟩, List.forall_mem_cons.2 ⟨⟨hz.2.2.1, hz.2.2.2⟩, fun _ h => by simp at h⟩⟩⟩) (fun hHeld => ?_)
          clear hK K
          try simp only [Act.put, sA, sZ, sS]
          refine tk 9 ?_ rfl ?_ ?_; rotate_left; focus (intro w hSw; clear hSw; go_simp; try (with_reducible rfl))
          try simp only [Act.put, sA, sZ, sS]
          refine wpAnyH_ready (rs := [10]) (by kernel_rfl) (by simp) ?_
          refine AllReadyH.cons (List.getElem?_toArray.trans rfl) (fun K hK => ?_) AllReadyH.nil
          obtain ⟨x1, x2, x3⟩ := V4.out.srv_at (i := 1) rfl HV.out HG.out
          rw [← HRLu.out] at x1
          have V5 := Lib.hid (show Hp w ([sbox gb x, srv (some ⟨g0, 0, none⟩) (q + 1) d (vs.set q (some ⟨g4, 0, none⟩, cap4)) ((cluL (L.take k)).set q (u ++ [x]))] ++ srows (vs.set q (some ⟨g4, 0, none⟩, cap4)) ((cluL (L.take k)).set q (u ++ [x]))) (w4.setCell ⟨g0, q, none⟩ (.slice (some ⟨g4, 0, none⟩) (RL + 1) cap4)) by
            have := V4.out.srv_set (i := 1) rfl q (some ⟨g4, 0, none⟩) cap4 (u ++ [x])
            rw [show (u ++ [x]).length = RL + 1 by rw [List.length_append, HRLu.out]; rfl] at this
            exact this)
          go_simp
          refine hK.out _ _ (hHeld.set _ _ _ (List.forall_mem_cons.2 ⟨(by exact hgb0), List.forall_mem_cons.2 ⟨(by exact hgb0), List.forall_mem_cons.2 ⟨(by exact hgb0), fun _ h => by simp at h⟩⟩⟩)) (fun hHeld => ?_)
          clear hK K
          try simp only [Act.put, sA, sZ, sS]
          refine wpAnyH_done (by kernel_rfl) ?_ _
          rw [← HST.out] at V5
          have V6 := Lib.hid V5.out.tail
          have HM3 := Lib.hid (show (cluL (L.take (k + 1))).length = q + 1 by rw [HST.out, List.length_set, HRL.out])
          go_wp2_with fail
          go_roundw
          case rel => exact ⟨k + 1, q, d, g0, _, by omega, by omega, by go_num, rfl, HM3.out, by rw [List.length_set]; exact HVL.out, V6.out⟩
          case measure => simp [intOf]; omega
        exact AllReadyH.nil
    · have HE := Lib.hid (show L.take k = L from take_all (by have := HL.out; omega))
      go_wp2
      go_ret
      rw [HE.out] at HRL V
      exact ⟨_, q + 1, d, vs, rfl, HRL.out, HVL.out, V.out⟩
set_option maxHeartbeats 8000000 in
theorem rclusters_any (L : List Snd) (n c : Nat) (A : Option Addr) (w : World) (hl : L.length = n) (hn : n ≤ 1000000000000) (hA : CellsIn w A (sndsC L)) :
    Calls Tryd.prog 25 #[.slice A n c] w (CluPost L w) := by
  have HL := Lib.hid hl
  have HA := Lib.hid hA
  clear hl hA
  have V0 := Lib.hid (show Hp w (srv (some ⟨w.heap.size, 0, none⟩) 1 1 [(none, 0)] (cluL []) :: srows [(none, 0)] (cluL [])) (w.alloc (.cells #[.slice none 0 0] 26)) from ((Hp.start w).made_rows 1 (by decide)).nil_end (snds none 0 0 []) rfl rfl rfl)
  go_enter Tryd.func25, Tryd.ntmps25
  go_wp2
  go_loopw [3, 4] (fun v i wr => ∃ (k q d g0 : Nat) (vs : List (Option Addr × Nat)), k ≤ n ∧ q ≤ k ∧ i = .int .i64 k ∧ v = .slice (some ⟨g0, 0, none⟩) (q + 1) d ∧ (cluL (L.take k)).length = q + 1 ∧ vs.length = q + 1 ∧ Hp w (srv (some ⟨g0, 0, none⟩) (q + 1) d vs (cluL (L.take k)) :: srows vs (cluL (L.take k))) wr) (fun _ i _ => n - (intOf i).toNat)
  case atStart => exact ⟨0, 0, 1, w.heap.size, [(none, 0)], Nat.zero_le _, Nat.le_refl _, rfl, rfl, rfl, rfl, V0.out⟩
  case round =>
    clear V0
    obtain ⟨k, q, d, g0, vs, hk, hqk, rfl, rfl, hrl, hvl, hV⟩ := hrel
    have V := Lib.hid hV
    have HRL := Lib.hid hrl
    have HVL := Lib.hid hvl
    by_cases hlt : k < n
    · obtain ⟨x, hx⟩ := idx_lt HL.out hlt
      obtain ⟨b, off, rfl, hb, c0, c1, c2⟩ := (HA.out.below hV.below).snd hx
      have HX := Lib.hid hx
      clear hx hV hrl hvl
      have V1 := V
      cases hnu : nuc x with
      | true =>
        have HNU := Lib.hid hnu
        have HS := Lib.hid (show cluL (L.take (k + 1)) = cluL (L.take k) ++ [[]] by rw [take_snoc HX.out, clu_yes _ hnu])
        clear hnu
        go_wp2_with fail
        refine (rnucleus_any x _).mono ?_
        rintro e w1 ⟨rfl, hb1⟩
        have V2 := Lib.hid (V1.out.go hb1)
        have e0 := (hb1.cell (p := ⟨b, off + k * 3, none⟩) hb).trans c0
        have e1 := (hb1.cell (p := ⟨b, off + k * 3 + 1, none⟩) hb).trans c1
        have e2 := (hb1.cell (p := ⟨b, off + k * 3 + 2, none⟩) hb).trans c2
        have hbw : b < w1.heap.size := Nat.lt_of_lt_of_le hb hb1.size
        clear c0 c1 c2 hb
        clear hb1
        rw [HNU.out]
        obtain ⟨wy, hwy⟩ : ∃ z, z = w1.alloc (.cells #[.slice none 0 0] 26) := ⟨_, rfl⟩
        have V3 := Lib.hid (show Hp w (box 26 w1.heap.size [.slice none 0 0] :: (srv (some ⟨g0, 0, none⟩) (q + 1) d vs (cluL (L.take k)) :: srows vs (cluL (L.take k)))) wy by rw [hwy]; exact (V2.out).box_new 26 [.slice none 0 0])
        have y0 := (V3.out.box_at (i := 0) (j := 0) rfl rfl).1
        obtain ⟨g5, cap5, w5, hr5, hv5, _⟩ := run_app_srv V3.out (i := 1) rfl (by rw [HVL.out, HRL.out]) 36 none 0 0 [] rfl y0 (by omega)
        have V4 := Lib.hid (show Hp w (srv (some ⟨g5, 0, none⟩) (q + 1 + 1) cap5 (vs ++ [(none, 0)]) (cluL (L.take k) ++ [[]]) :: srows (vs ++ [(none, 0)]) (cluL (L.take k) ++ [[]])) w5 by
          have h1 := (show Hp w (srv (some ⟨g5, 0, none⟩) (q + 1 + 1) cap5 (vs ++ [(none, 0)]) (cluL (L.take k) ++ [[]]) :: srows vs (cluL (L.take k))) w5 from hv5.tail).nil_end (snds none 0 0 []) rfl rfl rfl
          rw [srows_snoc none 0 [] (by rw [HVL.out, HRL.out])]
          exact h1)
        rw [← HS.out] at V4
        have HM3 := Lib.hid (show (cluL (L.take (k + 1))).length = q + 1 + 1 by rw [HS.out, List.length_append, HRL.out]; rfl)
        have HY := Lib.hid hwy
        have HR5 := Lib.hid hr5
        clear hwy y0 hv5 hr5
        go_wp2_with (at_builtin; rw [← HY.out]; refine wpList_app_run rfl (.tmp 17) (.tmp 18) 36 rfl HR5.out rfl rfl ?_)
        go_roundw
        case rel => exact ⟨k + 1, q + 1, cap5, g5, _, by omega, by omega, by go_num, rfl, HM3.out, by rw [List.length_append, HVL.out]; rfl, V4.out⟩
        case measure => simp [intOf]; omega
      | false =>
        have HNU := Lib.hid hnu
        obtain ⟨u, hu, hul, hset⟩ := clu_no (L.take k) hnu HRL.out
        rw [← take_snoc HX.out] at hset
        have HST := Lib.hid hset
        have HG := Lib.hid hu
        have hul2 : u.length ≤ k := by rw [List.length_take] at hul; omega
        obtain ⟨v, hv⟩ : ∃ v, vs[q]? = some v := get_at (by rw [HVL.out]; omega)
        have HV := Lib.hid hv
        obtain ⟨vA, vc⟩ := v
        clear hnu hu hul hset hv
        go_wp2_with fail
        refine (rnucleus_any x _).mono ?_
        rintro e w1 ⟨rfl, hb1⟩
        have V2 := Lib.hid (V1.out.go hb1)
        have e0 := (hb1.cell (p := ⟨b, off + k * 3, none⟩) hb).trans c0
        have e1 := (hb1.cell (p := ⟨b, off + k * 3 + 1, none⟩) hb).trans c1
        have e2 := (hb1.cell (p := ⟨b, off + k * 3 + 2, none⟩) hb).trans c2
        have hbw : b < w1.heap.size := Nat.lt_of_lt_of_le hb hb1.size
        clear c0 c1 c2 hb
        clear hb1
        rw [HNU.out]
        go_upto_region 7 with fail
        obtain ⟨RL, hRL⟩ : ∃ RL, RL = u.length := ⟨_, rfl⟩
        have HRLu := Lib.hid hRL
        have hqlt : (q : Int) < (q : Int) + 1 := by omega
        have hq0 : (0 : Int) ≤ (q : Int) := by omega
        have hqw : IntKind.i64.wrap (q : Int) = (q : Int) := IntWalk.i64_in _ (by omega)
        rw [← hRL] at hul2
        clear hRL
        obtain ⟨wi, rfl⟩ : ∃ wi : World, wi = w1 := ⟨_, rfl⟩
        have hg0 : w.heap.size ≤ g0 := (V2.out.lt (i := 0) rfl (k := g0) rfl).1
        have hKp : Keep [(⟨b, off + k * 3, none⟩, .int .i64 x.k), (⟨b, off + k * 3 + 1, none⟩, .int .i64 x.q), (⟨b, off + k * 3 + 2, none⟩, .string (bs x.t))] wi := List.forall_mem_cons.2 ⟨⟨e0, hbw⟩, List.forall_mem_cons.2 ⟨⟨e1, hbw⟩, List.forall_mem_cons.2 ⟨⟨e2, hbw⟩, fun _ h => by simp at h⟩⟩⟩
        have hbW : b < w.heap.size := by
          obtain ⟨b2, o2, e, h, _⟩ := HA.out (by rw [sndsC_len]; have := (List.getElem?_eq_some_iff.1 HX.out).1; omega)
          injection e with e; injection e with e; rw [e]; exact h
        clear e0 e1 e2
        refine wp_region_held_drew (S := Keep _) (by kernel_rfl) hKp.drew (fun hHeld => ?_)
        have V2d := Lib.hid (V2.out.go (bdrew _))
        refine tk 0 ?_ rfl ?_ ?_; rotate_left; focus (intro w hSw; clear hSw; go_simp; try (with_reducible rfl))
        try simp only [Act.put, sA, sZ, sS]
        refine tk 1 ?_ rfl ?_ ?_; rotate_left; focus (intro w hSw; clear hSw; go_simp; try (with_reducible rfl))
        try simp only [Act.put, sA, sZ, sS]
        refine tk 2 ?_ rfl ?_ ?_; rotate_left; focus (intro w hSw; clear hSw; go_simp; try (with_reducible rfl))
        try simp only [Act.put, sA, sZ, sS]
        refine tk 3 ?_ rfl ?_ ?_; rotate_left; focus (intro w hSw; clear hSw; go_simp; try (with_reducible rfl))
        try simp only [Act.put, sA, sZ, sS]
        refine tk 4 ?_ rfl ?_ ?_; rotate_left; focus (intro w hSw; clear hSw; go_simp; try (with_reducible rfl))
        try simp only [Act.put, sA, sZ, sS]
        refine tk 5 ?_ rfl ?_ ?_; rotate_left; focus (intro w hSw; clear hSw; go_simp; try (with_reducible rfl))
        try simp only [Act.put, sA, sZ, sS]
        refine tk 6 ?_ rfl ?_ ?_; rotate_left; focus (intro w hSw; clear hSw; go_simp; try (with_reducible rfl))
        try simp only [Act.put, sA, sZ, sS]
        refine tk 7 ?_ rfl ?_ ?_; rotate_left; focus (intro w hSw; clear hSw; go_simp; try (with_reducible rfl))
        try simp only [Act.put, sA, sZ, sS]
        refine tk 8 ?_ rfl ?_ ?_; rotate_left; focus (intro w hSw; clear hSw; go_simp; try (with_reducible rfl))
        try simp only [Act.put, sA, sZ, sS]
        refine tk 10 ?_ rfl ?_ ?_; rotate_left; focus (intro w hSw; clear hSw; go_simp; try (with_reducible rfl))
        try simp only [Act.put, sA, sZ, sS]
        refine tk 11 ?_ rfl ?_ ?_; rotate_left; focus (intro w hSw; clear hSw; go_simp; try (with_reducible rfl))
        try simp only [Act.put, sA, sZ, sS]
        refine tk 12 ?_ rfl ?_ ?_; rotate_left; focus (intro w hSw; clear hSw; go_simp; try (with_reducible rfl))
        try simp only [Act.put, sA, sZ, sS]
        refine tk 13 ?_ rfl ?_ ?_; rotate_left
        · intro wl hSw
          have hSw : Keep _ wl := hSw
          have k0 := (hSw _ (.head _)).1
          have k1 := (hSw _ (.tail _ (.head _))).1
          have k2 := (hSw _ (.tail _ (.tail _ (.head _)))).1
          dsimp only at k0 k1 k2
          clear hSw
          go_simp
          try (with_reducible rfl)
        try simp only [Act.put, sA, sZ, sS]
        refine wpAnyH_ready (rs := [9, 14]) (by kernel_rfl) (by simp) ?_
        refine AllReadyH.cons (List.getElem?_toArray.trans rfl) (fun K hK => ?_) ?_
        · obtain ⟨x1, x2, x3⟩ := V2d.out.srv_at (i := 0) rfl HV.out HG.out
          rw [← HRLu.out] at x1
          go_simp
          refine hK.out _ _ (hHeld) (fun hHeld => ?_)
          clear hK K
          try simp only [Act.put, sA, sZ, sS]
          refine wpAnyH_ready (rs := [14]) (by kernel_rfl) (by simp) ?_
          refine AllReadyH.cons (List.getElem?_toArray.trans rfl) (fun K hK => ?_) AllReadyH.nil
          obtain ⟨wb, hwb⟩ : ∃ z, z = (wi.alloc (.cells #[.int .i64 x.k, .int .i64 x.q, .string (bs x.t)] 23)).drew := ⟨_, rfl⟩
          have Vb := Lib.hid (show Hp _ (sbox wi.heap.size x :: _) wb by rw [hwb]; exact V2d.out.sbox_new x)
          have Bwb := Lib.hid (show Below wi.drew.heap.size wi.drew wb by rw [hwb]; exact bnew _ _)
          go_simp
          rw [← hwb]
          clear hwb
          refine hK.out _ _ (hHeld.go Bwb.out) (fun hHeld => ?_)
          clear hK K
          try simp only [Act.put, sA, sZ, sS]
          refine wpAnyH_ready (rs := [15]) (by kernel_rfl) (by simp) ?_
          refine AllReadyH.cons (List.getElem?_toArray.trans rfl) (fun K hK => ?_) AllReadyH.nil
          obtain ⟨g4, cap4, w4, hr4, hv4, hg4⟩ := Hp.srow_app (pre := [sbox wi.heap.size x, srv (some ⟨g0, 0, none⟩) (q + 1) d vs (cluL (L.take k))]) Vb.out HV.out HG.out 26 (b := wi.heap.size) x (fun j u hu => (Vb.out.box_at (i := 0) rfl hu).1) (by rw [← HRLu.out]; omega)
          rw [← HRLu.out] at hr4
          dsimp only at hr4
          have V4 := Lib.hid (show Hp w ([srv (some ⟨g0, 0, none⟩) (q + 1) d vs (cluL (L.take k))] ++ srows (vs.set q (some ⟨g4, 0, none⟩, cap4)) ((cluL (L.take k)).set q (u ++ [x]))) w4 from hv4.tail)
          refine step_app_run rfl (.tmp 29) (.tmp 34) 26 rfl hr4 rfl rfl ?_
          have hfar : ∀ p ∈ ([(⟨b, off + k * 3, none⟩, .int .i64 x.k), (⟨b, off + k * 3 + 1, none⟩, .int .i64 x.q), (⟨b, off + k * 3 + 2, none⟩, .string (bs x.t))] : List (Addr × Value)), some p.1.block ≠ (Value.slice vA u.length vc).ownBlock := by
            intro p hp e
            have e3 : p.1.block = b := by
              simp only [List.mem_cons, List.not_mem_nil, or_false] at hp
              rcases hp with rfl | rfl | rfl <;> rfl
            have hit : (srv (some ⟨g0, 0, none⟩) (q + 1) d vs (cluL (L.take k)) :: srows vs (cluL (L.take k)))[1 + q]? = some (snds vA u.length vc u) := by rw [show 1 + q = q + 1 by omega, List.getElem?_cons_succ]; exact srows_get HV.out HG.out
            have := (V2.out.lt (i := 1 + q) hit (k := p.1.block) e.symm).1
            omega
          have hHeld4 := hHeld.grown hg4 hfar
          refine hK.out _ _ hHeld4 (fun hHeld => ?_)
          clear hK K
          try simp only [Act.put, sA, sZ, sS]
          refine tk 16 ?_ rfl ?_ ?_; rotate_left; focus (intro w hSw; clear hSw; go_simp; try (with_reducible rfl))
          try simp only [Act.put, sA, sZ, sS]
          refine wpAnyH_ready (rs := [17]) (by kernel_rfl) (by simp) ?_
          refine AllReadyH.cons (List.getElem?_toArray.trans rfl) (fun K hK => ?_) AllReadyH.nil
          obtain ⟨x1, x2, x3⟩ := V4.out.srv_at (i := 0) rfl HV.out HG.out
          rw [← HRLu.out] at x1
          have V5 := Lib.hid (show Hp w ([srv (some ⟨g0, 0, none⟩) (q + 1) d (vs.set q (some ⟨g4, 0, none⟩, cap4)) ((cluL (L.take k)).set q (u ++ [x]))] ++ srows (vs.set q (some ⟨g4, 0, none⟩, cap4)) ((cluL (L.take k)).set q (u ++ [x]))) (w4.setCell ⟨g0, q, none⟩ (.slice (some ⟨g4, 0, none⟩) (RL + 1) cap4)) by
            have := V4.out.srv_set (i := 0) rfl q (some ⟨g4, 0, none⟩) cap4 (u ++ [x])
            rw [show (u ++ [x]).length = RL + 1 by rw [List.length_append, HRLu.out]; rfl] at this
            exact this)
          go_simp
          refine hK.out _ _ (hHeld.set _ _ _ (List.forall_mem_cons.2 ⟨(by show ¬ b = g0; omega), List.forall_mem_cons.2 ⟨(by show ¬ b = g0; omega), List.forall_mem_cons.2 ⟨(by show ¬ b = g0; omega), fun _ h => by simp at h⟩⟩⟩)) (fun hHeld => ?_)
          clear hK K
          try simp only [Act.put, sA, sZ, sS]
          refine wpAnyH_done (by kernel_rfl) ?_ _
          rw [← HST.out] at V5
          have V6 := Lib.hid V5.out
          have HM3 := Lib.hid (show (cluL (L.take (k + 1))).length = q + 1 by rw [HST.out, List.length_set, HRL.out])
          go_wp2_with fail
          go_roundw
          case rel => exact ⟨k + 1, q, d, g0, _, by omega, by omega, by go_num, rfl, HM3.out, by rw [List.length_set]; exact HVL.out, V6.out⟩
          case measure => simp [intOf]; omega
        refine AllReadyH.cons (List.getElem?_toArray.trans rfl) (fun K hK => ?_) ?_
        · obtain ⟨wb, hwb⟩ : ∃ z, z = (wi.alloc (.cells #[.int .i64 x.k, .int .i64 x.q, .string (bs x.t)] 23)).drew := ⟨_, rfl⟩
          have Vb := Lib.hid (show Hp _ (sbox wi.heap.size x :: _) wb by rw [hwb]; exact V2d.out.sbox_new x)
          have Bwb := Lib.hid (show Below wi.drew.heap.size wi.drew wb by rw [hwb]; exact bnew _ _)
          go_simp
          rw [← hwb]
          clear hwb
          refine hK.out _ _ (hHeld.go Bwb.out) (fun hHeld => ?_)
          clear hK K
          try simp only [Act.put, sA, sZ, sS]
          refine wpAnyH_ready (rs := [9]) (by kernel_rfl) (by simp) ?_
          refine AllReadyH.cons (List.getElem?_toArray.trans rfl) (fun K hK => ?_) AllReadyH.nil
          obtain ⟨x1, x2, x3⟩ := Vb.out.srv_at (i := 1) rfl HV.out HG.out
          rw [← HRLu.out] at x1
          go_simp
          refine hK.out _ _ (hHeld) (fun hHeld => ?_)
          clear hK K
          try simp only [Act.put, sA, sZ, sS]
          refine wpAnyH_ready (rs := [15]) (by kernel_rfl) (by simp) ?_
          refine AllReadyH.cons (List.getElem?_toArray.trans rfl) (fun K hK => ?_) AllReadyH.nil
          obtain ⟨g4, cap4, w4, hr4, hv4, hg4⟩ := Hp.srow_app (pre := [sbox wi.heap.size x, srv (some ⟨g0, 0, none⟩) (q + 1) d vs (cluL (L.take k))]) Vb.out HV.out HG.out 26 (b := wi.heap.size) x (fun j u hu => (Vb.out.box_at (i := 0) rfl hu).1) (by rw [← HRLu.out]; omega)
          rw [← HRLu.out] at hr4
          dsimp only at hr4
          have V4 := Lib.hid (show Hp w ([srv (some ⟨g0, 0, none⟩) (q + 1) d vs (cluL (L.take k))] ++ srows (vs.set q (some ⟨g4, 0, none⟩, cap4)) ((cluL (L.take k)).set q (u ++ [x]))) w4 from hv4.tail)
          refine step_app_run rfl (.tmp 29) (.tmp 34) 26 rfl hr4 rfl rfl ?_
          have hfar : ∀ p ∈ ([(⟨b, off + k * 3, none⟩, .int .i64 x.k), (⟨b, off + k * 3 + 1, none⟩, .int .i64 x.q), (⟨b, off + k * 3 + 2, none⟩, .string (bs x.t))] : List (Addr × Value)), some p.1.block ≠ (Value.slice vA u.length vc).ownBlock := by
            intro p hp e
            have e3 : p.1.block = b := by
              simp only [List.mem_cons, List.not_mem_nil, or_false] at hp
              rcases hp with rfl | rfl | rfl <;> rfl
            have hit : (srv (some ⟨g0, 0, none⟩) (q + 1) d vs (cluL (L.take k)) :: srows vs (cluL (L.take k)))[1 + q]? = some (snds vA u.length vc u) := by rw [show 1 + q = q + 1 by omega, List.getElem?_cons_succ]; exact srows_get HV.out HG.out
            have := (V2.out.lt (i := 1 + q) hit (k := p.1.block) e.symm).1
            omega
          have hHeld4 := hHeld.grown hg4 hfar
          refine hK.out _ _ hHeld4 (fun hHeld => ?_)
          clear hK K
          try simp only [Act.put, sA, sZ, sS]
          refine tk 16 ?_ rfl ?_ ?_; rotate_left; focus (intro w hSw; clear hSw; go_simp; try (with_reducible rfl))
          try simp only [Act.put, sA, sZ, sS]
          refine wpAnyH_ready (rs := [17]) (by kernel_rfl) (by simp) ?_
          refine AllReadyH.cons (List.getElem?_toArray.trans rfl) (fun K hK => ?_) AllReadyH.nil
          obtain ⟨x1, x2, x3⟩ := V4.out.srv_at (i := 0) rfl HV.out HG.out
          rw [← HRLu.out] at x1
          have V5 := Lib.hid (show Hp w ([srv (some ⟨g0, 0, none⟩) (q + 1) d (vs.set q (some ⟨g4, 0, none⟩, cap4)) ((cluL (L.take k)).set q (u ++ [x]))] ++ srows (vs.set q (some ⟨g4, 0, none⟩, cap4)) ((cluL (L.take k)).set q (u ++ [x]))) (w4.setCell ⟨g0, q, none⟩ (.slice (some ⟨g4, 0, none⟩) (RL + 1) cap4)) by
            have := V4.out.srv_set (i := 0) rfl q (some ⟨g4, 0, none⟩) cap4 (u ++ [x])
            rw [show (u ++ [x]).length = RL + 1 by rw [List.length_append, HRLu.out]; rfl] at this
            exact this)
          go_simp
          refine hK.out _ _ (hHeld.set _ _ _ (List.forall_mem_cons.2 ⟨(by show ¬ b = g0; omega), List.forall_mem_cons.2 ⟨(by show ¬ b = g0; omega), List.forall_mem_cons.2 ⟨(by show ¬ b = g0; omega), fun _ h => by simp at h⟩⟩⟩)) (fun hHeld => ?_)
          clear hK K
          try simp only [Act.put, sA, sZ, sS]
          refine wpAnyH_done (by kernel_rfl) ?_ _
          rw [← HST.out] at V5
          have V6 := Lib.hid V5.out
          have HM3 := Lib.hid (show (cluL (L.take (k + 1))).length = q + 1 by rw [HST.out, List.length_set, HRL.out])
          go_wp2_with fail
          go_roundw
          case rel => exact ⟨k + 1, q, d, g0, _, by omega, by omega, by go_num, rfl, HM3.out, by rw [List.length_set]; exact HVL.out, V6.out⟩
          case measure => simp [intOf]; omega
        exact AllReadyH.nil
    · have HE := Lib.hid (show L.take k = L from take_all (by have := HL.out; omega))
      go_wp2
      go_ret
      rw [HE.out] at HRL V
      exact ⟨_, q + 1, d, vs, rfl, HRL.out, HVL.out, V.out⟩
end Go.Proofs.YtbmldlkjnejfaaaDoor
