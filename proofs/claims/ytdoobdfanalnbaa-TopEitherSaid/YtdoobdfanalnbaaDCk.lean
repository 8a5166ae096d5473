/- Contract of the program: the paths are listed. -/
import Derived.Test.YtdoobdfanalnbaaDCj
import Derived.Test.YtdoobdfanalnbaaDBd
import Derived.Deep.RegionLaw
namespace Go.Proofs.Ytdoobdfanalnbaa
open Go.RowKit
set_option linter.unusedVariables false
set_option linter.unusedSimpArgs false
set_option maxRecDepth 100000

/-- What list leaves: the same path, and further paths behind those that were there. -/
def ListPost (g : Gr) (A : Option Addr) (n c gl go N : Nat) (vs : List (Option Addr × Nat)) (F : List (List Int)) (pa : List Int) (ps : List (List Int)) (q : Int) (W : World) (e : Ending) (w' : World) : Prop :=
  ∃ (P : Option Addr) (pc : Nat) (Q : Option Addr) (qn qc : Nat) (us : List (Option Addr × Nat)), e = .returned (.tuple #[]) ∧ qn = (ps ++ (g.pv q).map (pa ++ ·)).length ∧ us.length = qn ∧
    Hp W ([lbox gl N A n c go P pa.length pc Q qn qc, nums P pa.length pc pa, rvals Q qn qc us (ps ++ (g.pv q).map (pa ++ ·)), rvals (some ⟨go, 0, none⟩) N N vs F] ++ rowsG vs F ++ rowsG us (ps ++ (g.pv q).map (pa ++ ·))) w'
theorem pv_len_sum {g : Gr} (h : g.Ok) {q : Int} (h0 : 0 ≤ q) (h1 : q < g.n - 1) {i : Int} (hi : i ∈ outF g q) : (g.pv (arc g.rs i).t).length ≤ (g.pv q).length := by
  rw [pv_outF h h0 h1, List.length_flatMap]
  have : ∀ (l : List Int), i ∈ l → (g.pv (arc g.rs i).t).length ≤ (l.map fun i => ((g.pv (arc g.rs i).t).map (i :: ·)).length).sum := by
    intro l
    induction l with
    | nil => intro h; cases h
    | cons a l ih =>
      intro h
      rw [List.map_cons, List.sum_cons]
      rcases List.mem_cons.1 h with rfl | h
      · rw [List.length_map]; omega
      · have := ih h; omega
  exact this _ hi
/-- The paths that have been listed when k arcs of a node have been followed. -/
def partL (g : Gr) (q : Int) (k : Nat) : List (List Int) := ((outF g q).take k).flatMap fun i => (g.pv (arc g.rs i).t).map (i :: ·)
theorem partL_zero (g : Gr) (q : Int) : partL g q 0 = [] := rfl
theorem partL_step {g : Gr} {q : Int} {k : Nat} {i : Int} (hi : (outF g q)[k]? = some i) : partL g q (k + 1) = partL g q k ++ (g.pv (arc g.rs i).t).map (i :: ·) := by
  unfold partL
  rw [List.take_add_one, hi, List.flatMap_append]
  simp
theorem partL_all {g : Gr} (h : g.Ok) {q : Int} (h0 : 0 ≤ q) (h1 : q < g.n - 1) : partL g q (outF g q).length = g.pv q := by
  unfold partL; rw [List.take_length, pv_outF h h0 h1]
theorem partL_le {g : Gr} (h : g.Ok) {q : Int} (h0 : 0 ≤ q) (h1 : q < g.n - 1) (k : Nat) : (partL g q k).length ≤ (g.pv q).length := by
  rw [pv_outF h h0 h1]
  unfold partL
  conv => rhs; rw [← List.take_append_drop k (outF g q), List.flatMap_append]
  simp
theorem map_pre (pa : List Int) (i : Int) (l : List (List Int)) : (l.map (i :: ·)).map (pa ++ ·) = l.map ((pa ++ [i]) ++ ·) := by
  rw [List.map_map]
  apply List.map_congr_left
  intro x _
  simp

set_option maxHeartbeats 32000000 in
theorem list_any (g : Gr) (A : Option Addr) (n c gl go N : Nat) (vs : List (Option Addr × Nat)) (F : List (List Int)) (W : World) (hO : g.Ok) (hN : N = g.n.toNat) (hG : GrIn W A n c g) (hvs : vs.length = N) (hF : F = g.rowsFK N) :
    ∀ (d : Nat) (w : World) (q : Nat) (P : Option Addr) (pn pc : Nat) (pa : List Int) (Q : Option Addr) (qn qc : Nat) (us : List (Option Addr × Nat)) (ps : List (List Int)), N - q ≤ d → q < N → pn = pa.length → pa.length ≤ q → qn = ps.length → us.length = qn → ps.length + (g.pv (q : Int)).length ≤ 2000 →
      Hp W ([lbox gl N A n c go P pn pc Q qn qc, nums P pn pc pa, rvals Q qn qc us ps, rvals (some ⟨go, 0, none⟩) N N vs F] ++ rowsG vs F ++ rowsG us ps) w →
      Calls Try.prog 93 #[.pointer (some ⟨gl, 0, none⟩), .int .i64 (q : Int)] w (ListPost g A n c gl go N vs F pa ps (q : Int) W)
  | 0, w, q, P, pn, pc, pa, Q, qn, qc, us, ps, hd, hq, _, _, _, _, _, _ => by omega
  | d + 1, w, q, P, pn, pc, pa, Q, qn, qc, us, ps, hd, hq, hpn, hpq, hqn, hus, hps, h => by
    have IH := Lib.hid (list_any g A n c gl go N vs F W hO hN hG hvs hF d)
    have V := Lib.hid h
    have HG := Lib.hid hG
    have HO := Lib.hid hO
    have HN := Lib.hid hN
    have HVS := Lib.hid hvs
    have HF := Lib.hid hF
    have HPN := Lib.hid hpn
    have HQN := Lib.hid hqn
    have HUS := Lib.hid hus
    have HPS := Lib.hid hps
    have hcs := hG.small
    have hcn := hG.cap
    have n1 := hO.n1
    have n2 := hO.n2
    have hnl : n ≤ 6000 := by have := hO.len; have := hG.len; omega
    have hgN : g.n = (N : Int) := by omega
    have hN2 : N ≤ 2000 := by omega
    have hpn2 : pn ≤ 2000 := by omega
    have hqn2 : qn ≤ 2000 := by omega
    obtain ⟨E, hE⟩ : ∃ E, E = N - 1 := ⟨_, rfl⟩
    have HE := Lib.hid hE
    have HEND := Lib.hid (show ∀ w, Calls Try.prog 62 #[.agg #[.int .i64 (N : Int), .slice A n c]] w fun e w' => e = .returned (.int .i64 (E : Int)) ∧ Below w.heap.size w w' by
      intro w
      have := end_any g A n c w n1 n2
      rw [show gval g A n c = .agg #[.int .i64 (N : Int), .slice A n c] by rw [← hgN], show g.n - 1 = (E : Int) by omega] at this
      exact this)
    clear h hG hO hN hvs hF hpn hqn hus hps n1 n2 hgN hE
    obtain ⟨r0, _, r9⟩ := V.out.box_at (i := 0) (j := 0) rfl rfl
    obtain ⟨r1, _, _⟩ := V.out.box_at (i := 0) (j := 1) rfl rfl
    go_enter Try.func93, Try.ntmps93
    go_wp2_with fail
    refine (HEND.out _).mono ?_
    rintro e w1 ⟨rfl, b1⟩
    have V1 := Lib.hid (V.out.go b1)
    clear b1 V r0 r1 r9
    by_cases hqe : (q : Int) = (E : Int)
    · have g1 : ((q : Int) == (E : Int)) = true := beq_yes hqe
      have HPV := Lib.hid (show ps ++ (g.pv (q : Int)).map (pa ++ ·) = ps ++ [pa] by
        have h1 := HO.out.n1
        have h2 := HN.out
        have h3 := HE.out
        rw [show (q : Int) = g.n - 1 by omega, pv_end HO.out]; simp)
      clear hqe
      go_upto_region 1 with fail
      have hKp : Keep [(⟨gl, 3, none⟩, .slice P pn pc)] w1 := List.forall_mem_cons.2 ⟨⟨(V1.out.box_at (i := 0) (j := 3) rfl rfl).1, (V1.out.box_at (i := 0) (j := 3) rfl rfl).2.2⟩, fun _ h => by simp at h⟩
      refine wp_region_held_drew (S := Keep _) (by kernel_rfl) hKp.drew (fun hHeld => ?_)
      have V1d := Lib.hid (V1.out.go (bdrew _))
      refine tk 0 ?_ rfl ?_ ?_; rotate_left; focus (intro w hSw; clear hSw; go_simp; try (with_reducible rfl))
      try simp only [Act.put, sA, sZ, sS]
      refine tk 1 ?_ rfl ?_ ?_; rotate_left; focus (intro w hSw; clear hSw; go_simp; try (with_reducible rfl))
      try simp only [Act.put, sA, sZ, sS]
      refine tk 2 ?_ rfl ?_ ?_; rotate_left; focus (intro w hSw; clear hSw; go_simp; try (with_reducible rfl))
      try simp only [Act.put, sA, sZ, sS]
      refine tk 3 ?_ rfl ?_ ?_; rotate_left; focus (intro w hSw; clear hSw; go_simp; try (with_reducible rfl))
      try simp only [Act.put, sA, sZ, sS]
      refine tk 5 ?_ rfl ?_ ?_; rotate_left; focus (intro w hSw; clear hSw; go_simp; try (with_reducible rfl))
      try simp only [Act.put, sA, sZ, sS]
      refine tk 6 ?_ rfl ?_ ?_; rotate_left; focus (intro w hSw; clear hSw; go_simp; try (with_reducible rfl))
      try simp only [Act.put, sA, sZ, sS]
      refine tk 7 ?_ rfl ?_ ?_; rotate_left; focus (intro w hSw; clear hSw; go_simp; try (with_reducible rfl))
      try simp only [Act.put, sA, sZ, sS]
      refine tk 8 ?_ rfl ?_ ?_; rotate_left
      · intro wl hSw
        have hSw : Keep _ wl := hSw
        have k0 : wl.cell? ⟨gl, 3, none⟩ = some (.slice P pn pc) := (hSw _ (.head _)).1
        clear hSw
        go_simp
        try (with_reducible rfl)
      try simp only [Act.put, sA, sZ, sS]
      refine wpAnyH_ready (rs := [4, 9]) (by kernel_rfl) (by simp) ?_
      refine AllReadyH.cons (List.getElem?_toArray.trans rfl) (fun K hK => ?_) ?_
      · obtain ⟨x1, x2, x3⟩ := V1d.out.box_at (i := 0) (j := 4) rfl rfl
        go_simp
        refine hK.out _ _ (hHeld) (fun hHeld => ?_)
        clear hK K
        try simp only [Act.put, sA, sZ, sS]
        refine wpAnyH_ready (rs := [9]) (by kernel_rfl) (by simp) ?_
        refine AllReadyH.cons (List.getElem?_toArray.trans rfl) (fun K hK => ?_) AllReadyH.nil
        go_simp
        refine (clone_nums pa P pn pc W _ _ V1d.out HPN.out.symm (by omega) (V1d.out.cells (i := 1) rfl rfl)).mono ?_
        rintro e w9 ⟨C9, d9, rfl, hp9, b9⟩
        try go_wp2_with fail
        have V9 := Lib.hid hp9
        clear hp9
        refine hK.out _ _ (hHeld.go b9) (fun hHeld => ?_)
        clear hK K
        try simp only [Act.put, sA, sZ, sS]
        refine wpAnyH_ready (rs := [10]) (by kernel_rfl) (by simp) ?_
        refine AllReadyH.cons (List.getElem?_toArray.trans rfl) (fun K hK => ?_) AllReadyH.nil
        obtain ⟨w_4_9_10, hw_4_9_10⟩ : ∃ z, z = (w9.alloc (.cells #[.slice C9 pn d9] 27)) := ⟨_, rfl⟩
        have V_4_9_10 := Lib.hid (show Hp _ (box 27 w9.heap.size [.slice C9 pn d9] :: _) w_4_9_10 by rw [hw_4_9_10]; exact V9.out.box_new 27 [.slice C9 pn d9])
        have Bw_4_9_10 := Lib.hid (show Below w9.heap.size w9 w_4_9_10 by rw [hw_4_9_10]; exact bnew _ _)
        go_simp
        rw [← hw_4_9_10]
        clear hw_4_9_10
        refine hK.out _ _ (hHeld.go Bw_4_9_10.out) (fun hHeld => ?_)
        clear hK K
        try simp only [Act.put, sA, sZ, sS]
        refine wpAnyH_ready (rs := [11]) (by kernel_rfl) (by simp) ?_
        refine AllReadyH.cons (List.getElem?_toArray.trans rfl) (fun K hK => ?_) AllReadyH.nil
        have y0 := (V_4_9_10.out.box_at (i := 0) (j := 0) rfl rfl).1
        obtain ⟨g4, cap4, w4, hr4, hv4, _⟩ := run_app_rv V_4_9_10.out (i := 4) rfl (by rw [HUS.out, ← HQN.out]) 35 C9 pn d9 pa HPN.out.symm y0 (by omega)
        have V4 := Lib.hid (show Hp W ([lbox gl N A n c go P pn pc Q qn qc, nums P pn pc pa, rvals (some ⟨g4, 0, none⟩) (qn + 1) cap4 (us ++ [(C9, d9)]) (ps ++ [pa]), rvals (some ⟨go, 0, none⟩) N N vs F] ++ rowsG vs F ++ rowsG (us ++ [(C9, d9)]) (ps ++ [pa])) w4 by
          have hh := hv4.tail
          rw [HPN.out] at hh ⊢
          exact row_doneG (by rw [HUS.out, ← HQN.out]) (l := [lbox gl N A n c go P pa.length pc Q qn qc, nums P pa.length pc pa, rvals (some ⟨g4, 0, none⟩) (qn + 1) cap4 (us ++ [(C9, d9)]) (ps ++ [pa]), rvals (some ⟨go, 0, none⟩) N N vs F] ++ rowsG vs F) hh)
        refine step_app_run rfl (.tmp 17) (.tmp 23) 35 rfl hr4 rfl rfl ?_
        refine hK.out _ _ (List.forall_mem_cons.2 ⟨⟨(V4.out.box_at (i := 0) (j := 3) rfl rfl).1, (V4.out.box_at (i := 0) (j := 3) rfl rfl).2.2⟩, fun _ h => by simp at h⟩) (fun hHeld => ?_)
        clear hK K
        try simp only [Act.put, sA, sZ, sS]
        refine tk 12 ?_ rfl ?_ ?_; rotate_left; focus (intro w hSw; clear hSw; go_simp; try (with_reducible rfl))
        try simp only [Act.put, sA, sZ, sS]
        refine tk 13 ?_ rfl ?_ ?_; rotate_left; focus (intro w hSw; clear hSw; go_simp; try (with_reducible rfl))
        try simp only [Act.put, sA, sZ, sS]
        refine wpAnyH_ready (rs := [14]) (by kernel_rfl) (by simp) ?_
        refine AllReadyH.cons (List.getElem?_toArray.trans rfl) (fun K hK => ?_) AllReadyH.nil
        obtain ⟨x1, x2, x3⟩ := V4.out.box_at (i := 0) (j := 4) rfl rfl
        have V5 := Lib.hid (V4.out.box_set (i := 0) rfl 4 (.slice (some ⟨g4, 0, none⟩) (qn + 1) cap4))
        go_simp
        refine hK.out _ _ ((List.forall_mem_cons.2 ⟨⟨(V5.out.box_at (i := 0) (j := 3) rfl rfl).1, (V5.out.box_at (i := 0) (j := 3) rfl rfl).2.2⟩, fun _ h => by simp at h⟩)) (fun hHeld => ?_)
        clear hK K
        try simp only [Act.put, sA, sZ, sS]
        refine wpAnyH_done (by kernel_rfl) ?_ _
        have HQ2 := Lib.hid (show qn + 1 = (ps ++ [pa]).length by rw [HQN.out]; simp)
        go_wp2_with fail
        go_end0
        refine ⟨P, pc, some ⟨g4, 0, none⟩, qn + 1, cap4, us ++ [(C9, d9)], rfl, by rw [HPV.out]; exact HQ2.out, by rw [List.length_append, HUS.out]; rfl, ?_⟩
        have hh := V5.out
        rw [HPN.out] at hh
        rw [HPV.out]
        exact hh
      refine AllReadyH.cons (List.getElem?_toArray.trans rfl) (fun K hK => ?_) ?_
      · go_simp
        refine (clone_nums pa P pn pc W _ _ V1d.out HPN.out.symm (by omega) (V1d.out.cells (i := 1) rfl rfl)).mono ?_
        rintro e w9 ⟨C9, d9, rfl, hp9, b9⟩
        try go_wp2_with fail
        have V9 := Lib.hid hp9
        clear hp9
        refine hK.out _ _ (hHeld.go b9) (fun hHeld => ?_)
        clear hK K
        try simp only [Act.put, sA, sZ, sS]
        refine wpAnyH_ready (rs := [4, 10]) (by kernel_rfl) (by simp) ?_
        refine AllReadyH.cons (List.getElem?_toArray.trans rfl) (fun K hK => ?_) ?_
        · obtain ⟨x1, x2, x3⟩ := V9.out.box_at (i := 1) (j := 4) rfl rfl
          go_simp
          refine hK.out _ _ (hHeld) (fun hHeld => ?_)
          clear hK K
          try simp only [Act.put, sA, sZ, sS]
          refine wpAnyH_ready (rs := [10]) (by kernel_rfl) (by simp) ?_
          refine AllReadyH.cons (List.getElem?_toArray.trans rfl) (fun K hK => ?_) AllReadyH.nil
          obtain ⟨w_9_4_10, hw_9_4_10⟩ : ∃ z, z = (w9.alloc (.cells #[.slice C9 pn d9] 27)) := ⟨_, rfl⟩
          have V_9_4_10 := Lib.hid (show Hp _ (box 27 w9.heap.size [.slice C9 pn d9] :: _) w_9_4_10 by rw [hw_9_4_10]; exact V9.out.box_new 27 [.slice C9 pn d9])
          have Bw_9_4_10 := Lib.hid (show Below w9.heap.size w9 w_9_4_10 by rw [hw_9_4_10]; exact bnew _ _)
          go_simp
          rw [← hw_9_4_10]
          clear hw_9_4_10
          refine hK.out _ _ (hHeld.go Bw_9_4_10.out) (fun hHeld => ?_)
          clear hK K
          try simp only [Act.put, sA, sZ, sS]
          refine wpAnyH_ready (rs := [11]) (by kernel_rfl) (by simp) ?_
          refine AllReadyH.cons (List.getElem?_toArray.trans rfl) (fun K hK => ?_) AllReadyH.nil
          have y0 := (V_9_4_10.out.box_at (i := 0) (j := 0) rfl rfl).1
          obtain ⟨g4, cap4, w4, hr4, hv4, _⟩ := run_app_rv V_9_4_10.out (i := 4) rfl (by rw [HUS.out, ← HQN.out]) 35 C9 pn d9 pa HPN.out.symm y0 (by omega)
          have V4 := Lib.hid (show Hp W ([lbox gl N A n c go P pn pc Q qn qc, nums P pn pc pa, rvals (some ⟨g4, 0, none⟩) (qn + 1) cap4 (us ++ [(C9, d9)]) (ps ++ [pa]), rvals (some ⟨go, 0, none⟩) N N vs F] ++ rowsG vs F ++ rowsG (us ++ [(C9, d9)]) (ps ++ [pa])) w4 by
            have hh := hv4.tail
            rw [HPN.out] at hh ⊢
            exact row_doneG (by rw [HUS.out, ← HQN.out]) (l := [lbox gl N A n c go P pa.length pc Q qn qc, nums P pa.length pc pa, rvals (some ⟨g4, 0, none⟩) (qn + 1) cap4 (us ++ [(C9, d9)]) (ps ++ [pa]), rvals (some ⟨go, 0, none⟩) N N vs F] ++ rowsG vs F) hh)
          refine step_app_run rfl (.tmp 17) (.tmp 23) 35 rfl hr4 rfl rfl ?_
          refine hK.out _ _ (List.forall_mem_cons.2 ⟨⟨(V4.out.box_at (i := 0) (j := 3) rfl rfl).1, (V4.out.box_at (i := 0) (j := 3) rfl rfl).2.2⟩, fun _ h => by simp at h⟩) (fun hHeld => ?_)
          clear hK K
          try simp only [Act.put, sA, sZ, sS]
          refine tk 12 ?_ rfl ?_ ?_; rotate_left; focus (intro w hSw; clear hSw; go_simp; try (with_reducible rfl))
          try simp only [Act.put, sA, sZ, sS]
          refine tk 13 ?_ rfl ?_ ?_; rotate_left; focus (intro w hSw; clear hSw; go_simp; try (with_reducible rfl))
          try simp only [Act.put, sA, sZ, sS]
          refine wpAnyH_ready (rs := [14]) (by kernel_rfl) (by simp) ?_
          refine AllReadyH.cons (List.getElem?_toArray.trans rfl) (fun K hK => ?_) AllReadyH.nil
          obtain ⟨x1, x2, x3⟩ := V4.out.box_at (i := 0) (j := 4) rfl rfl
          have V5 := Lib.hid (V4.out.box_set (i := 0) rfl 4 (.slice (some ⟨g4, 0, none⟩) (qn + 1) cap4))
          go_simp
          refine hK.out _ _ ((List.forall_mem_cons.2 ⟨⟨(V5.out.box_at (i := 0) (j := 3) rfl rfl).1, (V5.out.box_at (i := 0) (j := 3) rfl rfl).2.2⟩, fun _ h => by simp at h⟩)) (fun hHeld => ?_)
          clear hK K
          try simp only [Act.put, sA, sZ, sS]
          refine wpAnyH_done (by kernel_rfl) ?_ _
          have HQ2 := Lib.hid (show qn + 1 = (ps ++ [pa]).length by rw [HQN.out]; simp)
          go_wp2_with fail
          go_end0
          refine ⟨P, pc, some ⟨g4, 0, none⟩, qn + 1, cap4, us ++ [(C9, d9)], rfl, by rw [HPV.out]; exact HQ2.out, by rw [List.length_append, HUS.out]; rfl, ?_⟩
          have hh := V5.out
          rw [HPN.out] at hh
          rw [HPV.out]
          exact hh
        refine AllReadyH.cons (List.getElem?_toArray.trans rfl) (fun K hK => ?_) ?_
        · obtain ⟨w_9_10, hw_9_10⟩ : ∃ z, z = (w9.alloc (.cells #[.slice C9 pn d9] 27)) := ⟨_, rfl⟩
          have V_9_10 := Lib.hid (show Hp _ (box 27 w9.heap.size [.slice C9 pn d9] :: _) w_9_10 by rw [hw_9_10]; exact V9.out.box_new 27 [.slice C9 pn d9])
          have Bw_9_10 := Lib.hid (show Below w9.heap.size w9 w_9_10 by rw [hw_9_10]; exact bnew _ _)
          go_simp
          rw [← hw_9_10]
          clear hw_9_10
          refine hK.out _ _ (hHeld.go Bw_9_10.out) (fun hHeld => ?_)
          clear hK K
          try simp only [Act.put, sA, sZ, sS]
          refine wpAnyH_ready (rs := [4]) (by kernel_rfl) (by simp) ?_
          refine AllReadyH.cons (List.getElem?_toArray.trans rfl) (fun K hK => ?_) AllReadyH.nil
          obtain ⟨x1, x2, x3⟩ := V_9_10.out.box_at (i := 2) (j := 4) rfl rfl
          go_simp
          refine hK.out _ _ (hHeld) (fun hHeld => ?_)
          clear hK K
          try simp only [Act.put, sA, sZ, sS]
          refine wpAnyH_ready (rs := [11]) (by kernel_rfl) (by simp) ?_
          refine AllReadyH.cons (List.getElem?_toArray.trans rfl) (fun K hK => ?_) AllReadyH.nil
          have y0 := (V_9_10.out.box_at (i := 0) (j := 0) rfl rfl).1
          obtain ⟨g4, cap4, w4, hr4, hv4, _⟩ := run_app_rv V_9_10.out (i := 4) rfl (by rw [HUS.out, ← HQN.out]) 35 C9 pn d9 pa HPN.out.symm y0 (by omega)
          have V4 := Lib.hid (show Hp W ([lbox gl N A n c go P pn pc Q qn qc, nums P pn pc pa, rvals (some ⟨g4, 0, none⟩) (qn + 1) cap4 (us ++ [(C9, d9)]) (ps ++ [pa]), rvals (some ⟨go, 0, none⟩) N N vs F] ++ rowsG vs F ++ rowsG (us ++ [(C9, d9)]) (ps ++ [pa])) w4 by
            have hh := hv4.tail
            rw [HPN.out] at hh ⊢
            exact row_doneG (by rw [HUS.out, ← HQN.out]) (l := [lbox gl N A n c go P pa.length pc Q qn qc, nums P pa.length pc pa, rvals (some ⟨g4, 0, none⟩) (qn + 1) cap4 (us ++ [(C9, d9)]) (ps ++ [pa]), rvals (some ⟨go, 0, none⟩) N N vs F] ++ rowsG vs F) hh)
          refine step_app_run rfl (.tmp 17) (.tmp 23) 35 rfl hr4 rfl rfl ?_
          refine hK.out _ _ (List.forall_mem_cons.2 ⟨⟨(V4.out.box_at (i := 0) (j := 3) rfl rfl).1, (V4.out.box_at (i := 0) (j := 3) rfl rfl).2.2⟩, fun _ h => by simp at h⟩) (fun hHeld => ?_)
          clear hK K
          try simp only [Act.put, sA, sZ, sS]
          refine tk 12 ?_ rfl ?_ ?_; rotate_left; focus (intro w hSw; clear hSw; go_simp; try (with_reducible rfl))
          try simp only [Act.put, sA, sZ, sS]
          refine tk 13 ?_ rfl ?_ ?_; rotate_left; focus (intro w hSw; clear hSw; go_simp; try (with_reducible rfl))
          try simp only [Act.put, sA, sZ, sS]
          refine wpAnyH_ready (rs := [14]) (by kernel_rfl) (by simp) ?_
          refine AllReadyH.cons (List.getElem?_toArray.trans rfl) (fun K hK => ?_) AllReadyH.nil
          obtain ⟨x1, x2, x3⟩ := V4.out.box_at (i := 0) (j := 4) rfl rfl
          have V5 := Lib.hid (V4.out.box_set (i := 0) rfl 4 (.slice (some ⟨g4, 0, none⟩) (qn + 1) cap4))
          go_simp
          refine hK.out _ _ ((List.forall_mem_cons.2 ⟨⟨(V5.out.box_at (i := 0) (j := 3) rfl rfl).1, (V5.out.box_at (i := 0) (j := 3) rfl rfl).2.2⟩, fun _ h => by simp at h⟩)) (fun hHeld => ?_)
          clear hK K
          try simp only [Act.put, sA, sZ, sS]
          refine wpAnyH_done (by kernel_rfl) ?_ _
          have HQ2 := Lib.hid (show qn + 1 = (ps ++ [pa]).length by rw [HQN.out]; simp)
          go_wp2_with fail
          go_end0
          refine ⟨P, pc, some ⟨g4, 0, none⟩, qn + 1, cap4, us ++ [(C9, d9)], rfl, by rw [HPV.out]; exact HQ2.out, by rw [List.length_append, HUS.out]; rfl, ?_⟩
          have hh := V5.out
          rw [HPN.out] at hh
          rw [HPV.out]
          exact hh
        exact AllReadyH.nil
      exact AllReadyH.nil

    · have g1 : ((q : Int) == (E : Int)) = false := beq_no hqe
      have hqE : q < E := by have := HE.out; omega
      have hqN1 : (q : Int) < g.n - 1 := by have := HO.out.n1; have := HN.out; have := HE.out; omega
      have HQ1 := Lib.hid hqN1
      clear hqe hqN1
      obtain ⟨row, hrow⟩ : ∃ row, row = outF g (q : Int) := ⟨_, rfl⟩
      have HROW := Lib.hid hrow
      obtain ⟨v, hv⟩ : ∃ v, vs[q]? = some v := ⟨_, List.getElem?_eq_getElem (by rw [HVS.out]; exact hq)⟩
      have hr : F[q]? = some row := by rw [HF.out, rowsFK_get (by rw [← HN.out]; exact hq), if_pos hq, hrow]
      have HV := Lib.hid hv
      have HR := Lib.hid hr
      obtain ⟨vA, vc⟩ := v
      obtain ⟨RL, hRL⟩ : ∃ RL, RL = row.length := ⟨_, rfl⟩
      have HRL := Lib.hid hRL
      have hRL2 : RL ≤ 6000 := by rw [hRL, hrow]; exact Nat.le_trans (outF_len _ _) (by have := HO.out.len; omega)
      obtain ⟨x1, _, x3⟩ := V1.out.rv_at (i := 3) rfl hv hr
      dsimp only at x1
      rw [← hRL] at x1
      obtain ⟨r2, _, r9⟩ := V1.out.box_at (i := 0) (j := 2) rfl rfl
      clear hrow hv hr hRL
      go_wp2_with fail
      clear x1 x3 r2 r9
      have V2 := Lib.hid (show Hp W ([lbox gl N A n c go P pn pc Q qn qc, nums P pn pc pa, rvals Q qn qc us (ps ++ (partL g (q : Int) 0).map (pa ++ ·)), rvals (some ⟨go, 0, none⟩) N N vs F] ++ rowsG vs F ++ rowsG us (ps ++ (partL g (q : Int) 0).map (pa ++ ·))) w1 by rw [partL_zero, List.map_nil, List.append_nil]; exact V1.out)
      have HZ := Lib.hid (show qn = (ps ++ (partL g (q : Int) 0).map (pa ++ ·)).length by rw [partL_zero, List.map_nil, List.append_nil]; exact HQN.out)
      clear V1
      try rw [g1]
      go_loopw [35] (fun cv wr => ∃ (k : Nat) (P : Option Addr) (pc : Nat) (Q : Option Addr) (qn qc : Nat) (us : List (Option Addr × Nat)), cv = .int .i64 (k : Int) ∧ k ≤ RL ∧ qn = (ps ++ (partL g (q : Int) k).map (pa ++ ·)).length ∧ us.length = qn ∧ Hp W ([lbox gl N A n c go P pn pc Q qn qc, nums P pn pc pa, rvals Q qn qc us (ps ++ (partL g (q : Int) k).map (pa ++ ·)), rvals (some ⟨go, 0, none⟩) N N vs F] ++ rowsG vs F ++ rowsG us (ps ++ (partL g (q : Int) k).map (pa ++ ·))) wr) (fun cv _ => RL - (intOf cv).toNat)
      case atStart => exact ⟨0, P, pc, Q, qn, qc, us, rfl, Nat.zero_le _, HZ.out, HUS.out, V2.out⟩
      case round =>
        clear HZ V2 HQN HUS
        obtain ⟨k, P, pc, Q, qn, qc, us, rfl, hk, hqn, hus, hV⟩ := hrel
        obtain ⟨wi, rfl⟩ : ∃ wi : World, wi = wr := ⟨_, rfl⟩
        have V := Lib.hid hV
        have HQN := Lib.hid hqn
        have HUS := Lib.hid hus
        clear hV hqn hus
        by_cases hlt : k < RL
        case neg =>
          obtain rfl : k = RL := by omega
          have HPA := Lib.hid (show partL g (q : Int) k = g.pv (q : Int) by rw [HRL.out, HROW.out]; exact partL_all HO.out (by omega) HQ1.out)
          go_wp2_with fail
          go_end0
          have hh := V.out
          have h2 := HQN.out
          rw [HPA.out] at hh h2
          rw [HPN.out] at hh
          exact ⟨P, pc, Q, qn, qc, us, rfl, h2, HUS.out, hh⟩
        obtain ⟨ps2, hps2⟩ : ∃ ps2, ps2 = ps ++ (partL g (q : Int) k).map (pa ++ ·) := ⟨_, rfl⟩
        have V1 := Lib.hid (show Hp W ([lbox gl N A n c go P pn pc Q qn qc, nums P pn pc pa, rvals Q qn qc us ps2, rvals (some ⟨go, 0, none⟩) N N vs F] ++ rowsG vs F ++ rowsG us ps2) wi by rw [hps2]; exact V.out)
        have HP2 := Lib.hid hps2
        have hkr : k < row.length := by rw [← HRL.out]; exact hlt
        obtain ⟨i, hi⟩ : ∃ i, row[k]? = some i := ⟨_, List.getElem?_eq_getElem hkr⟩
        have hIF : (outF g (q : Int))[k]? = some i := by rw [← HROW.out]; exact hi
        obtain ⟨i0, i1, i2, _⟩ := outF_mem (List.mem_of_getElem? hIF)
        obtain ⟨I, rfl⟩ := Int.eq_ofNat_of_zero_le i0
        have hIn : I < n := by have := HG.out.len; omega
        obtain ⟨⟨af, at', ac⟩, b, off, ha, hae, hA, hb, c0, c1, c2⟩ := HG.out.at hIn
        have har := HO.out.arc _ (List.mem_of_getElem? ha)
        have hpl := pv_len_sum HO.out (by omega) HQ1.out (List.mem_of_getElem? hIF)
        dsimp only at har c0 c1 c2
        obtain ⟨t, rfl⟩ := Int.eq_ofNat_of_zero_le (show 0 ≤ at' by omega)
        rw [← hae] at hpl i2
        dsimp only at hpl i2
        subst i2
        have htq : q < t := by omega
        have htN : t < N := by have := HN.out; omega
        have HPS2 := Lib.hid (show ps2.length + (g.pv (t : Int)).length ≤ 2000 by
          have h1 := HPS.out
          rw [hps2, List.length_append, List.length_map]
          have h2 := partL_le HO.out (q := (q : Int)) (by omega) HQ1.out (k + 1)
          rw [partL_step hIF, List.length_append, List.length_map, ← hae] at h2
          dsimp only at h2
          omega)
        have HNX := Lib.hid (show ps2 ++ (g.pv (t : Int)).map ((pa ++ [(I : Int)]) ++ ·) = ps ++ (partL g (q : Int) (k + 1)).map (pa ++ ·) by
          rw [partL_step hIF, List.map_append, map_pre, ← hae, hps2, List.append_assoc])
        have hqn2 : qn ≤ 2000 := by have := HQN.out; have := HPS2.out; rw [← hps2] at *; omega
        subst hA
        have hci : CellsIn wi vA (ints row) := V1.out.cells (i := 4 + q) (by rw [List.append_assoc, List.getElem?_append_right (by simp), List.getElem?_append_left (by simp [rowsG]; have := HVS.out; have := (List.getElem?_eq_some_iff.1 HR.out).1; omega)]; simpa using rowsG_get HV.out HR.out) rfl
        obtain ⟨br, or', rfl, hbr, hcr⟩ := hci.int (j := k) hkr
        rw [List.getD_eq_getElem?_getD, hi] at hcr
        have hI3 : I * 3 ≤ 20000 := by omega
        have HI := Lib.hid (show i0 = i0 from rfl)
        clear hps2 hkr hi hIF i0 i1 ha hae har hci hpl HI
        obtain ⟨r3, _, r9⟩ := V1.out.box_at (i := 0) (j := 3) rfl rfl
        obtain ⟨wy, hwy⟩ : ∃ z, z = wi.alloc (.cells #[.int .i64 (I : Int)] 3) := ⟨_, rfl⟩
        have V2 := Lib.hid (show Hp W (box 3 wi.heap.size [.int .i64 (I : Int)] :: ([lbox gl N (some ⟨b, off, none⟩) n c go P pn pc Q qn qc, nums P pn pc pa, rvals Q qn qc us ps2, rvals (some ⟨go, 0, none⟩) N N vs F] ++ rowsG vs F ++ rowsG us ps2)) wy by rw [hwy]; exact V1.out.box_new _ _)
        have y0 := (V2.out.box_at (i := 0) (j := 0) rfl rfl).1
        obtain ⟨g5, cap5, w5, hr5, hv5, _⟩ := run_app_num V2.out (i := 2) rfl 27 (I : Int) y0 (by omega)
        have V3 := Lib.hid (show Hp W ([lbox gl N (some ⟨b, off, none⟩) n c go P pn pc Q qn qc, nums (some ⟨g5, 0, none⟩) (pn + 1) cap5 (pa ++ [(I : Int)]), rvals Q qn qc us ps2, rvals (some ⟨go, 0, none⟩) N N vs F] ++ rowsG vs F ++ rowsG us ps2) w5 from hv5.tail)
        have HY := Lib.hid hwy
        have HR5 := Lib.hid hr5
        have h5 := V3.out.box_at (i := 0) (j := 3) rfl rfl
        obtain ⟨s1, s2, s3⟩ := h5
        have V4 := Lib.hid (V3.out.box_set (i := 0) rfl 3 (.slice (some ⟨g5, 0, none⟩) (pn + 1) cap5))
        obtain ⟨w6, hw6⟩ : ∃ z, z = w5.setCell ⟨gl, 3, none⟩ (.slice (some ⟨g5, 0, none⟩) (pn + 1) cap5) := ⟨_, rfl⟩
        have H6 := Lib.hid hw6
        have V5 := Lib.hid (show Hp W ([lbox gl N (some ⟨b, off, none⟩) n c go (some ⟨g5, 0, none⟩) (pn + 1) cap5 Q qn qc, nums (some ⟨g5, 0, none⟩) (pn + 1) cap5 (pa ++ [(I : Int)]), rvals Q qn qc us ps2, rvals (some ⟨go, 0, none⟩) N N vs F] ++ rowsG vs F ++ rowsG us ps2) w6 by rw [hw6]; exact V4.out)
        clear hwy y0 hv5 hr5 hw6 V4
        go_upto_region 6 with (at_builtin; rw [← HY.out]; refine wpList_app_run rfl (.tmp 43) (.tmp 45) 27 rfl HR5.out rfl rfl ?_)
        rw [← H6.out]
        clear H6 HY HR5 r3 r9 s1 s2 s3 V1 V2 V3
        have c1' := (V5.out.below.cell (p := ⟨b, off + I * 3 + 1, none⟩) hb).trans c1
        have hb' := Nat.lt_of_lt_of_le hb V5.out.below.size
        obtain ⟨r2, _, r9⟩ := V5.out.box_at (i := 0) (j := 1) rfl rfl
        go_wp2_with fail
        refine (IH.out w6 t (some ⟨g5, 0, none⟩) (pn + 1) cap5 (pa ++ [(I : Int)]) Q qn qc us ps2 (by omega) htN (by rw [List.length_append, ← HPN.out]; rfl) (by rw [List.length_append, ← HPN.out]; show pn + 1 ≤ t; have := HPN.out; omega) (by rw [HP2.out]; exact HQN.out) HUS.out HPS2.out V5.out).mono ?_
        rintro e w7 ⟨P7, pc7, Q7, qn7, qc7, us7, rfl, hqn7, hus7, hp7⟩
        have HQ7 := Lib.hid hqn7
        have HU7 := Lib.hid hus7
        have V7 := Lib.hid hp7
        clear hqn7 hus7 hp7 c1' hb' r2 r9 V5
        rw [HNX.out] at HQ7 V7
        have hpl : (pa ++ [(I : Int)]).length = pn + 1 := by rw [List.length_append, ← HPN.out]; rfl
        rw [hpl] at V7
        obtain ⟨g7, rfl⟩ := V7.out.head (i := 1) rfl (A := P7) (c := pc7) rfl (by show 0 < pn + 1; omega)
        have hpc7 : pn + 1 ≤ pc7 := (V7.out.cap (i := 1) rfl (A := some ⟨g7, 0, none⟩) (c := pc7) rfl).1
        have hpc8 : pc7 ≤ 9223372036854775807 := by have := (V7.out.cap (i := 1) rfl (A := some ⟨g7, 0, none⟩) (c := pc7) rfl).2; unfold maxLen at this; omega
        have hw7 : IntKind.i64.wrap (pn : Int) = (pn : Int) := IntWalk.i64_in _ (by omega)
        have hw8 : (pn : Int) ≤ (pc7 : Int) := by omega
        clear hpl
        go_upto_region 7 with fail
    
        have hKp : Keep [] w7 := fun _ h => by simp at h
        refine wp_region_held_drew (S := Keep _) (by kernel_rfl) hKp.drew (fun hHeld => ?_)
        have V7d := Lib.hid (V7.out.go (bdrew _))
        refine tk 0 ?_ rfl ?_ ?_; rotate_left; focus (intro w hSw; clear hSw; go_simp; try (with_reducible rfl))
        try simp only [Act.put, sA, sZ, sS]
        refine tk 1 ?_ rfl ?_ ?_; rotate_left; focus (intro w hSw; clear hSw; go_simp; try (with_reducible rfl))
        try simp only [Act.put, sA, sZ, sS]
        refine tk 2 ?_ rfl ?_ ?_; rotate_left; focus (intro w hSw; clear hSw; go_simp; try (with_reducible rfl))
        try simp only [Act.put, sA, sZ, sS]
        refine tk 3 ?_ rfl ?_ ?_; rotate_left; focus (intro w hSw; clear hSw; go_simp; try (with_reducible rfl))
        try simp only [Act.put, sA, sZ, sS]
        refine tk 5 ?_ rfl ?_ ?_; rotate_left; focus (intro w hSw; clear hSw; go_simp; try (with_reducible rfl))
        try simp only [Act.put, sA, sZ, sS]
        refine tk 6 ?_ rfl ?_ ?_; rotate_left; focus (intro w hSw; clear hSw; go_simp; try (with_reducible rfl))
        try simp only [Act.put, sA, sZ, sS]
        refine tk 7 ?_ rfl ?_ ?_; rotate_left; focus (intro w hSw; clear hSw; go_simp; try (with_reducible rfl))
        try simp only [Act.put, sA, sZ, sS]
        refine wpAnyH_ready (rs := [4, 8]) (by kernel_rfl) (by simp) ?_
        refine AllReadyH.cons (List.getElem?_toArray.trans rfl) (fun K hK => ?_) ?_
        · obtain ⟨x1, x2, x3⟩ := V7d.out.box_at (i := 0) (j := 3) rfl rfl
          go_simp
          refine hK.out _ _ (hHeld) (fun hHeld => ?_)
          clear hK K
          try simp only [Act.put, sA, sZ, sS]
          refine wpAnyH_ready (rs := [8]) (by kernel_rfl) (by simp) ?_
          refine AllReadyH.cons (List.getElem?_toArray.trans rfl) (fun K hK => ?_) AllReadyH.nil
          obtain ⟨x1, x2, x3⟩ := V7d.out.box_at (i := 0) (j := 3) rfl rfl
          go_simp
          refine hK.out _ _ (hHeld) (fun hHeld => ?_)
          clear hK K
          try simp only [Act.put, sA, sZ, sS]
          refine tk 9 ?_ rfl ?_ ?_; rotate_left; focus (intro w hSw; clear hSw; go_simp; try (with_reducible rfl))
          try simp only [Act.put, sA, sZ, sS]
          refine tk 10 ?_ rfl ?_ ?_; rotate_left; focus (intro w hSw; clear hSw; go_simp; try (with_reducible rfl))
          try simp only [Act.put, sA, sZ, sS]
          refine tk 11 ?_ rfl ?_ ?_; rotate_left; focus (intro w hSw; clear hSw; go_simp; try (with_reducible rfl))
          try simp only [Act.put, sA, sZ, sS]
          refine tk 12 ?_ rfl ?_ ?_; rotate_left; focus (intro w hSw; clear hSw; go_simp; try (with_reducible rfl))
          try simp only [Act.put, sA, sZ, sS]
          refine tk 13 ?_ rfl ?_ ?_; rotate_left; focus (intro w hSw; clear hSw; go_simp; try (with_reducible rfl))
          try simp only [Act.put, sA, sZ, sS]
          refine wpAnyH_ready (rs := [14]) (by kernel_rfl) (by simp) ?_
          refine AllReadyH.cons (List.getElem?_toArray.trans rfl) (fun K hK => ?_) AllReadyH.nil
          obtain ⟨x1, x2, x3⟩ := V7d.out.box_at (i := 0) (j := 3) rfl rfl
          have V8 := Lib.hid ((V7d.out.box_set (i := 0) rfl 3 (.slice (some ⟨g7, 0, none⟩) pn pc7)).cut (i := 1) rfl)
          go_simp
          refine hK.out _ _ ((fun _ h => by simp at h)) (fun hHeld => ?_)
          clear hK K
          try simp only [Act.put, sA, sZ, sS]
          refine wpAnyH_done (by kernel_rfl) ?_ _
          go_wp2_with fail
          go_roundw
          case rel => exact ⟨k + 1, some ⟨g7, 0, none⟩, pc7, Q7, qn7, qc7, us7, by go_num, by omega, HQ7.out, HU7.out, V8.out⟩
          case measure => simp [intOf]; omega
        refine AllReadyH.cons (List.getElem?_toArray.trans rfl) (fun K hK => ?_) ?_
        · obtain ⟨x1, x2, x3⟩ := V7d.out.box_at (i := 0) (j := 3) rfl rfl
          go_simp
          refine hK.out _ _ (hHeld) (fun hHeld => ?_)
          clear hK K
          try simp only [Act.put, sA, sZ, sS]
          refine tk 9 ?_ rfl ?_ ?_; rotate_left; focus (intro w hSw; clear hSw; go_simp; try (with_reducible rfl))
          try simp only [Act.put, sA, sZ, sS]
          refine tk 10 ?_ rfl ?_ ?_; rotate_left; focus (intro w hSw; clear hSw; go_simp; try (with_reducible rfl))
          try simp only [Act.put, sA, sZ, sS]
          refine wpAnyH_ready (rs := [4]) (by kernel_rfl) (by simp) ?_
          refine AllReadyH.cons (List.getElem?_toArray.trans rfl) (fun K hK => ?_) AllReadyH.nil
          obtain ⟨x1, x2, x3⟩ := V7d.out.box_at (i := 0) (j := 3) rfl rfl
          go_simp
          refine hK.out _ _ (hHeld) (fun hHeld => ?_)
          clear hK K
          try simp only [Act.put, sA, sZ, sS]
          refine tk 11 ?_ rfl ?_ ?_; rotate_left; focus (intro w hSw; clear hSw; go_simp; try (with_reducible rfl))
          try simp only [Act.put, sA, sZ, sS]
          refine tk 12 ?_ rfl ?_ ?_; rotate_left; focus (intro w hSw; clear hSw; go_simp; try (with_reducible rfl))
          try simp only [Act.put, sA, sZ, sS]
          refine tk 13 ?_ rfl ?_ ?_; rotate_left; focus (intro w hSw; clear hSw; go_simp; try (with_reducible rfl))
          try simp only [Act.put, sA, sZ, sS]
          refine wpAnyH_ready (rs := [14]) (by kernel_rfl) (by simp) ?_
          refine AllReadyH.cons (List.getElem?_toArray.trans rfl) (fun K hK => ?_) AllReadyH.nil
          obtain ⟨x1, x2, x3⟩ := V7d.out.box_at (i := 0) (j := 3) rfl rfl
          have V8 := Lib.hid ((V7d.out.box_set (i := 0) rfl 3 (.slice (some ⟨g7, 0, none⟩) pn pc7)).cut (i := 1) rfl)
          go_simp
          refine hK.out _ _ ((fun _ h => by simp at h)) (fun hHeld => ?_)
          clear hK K
          try simp only [Act.put, sA, sZ, sS]
          refine wpAnyH_done (by kernel_rfl) ?_ _
          go_wp2_with fail
          go_roundw
          case rel => exact ⟨k + 1, some ⟨g7, 0, none⟩, pc7, Q7, qn7, qc7, us7, by go_num, by omega, HQ7.out, HU7.out, V8.out⟩
          case measure => simp [intOf]; omega
        exact AllReadyH.nil

end Go.Proofs.Ytdoobdfanalnbaa
