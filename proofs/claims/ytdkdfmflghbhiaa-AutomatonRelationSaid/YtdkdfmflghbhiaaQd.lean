/- Contracts of the program: a new table, a pair more. -/
import Derived.Test.YtdkdfmflghbhiaaQc
namespace Go.Proofs.Ytdkdfmflghbhiaa
open Go.RowKit
set_option linter.unusedVariables false
set_option linter.unusedSimpArgs false
set_option maxRecDepth 100000

set_option maxHeartbeats 2000000 in
theorem newTable_any (lt st : Int) (A : Option Addr) (n c : Nat) (B : Option Addr) (m d : Nat) (lt2 st2 : Int) (A2 : Option Addr) (n2 c2 : Nat) (B2 : Option Addr) (m2 d2 : Nat) (N : Nat) (W w : World) (l : List Itm) (h : Hp W l w) (hn : n ≤ 1000000) (hn2 : n2 ≤ 1000000) (hN : N = (n + 1) * (n2 + 1)) :
    Calls Try.prog 32 #[.agg #[.int .i64 lt, .int .i64 st, .slice A n c, .slice B m d], .agg #[.int .i64 lt2, .int .i64 st2, .slice A2 n2 c2, .slice B2 m2 d2]] w
      fun e w' => ∃ g, e = .returned (.agg #[.int .i64 ((n2 : Int) + 1), .slice (some ⟨g, 0, none⟩) N N]) ∧ Hp W (nums (some ⟨g, 0, none⟩) N N (List.replicate N 0) :: l) w' := by
  have hb := Nat.mul_le_mul (show n + 1 ≤ 1000001 by omega) (show n2 + 1 ≤ 1000001 by omega)
  have hb1 : N ≤ 10000000000000 := by omega
  have he : ((n : Int) + 1) * ((n2 : Int) + 1) = (N : Int) := by rw [hN]; simp
  have b1 : 0 ≤ ((n : Int) + 1) * ((n2 : Int) + 1) := by omega
  have b2 : ((n : Int) + 1) * ((n2 : Int) + 1) ≤ 10000000000000 := by omega
  have hmk := make_nums (((n : Int) + 1) * ((n2 : Int) + 1)) N he hb1
  have V := Lib.hid ((((h.box_new 25 [.int .i64 lt, .int .i64 st, .slice A n c, .slice B m d]).box_new 25 [.int .i64 lt2, .int .i64 st2, .slice A2 n2 c2, .slice B2 m2 d2]).box_new 65 [.int .i64 ((n2 : Int) + 1), .slice (some ⟨w.heap.size + 1 + 1 + 1, 0, none⟩) N N]).made_nums N hb1).drop2.drop2.drop2
  have HR := Lib.hid (show (List.replicate N (Value.int .i64 0)).toArray = Array.replicate N (Value.int .i64 0) by simp)
  clear he hN hb h
  go_enter Try.func32, Try.ntmps32
  go_wp2
  exact bodyPost_ret (v := .agg #[.int .i64 ((n2 : Int) + 1), .slice (some ⟨w.heap.size + 1 + 1 + 1, 0, none⟩) N N]) (by simp [results, Try.results32, go_sem]) rfl ⟨w.heap.size + 1 + 1 + 1, rfl, by have := V.out; simpa using this⟩
theorem pair_info : (Try.prog.info? 35).map (fun i => (i.zero, i.size, i.bytes)) = some (some (.agg #[.int .i64 0, .int .i64 0]), 2, 16) := by kernel_rfl
theorem run_app_pair {W w : World} {l : List Itm} {i : Nat} {A : Option Addr} {n c : Nat} {ps : List (Int × Int)} (h : Hp W l w) (hi : l[i]? = some (prow 35 A n c ps)) (ty : TypeId) {b : Nat} (p : Int × Int) (hb : w.cell? ⟨b, 0, none⟩ = some (.int .i64 p.1)) (hb2 : w.cell? ⟨b, 1, none⟩ = some (.int .i64 p.2)) (hn : n ≤ 4000000000000) :
    ∃ g cap w', (Builtin.append_ #[28, 28] ty #[.slice A n c, .slice (some ⟨b, 0, none⟩) 1 1]).run Try.prog w = .ok (.slice (some ⟨g, 0, none⟩) (n + 1) cap) w' ∧
      Hp W (l.set i (prow 35 (some ⟨g, 0, none⟩) (n + 1) cap (ps ++ [p]))) w' ∧ w.grownBy w' (Value.slice A n c).ownBlock := by
  have := run_app h hi (t := 28) (ty := ty) Try.underlying28 pair_info rfl (show 0 < 2 by decide) (by decide) (A := A) (c := c) rfl (b := b) [.int .i64 p.1, .int .i64 p.2] rfl (fun j u hu => by
    match j, hu with
    | 0, hu => injection hu with hu; subst hu; exact hb
    | 1, hu => injection hu with hu; subst hu; exact hb2
    | j + 2, hu => simp at hu) (fun u hu => by
      rcases List.mem_cons.1 hu with e | e
      · rw [e]; rfl
      · rw [List.mem_singleton.1 e]; rfl) hn
  simpa [prow, pcells_snoc] using this
set_option maxHeartbeats 4000000 in
theorem add_any (A B : Au) (kk p1 p2 wd x : Int) (gr gt nt ct : Nat) (Ap : Option Addr) (np cp : Nat) (An : Option Addr) (nn cn : Nat) (Af : Option Addr) (nf cf : Nat) (ps : List (Int × Int)) (fd tab : List Int) (W w : World) (rest : List Itm) (hw : wd = (B.n : Int) + 1) (hp : in2 A B (p1, p2)) (hA : A.n ≤ 1000000) (hB : B.n ≤ 1000000) (ht : Tab2 A B ps tab)
    (hnp : np ≤ 2000000000000) (hnf : nf ≤ 2000000000000) (h : Hp W (box 52 gr [.int .i64 kk, .slice Ap np cp, .slice An nn cn, .slice Af nf cf] :: nums (some ⟨gt, 0, none⟩) nt ct tab :: prow 35 Ap np cp ps :: nums Af nf cf fd :: rest) w) :
    Calls Try.prog 45 #[.pointer (some ⟨gr, 0, none⟩), .agg #[.int .i64 wd, .slice (some ⟨gt, 0, none⟩) nt ct], .agg #[.int .i64 p1, .int .i64 p2], .int .i64 x] w
      fun e w' => ∃ Ap' cp' Af' cf', e = .returned (.tuple #[]) ∧ Hp W (box 52 gr [.int .i64 kk, .slice Ap' (np + 1) cp', .slice An nn cn, .slice Af' (nf + 1) cf'] :: nums (some ⟨gt, 0, none⟩) nt ct (tab.set (pl2 B (p1, p2)) ((np : Int) + 1)) :: prow 35 Ap' (np + 1) cp' (ps ++ [(p1, p2)]) :: nums Af' (nf + 1) cf' (fd ++ [x]) :: rest) w' := by
  obtain ⟨wz, hwz⟩ : ∃ z, z = (w.alloc (.cells #[.int .i64 wd, .slice (some ⟨gt, 0, none⟩) nt ct] 65)).alloc (.cells #[.int .i64 p1, .int .i64 p2] 35) := ⟨_, rfl⟩
  have V := Lib.hid (show Hp W (box 35 (w.heap.size + 1) [.int .i64 p1, .int .i64 p2] :: box 65 w.heap.size [.int .i64 wd, .slice (some ⟨gt, 0, none⟩) nt ct] :: box 52 gr [.int .i64 kk, .slice Ap np cp, .slice An nn cn, .slice Af nf cf] :: nums (some ⟨gt, 0, none⟩) nt ct tab :: prow 35 Ap np cp ps :: nums Af nf cf fd :: rest) wz by
    have := (h.box_new 65 [.int .i64 wd, .slice (some ⟨gt, 0, none⟩) nt ct]).box_new 35 [.int .i64 p1, .int .i64 p2]
    rw [hwz]; simpa using this)
  have HZ := Lib.hid hwz
  have HP := Lib.hid hp
  have HW := Lib.hid hw
  have HT := Lib.hid ht
  clear hwz hp hw h ht
  go_enter Try.func45, Try.ntmps45
  go_upto_region 1 with fail
  rw [← HZ.out]
  clear HZ
  have hKp : Keep [(⟨w.heap.size + 1, 0, none⟩, .int .i64 p1), (⟨w.heap.size + 1, 1, none⟩, .int .i64 p2), (⟨w.heap.size, 0, none⟩, .int .i64 wd), (⟨w.heap.size, 1, none⟩, .slice (some ⟨gt, 0, none⟩) nt ct), (⟨gr, 1, none⟩, .slice Ap np cp)] wz := List.forall_mem_cons.2 ⟨⟨(V.out.box_at (i := 0) (j := 0) rfl rfl).1, (V.out.box_at (i := 0) (j := 0) rfl rfl).2.2⟩, List.forall_mem_cons.2 ⟨⟨(V.out.box_at (i := 0) (j := 1) rfl rfl).1, (V.out.box_at (i := 0) (j := 1) rfl rfl).2.2⟩, List.forall_mem_cons.2 ⟨⟨(V.out.box_at (i := 1) (j := 0) rfl rfl).1, (V.out.box_at (i := 1) (j := 0) rfl rfl).2.2⟩, List.forall_mem_cons.2 ⟨⟨(V.out.box_at (i := 1) (j := 1) rfl rfl).1, (V.out.box_at (i := 1) (j := 1) rfl rfl).2.2⟩, List.forall_mem_cons.2 ⟨⟨(V.out.box_at (i := 2) (j := 1) rfl rfl).1, (V.out.box_at (i := 2) (j := 1) rfl rfl).2.2⟩, fun _ h => by simp at h⟩⟩⟩⟩⟩
  refine wp_region_held_drew (S := Keep _) (by kernel_rfl) hKp.drew (fun hHeld => ?_)
  have Vd := Lib.hid (V.out.go (bdrew _))
  refine tk 0 ?_ rfl ?_ ?_; rotate_left
  · intro wl hSw
    have hSw : Keep _ wl := hSw
    have k0 : wl.cell? ⟨w.heap.size, 0, none⟩ = some (.int .i64 wd) := (hSw _ (.tail _ (.tail _ (.head _)))).1
    have k1 : wl.cell? ⟨w.heap.size, 1, none⟩ = some (.slice (some ⟨gt, 0, none⟩) nt ct) := (hSw _ (.tail _ (.tail _ (.tail _ (.head _))))).1
    clear hSw
    go_simp
    try (with_reducible rfl)
  try simp only [Act.put, sA, sZ, sS]
  refine tk 1 ?_ rfl ?_ ?_; rotate_left
  · intro wl hSw
    have hSw : Keep _ wl := hSw
    have k0 : wl.cell? ⟨w.heap.size + 1, 0, none⟩ = some (.int .i64 p1) := (hSw _ (.head _)).1
    have k1 : wl.cell? ⟨w.heap.size + 1, 1, none⟩ = some (.int .i64 p2) := (hSw _ (.tail _ (.head _))).1
    clear hSw
    go_simp
    try (with_reducible rfl)
  try simp only [Act.put, sA, sZ, sS]
  refine tk 2 ?_ rfl ?_ ?_; rotate_left; focus (intro w hSw; clear hSw; go_simp; try (with_reducible rfl))
  try simp only [Act.put, sA, sZ, sS]
  refine tk 3 ?_ rfl ?_ ?_; rotate_left; focus (intro w hSw; clear hSw; go_simp; try (with_reducible rfl))
  try simp only [Act.put, sA, sZ, sS]
  refine tk 4 ?_ rfl ?_ ?_; rotate_left; focus (intro w hSw; clear hSw; go_simp; try (with_reducible rfl))
  try simp only [Act.put, sA, sZ, sS]
  refine tk 5 ?_ rfl ?_ ?_; rotate_left
  · intro wl hSw
    have hSw : Keep _ wl := hSw
    have k0 : wl.cell? ⟨gr, 1, none⟩ = some (.slice Ap np cp) := (hSw _ (.tail _ (.tail _ (.tail _ (.tail _ (.head _)))))).1
    clear hSw
    go_simp
    try (with_reducible rfl)
  try simp only [Act.put, sA, sZ, sS]
  refine tk 6 ?_ rfl ?_ ?_; rotate_left; focus (intro w hSw; clear hSw; go_simp; try (with_reducible rfl))
  try simp only [Act.put, sA, sZ, sS]
  refine wpAnyH_ready (rs := [7]) (by kernel_rfl) (by simp) ?_
  refine AllReadyH.cons (List.getElem?_toArray.trans rfl) (fun K hK => ?_) AllReadyH.nil
  go_simp
  refine (put_any A B p1 p2 wd np gt nt ct ps tab W _ _ 3 HW.out HP.out hA hB HT.out (by omega) (by omega) Vd.out rfl).mono ?_
  rintro e w3 ⟨rfl, hv3⟩
  try go_wp2_with fail
  have V3 := Lib.hid hv3
  clear hv3
  refine hK.out _ _ (List.forall_mem_cons.2 ⟨⟨(V3.out.box_at (i := 0) (j := 0) rfl rfl).1, (V3.out.box_at (i := 0) (j := 0) rfl rfl).2.2⟩, List.forall_mem_cons.2 ⟨⟨(V3.out.box_at (i := 0) (j := 1) rfl rfl).1, (V3.out.box_at (i := 0) (j := 1) rfl rfl).2.2⟩, List.forall_mem_cons.2 ⟨⟨(V3.out.box_at (i := 1) (j := 0) rfl rfl).1, (V3.out.box_at (i := 1) (j := 0) rfl rfl).2.2⟩, List.forall_mem_cons.2 ⟨⟨(V3.out.box_at (i := 1) (j := 1) rfl rfl).1, (V3.out.box_at (i := 1) (j := 1) rfl rfl).2.2⟩, List.forall_mem_cons.2 ⟨⟨(V3.out.box_at (i := 2) (j := 1) rfl rfl).1, (V3.out.box_at (i := 2) (j := 1) rfl rfl).2.2⟩, fun _ h => by simp at h⟩⟩⟩⟩⟩) (fun hHeld => ?_)
  clear hK K
  try simp only [Act.put, sA, sZ, sS]
  refine wpAnyH_done (by kernel_rfl) ?_ _
  clear hKp hHeld Vd V
  go_upto_region 2 with fail
  go_cut [] (fun wx => ∃ g4 cap4, Hp W (box 52 gr [.int .i64 kk, .slice (some ⟨g4, 0, none⟩) (np + 1) cap4, .slice An nn cn, .slice Af nf cf] :: nums (some ⟨gt, 0, none⟩) nt ct (tab.set (pl2 B (p1, p2)) ((np : Int) + 1)) :: prow 35 (some ⟨g4, 0, none⟩) (np + 1) cap4 (ps ++ [(p1, p2)]) :: nums Af nf cf fd :: rest) wx)
  case first =>
    have hKp : Keep [(⟨w.heap.size + 1, 0, none⟩, .int .i64 p1), (⟨w.heap.size + 1, 1, none⟩, .int .i64 p2)] w3 := List.forall_mem_cons.2 ⟨⟨(V3.out.box_at (i := 0) (j := 0) rfl rfl).1, (V3.out.box_at (i := 0) (j := 0) rfl rfl).2.2⟩, List.forall_mem_cons.2 ⟨⟨(V3.out.box_at (i := 0) (j := 1) rfl rfl).1, (V3.out.box_at (i := 0) (j := 1) rfl rfl).2.2⟩, fun _ h => by simp at h⟩⟩
    refine wp_region_held_drew (S := Keep _) (by kernel_rfl) hKp.drew (fun hHeld => ?_)
    have V3d := Lib.hid (V3.out.go (bdrew _))
    refine tk 0 ?_ rfl ?_ ?_; rotate_left; focus (intro w hSw; clear hSw; go_simp; try (with_reducible rfl))
    try simp only [Act.put, sA, sZ, sS]
    refine tk 1 ?_ rfl ?_ ?_; rotate_left; focus (intro w hSw; clear hSw; go_simp; try (with_reducible rfl))
    try simp only [Act.put, sA, sZ, sS]
    refine tk 2 ?_ rfl ?_ ?_; rotate_left; focus (intro w hSw; clear hSw; go_simp; try (with_reducible rfl))
    try simp only [Act.put, sA, sZ, sS]
    refine tk 3 ?_ rfl ?_ ?_; rotate_left; focus (intro w hSw; clear hSw; go_simp; try (with_reducible rfl))
    try simp only [Act.put, sA, sZ, sS]
    refine tk 5 ?_ rfl ?_ ?_; rotate_left
    · intro wl hSw
      have hSw : Keep _ wl := hSw
      have k0 : wl.cell? ⟨w.heap.size + 1, 0, none⟩ = some (.int .i64 p1) := (hSw _ (.head _)).1
      have k1 : wl.cell? ⟨w.heap.size + 1, 1, none⟩ = some (.int .i64 p2) := (hSw _ (.tail _ (.head _))).1
      clear hSw
      go_simp
      try (with_reducible rfl)
    try simp only [Act.put, sA, sZ, sS]
    refine wpAnyH_ready (rs := [4, 6]) (by kernel_rfl) (by simp) ?_
    refine AllReadyH.cons (List.getElem?_toArray.trans rfl) (fun K hK => ?_) ?_
    · have y := (V3d.out.box_at (i := 2) (j := 1) rfl rfl).1
      go_simp
      refine hK.out _ _ (hHeld) (fun hHeld => ?_)
      clear hK K
      try simp only [Act.put, sA, sZ, sS]
      refine wpAnyH_ready (rs := [6]) (by kernel_rfl) (by simp) ?_
      refine AllReadyH.cons (List.getElem?_toArray.trans rfl) (fun K hK => ?_) AllReadyH.nil
      obtain ⟨w_4_6, hw_4_6⟩ : ∃ z, z = (w3.alloc (.cells #[.int .i64 p1, .int .i64 p2] 35)).drew := ⟨_, rfl⟩
      have V_4_6 := Lib.hid (show Hp _ (box 35 w3.heap.size [.int .i64 p1, .int .i64 p2] :: _) w_4_6 by rw [hw_4_6]; exact V3d.out.box_new 35 [.int .i64 p1, .int .i64 p2])
      have Bw_4_6 := Lib.hid (show Below w3.drew.heap.size w3.drew w_4_6 by rw [hw_4_6]; exact bnew _ _)
      go_simp
      rw [← hw_4_6]
      clear hw_4_6
      refine hK.out _ _ (hHeld.go Bw_4_6.out) (fun hHeld => ?_)
      clear hK K
      try simp only [Act.put, sA, sZ, sS]
      refine wpAnyH_ready (rs := [7]) (by kernel_rfl) (by simp) ?_
      refine AllReadyH.cons (List.getElem?_toArray.trans rfl) (fun K hK => ?_) AllReadyH.nil
      have y0 := (V_4_6.out.box_at (i := 0) (j := 0) rfl rfl).1
      have y1 := (V_4_6.out.box_at (i := 0) (j := 1) rfl rfl).1
      obtain ⟨g4, cap4, w4, hr4, hv4, _⟩ := run_app_pair V_4_6.out (i := 5) rfl 28 (p1, p2) y0 y1 (by omega)
      have V4 := Lib.hid hv4.tail
      refine step_app_run rfl (.tmp 20) (.tmp 22) 28 rfl hr4 rfl rfl ?_
      refine hK.out _ _ (List.forall_mem_cons.2 ⟨⟨(V4.out.box_at (i := 0) (j := 0) rfl rfl).1, (V4.out.box_at (i := 0) (j := 0) rfl rfl).2.2⟩, List.forall_mem_cons.2 ⟨⟨(V4.out.box_at (i := 0) (j := 1) rfl rfl).1, (V4.out.box_at (i := 0) (j := 1) rfl rfl).2.2⟩, fun _ h => by simp at h⟩⟩) (fun hHeld => ?_)
      clear hK K
      try simp only [Act.put, sA, sZ, sS]
      refine tk 8 ?_ rfl ?_ ?_; rotate_left; focus (intro w hSw; clear hSw; go_simp; try (with_reducible rfl))
      try simp only [Act.put, sA, sZ, sS]
      refine tk 9 ?_ rfl ?_ ?_; rotate_left; focus (intro w hSw; clear hSw; go_simp; try (with_reducible rfl))
      try simp only [Act.put, sA, sZ, sS]
      refine wpAnyH_ready (rs := [10]) (by kernel_rfl) (by simp) ?_
      refine AllReadyH.cons (List.getElem?_toArray.trans rfl) (fun K hK => ?_) AllReadyH.nil
      obtain ⟨r0, o0, z0⟩ := V4.out.box_at (i := 2) (j := 1) rfl rfl
      have V5 := Lib.hid (V4.out.box_set (i := 2) rfl 1 (.slice (some ⟨g4, 0, none⟩) (np + 1) cap4))
      go_simp
      refine hK.out _ _ (List.forall_mem_cons.2 ⟨⟨(V5.out.box_at (i := 0) (j := 0) rfl rfl).1, (V5.out.box_at (i := 0) (j := 0) rfl rfl).2.2⟩, List.forall_mem_cons.2 ⟨⟨(V5.out.box_at (i := 0) (j := 1) rfl rfl).1, (V5.out.box_at (i := 0) (j := 1) rfl rfl).2.2⟩, fun _ h => by simp at h⟩⟩) (fun hHeld => ?_)
      clear hK K
      try simp only [Act.put, sA, sZ, sS]
      refine wpAnyH_done (by kernel_rfl) ?_ _
      go_wp2_with fail
      go_meet
      exact ⟨g4, cap4, V5.out.tail.tail⟩
    refine AllReadyH.cons (List.getElem?_toArray.trans rfl) (fun K hK => ?_) ?_
    · obtain ⟨w_6, hw_6⟩ : ∃ z, z = (w3.alloc (.cells #[.int .i64 p1, .int .i64 p2] 35)).drew := ⟨_, rfl⟩
      have V_6 := Lib.hid (show Hp _ (box 35 w3.heap.size [.int .i64 p1, .int .i64 p2] :: _) w_6 by rw [hw_6]; exact V3d.out.box_new 35 [.int .i64 p1, .int .i64 p2])
      have Bw_6 := Lib.hid (show Below w3.drew.heap.size w3.drew w_6 by rw [hw_6]; exact bnew _ _)
      go_simp
      rw [← hw_6]
      clear hw_6
      refine hK.out _ _ (hHeld.go Bw_6.out) (fun hHeld => ?_)
      clear hK K
      try simp only [Act.put, sA, sZ, sS]
      refine wpAnyH_ready (rs := [4]) (by kernel_rfl) (by simp) ?_
      refine AllReadyH.cons (List.getElem?_toArray.trans rfl) (fun K hK => ?_) AllReadyH.nil
      have y := (V_6.out.box_at (i := 3) (j := 1) rfl rfl).1
      go_simp
      refine hK.out _ _ (hHeld) (fun hHeld => ?_)
      clear hK K
      try simp only [Act.put, sA, sZ, sS]
      refine wpAnyH_ready (rs := [7]) (by kernel_rfl) (by simp) ?_
      refine AllReadyH.cons (List.getElem?_toArray.trans rfl) (fun K hK => ?_) AllReadyH.nil
      have y0 := (V_6.out.box_at (i := 0) (j := 0) rfl rfl).1
      have y1 := (V_6.out.box_at (i := 0) (j := 1) rfl rfl).1
      obtain ⟨g4, cap4, w4, hr4, hv4, _⟩ := run_app_pair V_6.out (i := 5) rfl 28 (p1, p2) y0 y1 (by omega)
      have V4 := Lib.hid hv4.tail
      refine step_app_run rfl (.tmp 20) (.tmp 22) 28 rfl hr4 rfl rfl ?_
      refine hK.out _ _ (List.forall_mem_cons.2 ⟨⟨(V4.out.box_at (i := 0) (j := 0) rfl rfl).1, (V4.out.box_at (i := 0) (j := 0) rfl rfl).2.2⟩, List.forall_mem_cons.2 ⟨⟨(V4.out.box_at (i := 0) (j := 1) rfl rfl).1, (V4.out.box_at (i := 0) (j := 1) rfl rfl).2.2⟩, fun _ h => by simp at h⟩⟩) (fun hHeld => ?_)
      clear hK K
      try simp only [Act.put, sA, sZ, sS]
      refine tk 8 ?_ rfl ?_ ?_; rotate_left; focus (intro w hSw; clear hSw; go_simp; try (with_reducible rfl))
      try simp only [Act.put, sA, sZ, sS]
      refine tk 9 ?_ rfl ?_ ?_; rotate_left; focus (intro w hSw; clear hSw; go_simp; try (with_reducible rfl))
      try simp only [Act.put, sA, sZ, sS]
      refine wpAnyH_ready (rs := [10]) (by kernel_rfl) (by simp) ?_
      refine AllReadyH.cons (List.getElem?_toArray.trans rfl) (fun K hK => ?_) AllReadyH.nil
      obtain ⟨r0, o0, z0⟩ := V4.out.box_at (i := 2) (j := 1) rfl rfl
      have V5 := Lib.hid (V4.out.box_set (i := 2) rfl 1 (.slice (some ⟨g4, 0, none⟩) (np + 1) cap4))
      go_simp
      refine hK.out _ _ (List.forall_mem_cons.2 ⟨⟨(V5.out.box_at (i := 0) (j := 0) rfl rfl).1, (V5.out.box_at (i := 0) (j := 0) rfl rfl).2.2⟩, List.forall_mem_cons.2 ⟨⟨(V5.out.box_at (i := 0) (j := 1) rfl rfl).1, (V5.out.box_at (i := 0) (j := 1) rfl rfl).2.2⟩, fun _ h => by simp at h⟩⟩) (fun hHeld => ?_)
      clear hK K
      try simp only [Act.put, sA, sZ, sS]
      refine wpAnyH_done (by kernel_rfl) ?_ _
      go_wp2_with fail
      go_meet
      exact ⟨g4, cap4, V5.out.tail.tail⟩
    exact AllReadyH.nil
  case rest =>
    obtain ⟨g4, cap4, hv⟩ := hcut
    have V6 := Lib.hid hv
    clear hv V3
    obtain ⟨r0, o0, z0⟩ := V6.out.box_at (i := 0) (j := 3) rfl rfl
    obtain ⟨wy, hwy⟩ : ∃ z, z = wc.alloc (.cells #[.int .i64 x] 3) := ⟨_, rfl⟩
    have V7 := Lib.hid (show Hp W (box 3 wc.heap.size [.int .i64 x] :: box 52 gr [.int .i64 kk, .slice (some ⟨g4, 0, none⟩) (np + 1) cap4, .slice An nn cn, .slice Af nf cf] :: nums (some ⟨gt, 0, none⟩) nt ct (tab.set (pl2 B (p1, p2)) ((np : Int) + 1)) :: prow 35 (some ⟨g4, 0, none⟩) (np + 1) cap4 (ps ++ [(p1, p2)]) :: nums Af nf cf fd :: rest) wy by rw [hwy]; exact V6.out.box_new 3 [.int .i64 x])
    have y0 := (V7.out.box_at (i := 0) (j := 0) rfl rfl).1
    obtain ⟨g5, cap5, w5, hr5, hv5, hg5⟩ := run_app_num V7.out (i := 4) rfl 39 x y0 (by omega)
    have V8 := Lib.hid hv5.tail
    have HY := Lib.hid hwy
    have HR := Lib.hid hr5
    obtain ⟨r1, o1, z1⟩ := V8.out.box_at (i := 0) (j := 3) rfl rfl
    clear hwy y0 hv5 hg5 hr5
    go_wp2_with (at_builtin; rw [← HY.out]; refine wpList_app_run rfl (.tmp 30) (.tmp 32) 39 rfl HR.out rfl rfl ?_)
    have V9 := V8.out.box_set (i := 0) rfl 3 (.slice (some ⟨g5, 0, none⟩) (nf + 1) cap5)
    go_end0
    exact ⟨rfl, _, _, _, _, V9⟩
end Go.Proofs.Ytdkdfmflghbhiaa
