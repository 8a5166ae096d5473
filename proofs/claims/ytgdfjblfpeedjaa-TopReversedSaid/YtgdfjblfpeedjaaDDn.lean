/- Contract of the program: a graph turned round. -/
import Derived.Test.YtgdfjblfpeedjaaDCX
import Derived.Test.YtgdfjblfpeedjaaDCa
import Derived.Deep.RegionLaw
namespace Go.Proofs.Ytgdfjblfpeedjaa
open Go.RowKit
set_option linter.unusedVariables false
set_option linter.unusedSimpArgs false
set_option maxRecDepth 100000

theorem acells_set : ∀ (L : List Ar) (k : Nat) (a : Ar), acells (L.set k a) = (((acells L).set (k * 3) (.int .i64 a.f)).set (k * 3 + 1) (.int .i64 a.t)).set (k * 3 + 2) (.int .i64 a.c)
  | [], k, a => rfl
  | x :: r, 0, a => rfl
  | x :: r, k + 1, a => by
    have h := acells_set r k a
    show .int .i64 x.f :: .int .i64 x.t :: .int .i64 x.c :: acells (r.set k a) = _
    rw [h, show (k + 1) * 3 = k * 3 + 1 + 1 + 1 by omega]
    rfl
theorem Hp.arow_set {W w : World} {l : List Itm} {i g n c : Nat} {L : List Ar} (h : Hp W l w) (hi : l[i]? = some (arow (some ⟨g, 0, none⟩) n c L)) (k : Nat) (a : Ar) :
    Hp W (l.set i (arow (some ⟨g, 0, none⟩) n c (L.set k a))) (((w.setCell ⟨g, k * 3, none⟩ (.int .i64 a.f)).setCell ⟨g, k * 3 + 1, none⟩ (.int .i64 a.t)).setCell ⟨g, k * 3 + 2, none⟩ (.int .i64 a.c)) := by
  have hl := (List.getElem?_eq_some_iff.1 hi).1
  have h1 := h.store hi (g := g) (cap := c) rfl (k * 3) (.int .i64 a.f)
  have h2 := h1.store (i := i) (by rw [List.getElem?_set_self hl]) (g := g) (cap := c) rfl (k * 3 + 1) (.int .i64 a.t)
  have h3 := h2.store (i := i) (by rw [List.getElem?_set_self (by rw [List.length_set]; exact hl)]) (g := g) (cap := c) rfl (k * 3 + 2) (.int .i64 a.c)
  rw [List.set_set, List.set_set] at h3
  unfold arow
  rw [acells_set]
  exact h3
theorem made_arcs (n : Nat) : madeCells (Value.cells (.agg #[.int .i64 0, .int .i64 0, .int .i64 0])) (n * 3) = (acells (List.replicate n ⟨0, 0, 0⟩)).toArray := by
  apply Array.ext
  · rw [size_madeCells]; simp [acells_len]
  · intro i h1 h2
    have e2 : ∀ u, (acells (List.replicate n (⟨0, 0, 0⟩ : Ar)))[i]? = some u → u = .int .i64 0 := fun u hu => by
      obtain ⟨j, a, ha, hc⟩ := acells_get hu
      rw [List.getElem?_replicate] at ha
      split at ha
      · injection ha with ha
        subst ha
        rcases hc with ⟨_, h⟩ | ⟨_, h⟩ | ⟨_, h⟩ <;> exact h
      · cases ha
    have h3 : (acells (List.replicate n (⟨0, 0, 0⟩ : Ar))).toArray[i] = .int .i64 0 := e2 _ (by rw [List.getElem_toArray]; exact List.getElem?_eq_getElem _)
    rw [h3]
    simp only [madeCells, Array.getElem_map, Array.getElem_range]
    show (#[Value.int .i64 0, .int .i64 0, .int .i64 0] : Array Value)[i % 3]! = _
    have h4 : i % 3 < 3 := Nat.mod_lt _ (by decide)
    rcases (show i % 3 = 0 ∨ i % 3 = 1 ∨ i % 3 = 2 by omega) with h | h | h <;> rw [h] <;> rfl
theorem make_arcs (N : Int) (n : Nat) (h : N = (n : Int)) (hn : n ≤ 1000000000000) (w : World) :
    (Instr.makeSlice 24 (.int .i64 N) (.int .i64 N)).run Try.prog w = .ok (.slice (some ⟨w.heap.size, 0, none⟩) n n) (w.alloc (.cells (acells (List.replicate n ⟨0, 0, 0⟩)).toArray 40)) := by
  obtain ⟨i0, hi, hz0, hz1, hz2⟩ := info_parts arc_info
  have := run_make (P := Try.prog) w 24 40 i0 (.agg #[.int .i64 0, .int .i64 0, .int .i64 0]) Try.underlying24 hi hz0 .i64 .i64 N N (by omega) (Int.le_refl _) (by rw [hz2]; omega) (by omega)
  rw [this, hz1, h]
  simp only [Int.toNat_natCast]
  rw [made_arcs]
theorem Hp.made_arcs {W w : World} {l : List Itm} (h : Hp W l w) (n : Nat) (hn : n ≤ 1000000) {ZC : Array Value} (hz : ZC = (acells (List.replicate n ⟨0, 0, 0⟩)).toArray) : Hp W (arow (some ⟨w.heap.size, 0, none⟩) n n (List.replicate n ⟨0, 0, 0⟩) :: l) (w.alloc (.cells ZC 40)) := by
  rw [hz]
  exact h.lit 40 3 n _ (by rw [acells_len]; simp) hn
/-- A graph half turned round. -/
def rvK (g : Gr) (n k : Nat) : List Ar := (g.rs.take k).map (revA g.n) ++ List.replicate (n - k) ⟨0, 0, 0⟩
theorem rvK_len {g : Gr} {n k : Nat} (h : g.rs.length = n) (hk : k ≤ n) : (rvK g n k).length = n := by
  unfold rvK
  rw [List.length_append, List.length_map, List.length_take, List.length_replicate]
  omega
theorem rvK_set {g : Gr} {n k : Nat} {a : Ar} (h : g.rs.length = n) (ha : g.rs[k]? = some a) : (rvK g n k).set k (revA g.n a) = rvK g n (k + 1) := by
  have hk := (List.getElem?_eq_some_iff.1 ha).1
  have hl : ((g.rs.take k).map (revA g.n)).length = k := by rw [List.length_map, List.length_take]; omega
  unfold rvK
  rw [List.set_append_right _ _ (by omega), hl, Nat.sub_self, rvK_step ha, show n - k = (n - (k + 1)) + 1 by omega, List.replicate_succ, List.set_cons_zero, List.append_assoc]
  rfl
set_option maxHeartbeats 64000000 in
theorem reverse_any (g : Gr) (A : Option Addr) (n c : Nat) (w : World) (h : GrIn w A n c g) :
    Calls Try.prog 6 #[gval g A n c] w (RevPost g w) := by
  have H := Lib.hid h
  clear h
  obtain ⟨gn, hgn⟩ : ∃ gn, gn = g.n := ⟨_, rfl⟩
  have HGN := Lib.hid hgn
  have hgv : gval g A n c = .agg #[.int .i64 gn, .slice A n c] := by rw [hgn]
  have HV := Lib.hid (show ∀ W, GrIn W A n c g → Calls Try.prog 12 #[.agg #[.int .i64 gn, .slice A n c]] W fun e w' => e = .returned (.int .i64 g.vE) ∧ Below W.heap.size W w' from fun W hW => by rw [hgn]; exact valid_any g A n c W hW)
  rw [hgv]
  clear hgv hgn
  obtain ⟨wz, hwz⟩ : ∃ z, z = (w.alloc (.cells #[.int .i64 gn, .slice A n c] 26)).alloc (.cells #[.int .i64 0, .slice none 0 0] 26) := ⟨_, rfl⟩
  have HZ := Lib.hid hwz
  have V := Lib.hid (show Hp w [box 26 (w.heap.size + 1) [.int .i64 0, .slice none 0 0], box 26 w.heap.size [.int .i64 gn, .slice A n c]] wz by
    have h1 := (Hp.start w).box_new 26 [.int .i64 gn, .slice A n c]
    have h2 := h1.box_new 26 [.int .i64 0, .slice none 0 0]
    rw [show (w.alloc (.cells [.int .i64 gn, .slice A n c].toArray 26)).heap.size = w.heap.size + 1 by unfold World.alloc; exact Array.size_push ..] at h2
    rw [hwz]; exact h2)
  clear hwz
  go_enter Try.func6, Try.ntmps6
  go_upto_region 1 with fail
  rw [← HZ.out]
  clear HZ
  obtain ⟨gb, hgb⟩ : ∃ gb, gb = w.heap.size := ⟨_, rfl⟩
  rw [← hgb] at V ⊢
  clear hgb
  obtain ⟨r0, _, r9⟩ := V.out.box_at (i := 1) (j := 0) rfl rfl
  obtain ⟨r1, _, _⟩ := V.out.box_at (i := 1) (j := 1) rfl rfl
  go_wp2_with fail
  refine (HV.out _ (H.out.below V.out.below)).mono ?_
  rintro e w1 ⟨rfl, b1⟩
  have V1 := Lib.hid (V.out.go b1)
  clear b1 r0 r1 r9 V HV
  by_cases hv : g.vE = 0
  case neg =>
    have HE := Lib.hid (rv_bad hv)
    have g1 : (g.vE != 0) = true := bne_yes hv
    clear hv
    obtain ⟨t0, u0, v0⟩ := V1.out.box_at (i := 0) (j := 0) rfl rfl
    obtain ⟨t1, u1, v1⟩ := V1.out.box_at (i := 0) (j := 1) rfl rfl
    have V4 := (V1.out.box_set (i := 0) rfl 0 (.int .i64 0)).box_set (i := 0) rfl 1 (.slice none 0 0)
    obtain ⟨p0, _, _⟩ := V4.box_at (i := 0) (j := 0) rfl rfl
    obtain ⟨p1, _, _⟩ := V4.box_at (i := 0) (j := 1) rfl rfl
    have V5 := Lib.hid V4.below
    clear V4
    go_wp2_with fail
    refine bodyPost_ret (v := .tuple #[.agg #[.int .i64 0, .slice none 0 0], .int .i64 g.vE]) (by simp [results, Try.results6, go_sem, p0, p1]) rfl ⟨none, 0, 0, by rw [HE.out], by rw [HE.out]; rfl, ?_⟩
    rw [HE.out]
    exact ((Hp.start w).go V5.out).nil_row (arow none 0 0 []) rfl rfl rfl
  have HE := Lib.hid (rv_ok hv)
  have HO := Lib.hid (Gr.ok hv)
  rw [hv]
  clear hv
  have n1 : 1 ≤ gn := by rw [HGN.out]; exact HO.out.n1
  have n2 : gn ≤ 2000 := by rw [HGN.out]; exact HO.out.n2
  have hnl : n ≤ 6000 := by have := HO.out.len; have := H.out.len; omega
  have hw1 : IntKind.i64.wrap (gn - 1) = gn - 1 := IntWalk.i64_in _ (by omega)
  have HEND := Lib.hid (show ∀ W, Calls Try.prog 13 #[.agg #[.int .i64 gn, .slice A n c]] W fun e w' => e = .returned (.int .i64 (gn - 1)) ∧ Below W.heap.size W w' from fun W => by
    rw [HGN.out]; exact end_any g A n c W HO.out.n1 HO.out.n2)
  obtain ⟨ZC, hZC⟩ : ∃ ZC, ZC = (acells (List.replicate n ⟨0, 0, 0⟩)).toArray := ⟨_, rfl⟩
  have HZC := Lib.hid hZC
  have hmk := fun w => make_arcs (n : Int) n rfl (by omega) w
  rw [← hZC] at hmk
  clear hZC
  obtain ⟨r0, _, r9⟩ := V1.out.box_at (i := 1) (j := 0) rfl rfl
  obtain ⟨r1, _, _⟩ := V1.out.box_at (i := 1) (j := 1) rfl rfl
  go_upto_region 4 with fail
  have hKp : Keep [(⟨gb, 0, none⟩, .int .i64 gn), (⟨gb, 1, none⟩, .slice A n c)] w1 := List.forall_mem_cons.2 ⟨⟨r0, r9⟩, List.forall_mem_cons.2 ⟨⟨r1, r9⟩, fun _ h => by simp at h⟩⟩
  refine wp_region_held_drew (S := Keep _) (by kernel_rfl) hKp.drew (fun hHeld => ?_)
  have V1d := Lib.hid (V1.out.go (bdrew _))
  refine tk 0 ?_ rfl ?_ ?_; rotate_left; focus (intro w hSw; clear hSw; go_simp; try (with_reducible rfl))
  try simp only [Act.put, sA, sZ, sS]
  refine tk 1 ?_ rfl ?_ ?_; rotate_left
  · intro wl hSw
    have hSw : Keep _ wl := hSw
    have k0 : wl.cell? ⟨gb, 0, none⟩ = some (.int .i64 gn) := (hSw _ (.head _)).1
    clear hSw
    go_simp
    try (with_reducible rfl)
  try simp only [Act.put, sA, sZ, sS]
  refine tk 2 ?_ rfl ?_ ?_; rotate_left; focus (intro w hSw; clear hSw; go_simp; try (with_reducible rfl))
  try simp only [Act.put, sA, sZ, sS]
  refine tk 3 ?_ rfl ?_ ?_; rotate_left
  · intro wl hSw
    have hSw : Keep _ wl := hSw
    have k0 : wl.cell? ⟨gb, 1, none⟩ = some (.slice A n c) := (hSw _ (.tail _ (.head _))).1
    clear hSw
    go_simp
    try (with_reducible rfl)
  try simp only [Act.put, sA, sZ, sS]
  refine tk 4 ?_ rfl ?_ ?_; rotate_left; focus (intro w hSw; clear hSw; go_simp; try (with_reducible rfl))
  try simp only [Act.put, sA, sZ, sS]
  refine wpAnyH_ready (rs := [5, 7]) (by kernel_rfl) (by simp) ?_
  refine AllReadyH.cons (List.getElem?_toArray.trans rfl) (fun K hK => ?_) ?_
  · obtain ⟨w_5, hw_5⟩ : ∃ z, z = (w1.alloc (.cells ZC 40)).drew := ⟨_, rfl⟩
    have V_5 := Lib.hid (show Hp _ (arow (some ⟨w1.heap.size, 0, none⟩) n n (List.replicate n ⟨0, 0, 0⟩) :: _) w_5 by rw [hw_5]; exact V1d.out.made_arcs n (by omega) HZC.out)
    have Bw_5 := Lib.hid (show Below w1.drew.heap.size w1.drew w_5 by rw [hw_5]; exact bnew _ _)
    go_simp
    try rw [← hw_5]
    clear hw_5
    refine hK.out _ _ (hHeld.go Bw_5.out) (fun hHeld => ?_)
    clear hK K
    try simp only [Act.put, sA, sZ, sS]
    refine tk 6 ?_ rfl ?_ ?_; rotate_left; focus (intro w hSw; clear hSw; go_simp; try (with_reducible rfl))
    try simp only [Act.put, sA, sZ, sS]
    refine wpAnyH_ready (rs := [7]) (by kernel_rfl) (by simp) ?_
    refine AllReadyH.cons (List.getElem?_toArray.trans rfl) (fun K hK => ?_) AllReadyH.nil
    obtain ⟨w_5_7, hw_5_7⟩ : ∃ z, z = (w_5.alloc (.cells #[.int .i64 0, .slice none 0 0] 26)) := ⟨_, rfl⟩
    have V_5_7 := Lib.hid (show Hp _ (box 26 w_5.heap.size [.int .i64 0, .slice none 0 0] :: _) w_5_7 by rw [hw_5_7]; exact V_5.out.box_new 26 [.int .i64 0, .slice none 0 0])
    have Bw_5_7 := Lib.hid (show Below w_5.heap.size w_5 w_5_7 by rw [hw_5_7]; exact bnew _ _)
    go_simp
    rw [← hw_5_7]
    clear hw_5_7
    refine hK.out _ _ (hHeld.go Bw_5_7.out) (fun hHeld => ?_)
    clear hK K
    try simp only [Act.put, sA, sZ, sS]
    refine wpAnyH_ready (rs := [8]) (by kernel_rfl) (by simp) ?_
    refine AllReadyH.cons (List.getElem?_toArray.trans rfl) (fun K hK => ?_) AllReadyH.nil
    obtain ⟨gm, hgm⟩ : ∃ gm, gm = w1.heap.size := ⟨_, rfl⟩
    obtain ⟨gr, hgr⟩ : ∃ gr, gr = w_5.heap.size := ⟨_, rfl⟩
    rw [← hgm] at V_5_7 ⊢
    rw [← hgr] at V_5_7 ⊢
    have hne : ¬ gb = gr := V_5_7.out.apart (i := 3) (j := 0) rfl rfl (by decide) rfl rfl
    clear hgm hgr
    obtain ⟨t0, u0, v0⟩ := V_5_7.out.box_at (i := 0) (j := 0) rfl rfl
    obtain ⟨t1, u1, v1⟩ := V_5_7.out.box_at (i := 0) (j := 1) rfl rfl
    have V8 := Lib.hid ((V_5_7.out.box_set (i := 0) rfl 0 (.int .i64 gn)).box_set (i := 0) rfl 1 (.slice (some ⟨gm, 0, none⟩) n n))
    have V9 := Lib.hid (show Hp w [arow (some ⟨gm, 0, none⟩) n n (rvK g n 0), box 26 gr [.int .i64 gn, .slice (some ⟨gm, 0, none⟩) n n], box 26 (gb + 1) [.int .i64 0, .slice none 0 0], box 26 gb [.int .i64 gn, .slice A n c]] _ from V8.out.pick [1, 0, 2, 3] (by decide) rfl)
    go_simp
    refine hK.out _ _ ((hHeld.set _ _ _ (List.forall_mem_cons.2 ⟨(by show ¬ gb = gr; omega), List.forall_mem_cons.2 ⟨(by show ¬ gb = gr; omega), fun _ h => by simp at h⟩⟩)).set _ _ _ (List.forall_mem_cons.2 ⟨(by show ¬ gb = gr; omega), List.forall_mem_cons.2 ⟨(by show ¬ gb = gr; omega), fun _ h => by simp at h⟩⟩)) (fun hHeld => ?_)
    clear hK K
    try simp only [Act.put, sA, sZ, sS]
    refine wpAnyH_done (by kernel_rfl) ?_ _
    clear hKp hHeld V8 r0 r1 r9 t0 t1 u0 u1 v0 v1 hne hmk
    obtain ⟨r1, _, r9⟩ := V9.out.box_at (i := 3) (j := 1) rfl rfl
    go_wp2_with fail
    clear r1 r9
    go_loopw [24] (fun cv wr => ∃ k : Nat, cv = .int .i64 (k : Int) ∧ k ≤ n ∧ Hp w [arow (some ⟨gm, 0, none⟩) n n (rvK g n k), box 26 gr [.int .i64 gn, .slice (some ⟨gm, 0, none⟩) n n], box 26 (gb + 1) [.int .i64 0, .slice none 0 0], box 26 gb [.int .i64 gn, .slice A n c]] wr) (fun cv _ => n - (intOf cv).toNat)
    case atStart => exact ⟨0, rfl, Nat.zero_le _, V9.out⟩
    case round =>
      clear V9
      obtain ⟨k, rfl, hkn, hV⟩ := hrel
      obtain ⟨wi, rfl⟩ : ∃ wi : World, wi = wr := ⟨_, rfl⟩
      have V := Lib.hid hV
      clear hV
      by_cases hlt : k < n
      case neg =>
        obtain rfl : k = n := by omega
        obtain ⟨q0, _, q9⟩ := V.out.box_at (i := 1) (j := 0) rfl rfl
        obtain ⟨q1, _, _⟩ := V.out.box_at (i := 1) (j := 1) rfl rfl
        obtain ⟨t0, u0, v0⟩ := V.out.box_at (i := 2) (j := 0) rfl rfl
        obtain ⟨t1, u1, v1⟩ := V.out.box_at (i := 2) (j := 1) rfl rfl
        have V4 := (V.out.box_set (i := 2) rfl 0 (.int .i64 gn)).box_set (i := 2) rfl 1 (.slice (some ⟨gm, 0, none⟩) k k)
        obtain ⟨p0, _, _⟩ := V4.box_at (i := 2) (j := 0) rfl rfl
        obtain ⟨p1, _, _⟩ := V4.box_at (i := 2) (j := 1) rfl rfl
        have V5 := Lib.hid (V4.front (l1 := [arow (some ⟨gm, 0, none⟩) k k (rvK g k k)]))
        clear V4
        go_wp2_with fail
        refine bodyPost_ret (v := .tuple #[.agg #[.int .i64 gn, .slice (some ⟨gm, 0, none⟩) k k], .int .i64 0]) (by simp [results, Try.results6, go_sem, p0, p1]) rfl ⟨_, k, k, by rw [HE.out, HGN.out], by rw [HE.out]; simpa using H.out.len, ?_⟩
        have h5 := V5.out
        unfold rvK at h5
        rw [List.take_of_length_le (by rw [H.out.len]; exact Nat.le_refl _), Nat.sub_self, List.replicate_zero, List.append_nil] at h5
        rw [HE.out]
        exact h5
      obtain ⟨⟨f, t, q⟩, b, off, ha, hae, rfl, hbw, c0, c1, c2'⟩ := (H.out.below V.out.below).at hlt
      have har := HO.out.arc _ (List.mem_of_getElem? ha)
      dsimp only at har c0 c1 c2'
      have hk3 : k * 3 ≤ 20000 := by omega
      have HS := Lib.hid (show (rvK g n k).set k ⟨gn - 1 - t, gn - 1 - f, q⟩ = rvK g n (k + 1) by rw [HGN.out]; exact rvK_set H.out.len ha)
      have HXK := Lib.hid (show (rvK g n k).length = n from rvK_len H.out.len hkn)
      have hw2 : IntKind.i64.wrap (gn - 1 - t) = gn - 1 - t := IntWalk.i64_in _ (by have := HGN.out; omega)
      have hw3 : IntKind.i64.wrap (gn - 1 - f) = gn - 1 - f := IntWalk.i64_in _ (by have := HGN.out; omega)
      obtain ⟨wy, hwy⟩ : ∃ z, z = wi.alloc (.cells #[.int .i64 f, .int .i64 t, .int .i64 q] 40) := ⟨_, rfl⟩
      have HY := Lib.hid hwy
      obtain ⟨ab, hab⟩ : ∃ ab, ab = wi.heap.size := ⟨_, rfl⟩
      have VY := Lib.hid (show Hp w (abox ab ⟨f, t, q⟩ :: [arow (some ⟨gm, 0, none⟩) n n (rvK g n k), box 26 gr [.int .i64 gn, .slice (some ⟨gm, 0, none⟩) n n], box 26 (gb + 1) [.int .i64 0, .slice none 0 0], box 26 gb [.int .i64 gn, .slice (some ⟨b, off, none⟩) n c]]) wy by rw [hwy, hab]; exact V.out.anew ⟨f, t, q⟩)
      clear ha hae har hwy
      go_upto_region 8 with fail
      rw [← HY.out, ← hab]
      clear HY V c0 c1 c2' hbw hab
      obtain ⟨r0, _, r9⟩ := VY.out.box_at (i := 4) (j := 0) rfl rfl
      obtain ⟨r1, _, _⟩ := VY.out.box_at (i := 4) (j := 1) rfl rfl
      obtain ⟨q1, _, q9⟩ := VY.out.box_at (i := 2) (j := 1) rfl rfl
      obtain ⟨s0, s1, s2, s9⟩ := VY.out.ab (i := 0) rfl
      dsimp only at s0 s1 s2
      have n1' : ¬ gb = gm := VY.out.apart (i := 4) (j := 1) rfl rfl (by decide) rfl rfl
      have n2' : ¬ gr = gm := VY.out.apart (i := 2) (j := 1) rfl rfl (by decide) rfl rfl
      have n3' : ¬ ab = gm := VY.out.apart (i := 0) (j := 1) rfl rfl (by decide) rfl rfl
      have hKp : Keep [(⟨gr, 1, none⟩, .slice (some ⟨gm, 0, none⟩) n n), (⟨gb, 0, none⟩, .int .i64 gn), (⟨gb, 1, none⟩, .slice (some ⟨b, off, none⟩) n c), (⟨ab, 0, none⟩, .int .i64 f), (⟨ab, 1, none⟩, .int .i64 t), (⟨ab, 2, none⟩, .int .i64 q)] wy := List.forall_mem_cons.2 ⟨⟨q1, q9⟩, List.forall_mem_cons.2 ⟨⟨r0, r9⟩, List.forall_mem_cons.2 ⟨⟨r1, r9⟩, List.forall_mem_cons.2 ⟨⟨s0, s9⟩, List.forall_mem_cons.2 ⟨⟨s1, s9⟩, List.forall_mem_cons.2 ⟨⟨s2, s9⟩, fun _ h => by simp at h⟩⟩⟩⟩⟩⟩
      refine wp_region_held_drew (S := Keep _) (by kernel_rfl) hKp.drew (fun hHeld => ?_)
      have VYd := Lib.hid (VY.out.go (bdrew _))
      refine tk 0 ?_ rfl ?_ ?_; rotate_left; focus (intro w hSw; clear hSw; go_simp; try (with_reducible rfl))
      try simp only [Act.put, sA, sZ, sS]
      refine tk 1 ?_ rfl ?_ ?_; rotate_left
      · intro wl hSw
        have hSw : Keep _ wl := hSw
        have k0 : wl.cell? ⟨gr, 1, none⟩ = some (.slice (some ⟨gm, 0, none⟩) n n) := (hSw _ (.head _)).1
        clear hSw
        go_simp
        try (with_reducible rfl)
      try simp only [Act.put, sA, sZ, sS]
      refine tk 2 ?_ rfl ?_ ?_; rotate_left; focus (intro w hSw; clear hSw; go_simp; try (with_reducible rfl))
      try simp only [Act.put, sA, sZ, sS]
      refine tk 3 ?_ rfl ?_ ?_; rotate_left
      · intro wl hSw
        have hSw : Keep _ wl := hSw
        have k0 : wl.cell? ⟨gb, 0, none⟩ = some (.int .i64 gn) := (hSw _ (.tail _ (.head _))).1
        have k1 : wl.cell? ⟨gb, 1, none⟩ = some (.slice (some ⟨b, off, none⟩) n c) := (hSw _ (.tail _ (.tail _ (.head _)))).1
        clear hSw
        go_simp
        try (with_reducible rfl)
      try simp only [Act.put, sA, sZ, sS]
      refine tk 5 ?_ rfl ?_ ?_; rotate_left; focus (intro w hSw; clear hSw; go_simp; try (with_reducible rfl))
      try simp only [Act.put, sA, sZ, sS]
      refine tk 6 ?_ rfl ?_ ?_; rotate_left
      · intro wl hSw
        have hSw : Keep _ wl := hSw
        have k0 : wl.cell? ⟨ab, 1, none⟩ = some (.int .i64 t) := (hSw _ (.tail _ (.tail _ (.tail _ (.tail _ (.head _)))))).1
        clear hSw
        go_simp
        try (with_reducible rfl)
      try simp only [Act.put, sA, sZ, sS]
      refine tk 8 ?_ rfl ?_ ?_; rotate_left
      · intro wl hSw
        have hSw : Keep _ wl := hSw
        have k0 : wl.cell? ⟨gb, 0, none⟩ = some (.int .i64 gn) := (hSw _ (.tail _ (.head _))).1
        have k1 : wl.cell? ⟨gb, 1, none⟩ = some (.slice (some ⟨b, off, none⟩) n c) := (hSw _ (.tail _ (.tail _ (.head _)))).1
        clear hSw
        go_simp
        try (with_reducible rfl)
      try simp only [Act.put, sA, sZ, sS]
      refine tk 10 ?_ rfl ?_ ?_; rotate_left; focus (intro w hSw; clear hSw; go_simp; try (with_reducible rfl))
      try simp only [Act.put, sA, sZ, sS]
      refine tk 11 ?_ rfl ?_ ?_; rotate_left
      · intro wl hSw
        have hSw : Keep _ wl := hSw
        have k0 : wl.cell? ⟨ab, 0, none⟩ = some (.int .i64 f) := (hSw _ (.tail _ (.tail _ (.tail _ (.head _))))).1
        clear hSw
        go_simp
        try (with_reducible rfl)
      try simp only [Act.put, sA, sZ, sS]
      refine tk 13 ?_ rfl ?_ ?_; rotate_left; focus (intro w hSw; clear hSw; go_simp; try (with_reducible rfl))
      try simp only [Act.put, sA, sZ, sS]
      refine tk 14 ?_ rfl ?_ ?_; rotate_left
      · intro wl hSw
        have hSw : Keep _ wl := hSw
        have k0 : wl.cell? ⟨ab, 2, none⟩ = some (.int .i64 q) := (hSw _ (.tail _ (.tail _ (.tail _ (.tail _ (.tail _ (.head _))))))).1
        clear hSw
        go_simp
        try (with_reducible rfl)
      try simp only [Act.put, sA, sZ, sS]
      refine wpAnyH_ready (rs := [4]) (by kernel_rfl) (by simp) ?_
      refine AllReadyH.cons (List.getElem?_toArray.trans rfl) (fun K hK => ?_) AllReadyH.nil
      go_simp
      refine (HEND.out _).mono ?_
      rintro e w_4 ⟨rfl, b_4⟩
      try go_wp2_with fail
      have V_4 := Lib.hid (VYd.out.go b_4)
      refine hK.out _ _ (hHeld.go b_4) (fun hHeld => ?_)
      clear hK K
      try simp only [Act.put, sA, sZ, sS]
      refine tk 7 ?_ rfl ?_ ?_; rotate_left; focus (intro w hSw; clear hSw; go_simp; try (with_reducible rfl))
      try simp only [Act.put, sA, sZ, sS]
      refine wpAnyH_ready (rs := [9]) (by kernel_rfl) (by simp) ?_
      refine AllReadyH.cons (List.getElem?_toArray.trans rfl) (fun K hK => ?_) AllReadyH.nil
      go_simp
      refine (HEND.out _).mono ?_
      rintro e w_4_9 ⟨rfl, b_4_9⟩
      try go_wp2_with fail
      have V_4_9 := Lib.hid (V_4.out.go b_4_9)
      refine hK.out _ _ (hHeld.go b_4_9) (fun hHeld => ?_)
      clear hK K
      try simp only [Act.put, sA, sZ, sS]
      refine tk 12 ?_ rfl ?_ ?_; rotate_left; focus (intro w hSw; clear hSw; go_simp; try (with_reducible rfl))
      try simp only [Act.put, sA, sZ, sS]
      refine tk 15 ?_ rfl ?_ ?_; rotate_left; focus (intro w hSw; clear hSw; go_simp; try (with_reducible rfl))
      try simp only [Act.put, sA, sZ, sS]
      refine tk 16 ?_ rfl ?_ ?_; rotate_left; focus (intro w hSw; clear hSw; go_simp; try (with_reducible rfl))
      try simp only [Act.put, sA, sZ, sS]
      refine wpAnyH_ready (rs := [17]) (by kernel_rfl) (by simp) ?_
      refine AllReadyH.cons (List.getElem?_toArray.trans rfl) (fun K hK => ?_) AllReadyH.nil
      obtain ⟨x, hx⟩ : ∃ x, (rvK g n k)[k]? = some x := ⟨_, List.getElem?_eq_getElem (by rw [HXK.out]; exact hlt)⟩
      obtain ⟨d0, d1, d2⟩ := acells_at hx
      obtain ⟨z0, o0, l0⟩ := V_4_9.out.cell (i := 1) rfl (g := gm) (cap := n) rfl (j := k * 3) d0
      obtain ⟨z1, o1, l1⟩ := V_4_9.out.cell (i := 1) rfl (g := gm) (cap := n) rfl (j := k * 3 + 1) d1
      obtain ⟨z2, o2, l2⟩ := V_4_9.out.cell (i := 1) rfl (g := gm) (cap := n) rfl (j := k * 3 + 2) d2
      have V7 := V_4_9.out.arow_set (i := 1) rfl k ⟨gn - 1 - t, gn - 1 - f, q⟩
      rw [HS.out] at V7
      have V7 := Lib.hid V7
      clear hx d0 d1 d2
      go_simp
      refine hK.out _ _ (((hHeld.set _ _ _ (List.forall_mem_cons.2 ⟨(by show ¬ gr = gm; omega), List.forall_mem_cons.2 ⟨(by show ¬ gb = gm; omega), List.forall_mem_cons.2 ⟨(by show ¬ gb = gm; omega), List.forall_mem_cons.2 ⟨(by show ¬ ab = gm; omega), List.forall_mem_cons.2 ⟨(by show ¬ ab = gm; omega), List.forall_mem_cons.2 ⟨(by show ¬ ab = gm; omega), fun _ h => by simp at h⟩⟩⟩⟩⟩⟩)).set _ _ _ (List.forall_mem_cons.2 ⟨(by show ¬ gr = gm; omega), List.forall_mem_cons.2 ⟨(by show ¬ gb = gm; omega), List.forall_mem_cons.2 ⟨(by show ¬ gb = gm; omega), List.forall_mem_cons.2 ⟨(by show ¬ ab = gm; omega), List.forall_mem_cons.2 ⟨(by show ¬ ab = gm; omega), List.forall_mem_cons.2 ⟨(by show ¬ ab = gm; omega), fun _ h => by simp at h⟩⟩⟩⟩⟩⟩)).set _ _ _ (List.forall_mem_cons.2 ⟨(by show ¬ gr = gm; omega), List.forall_mem_cons.2 ⟨(by show ¬ gb = gm; omega), List.forall_mem_cons.2 ⟨(by show ¬ gb = gm; omega), List.forall_mem_cons.2 ⟨(by show ¬ ab = gm; omega), List.forall_mem_cons.2 ⟨(by show ¬ ab = gm; omega), List.forall_mem_cons.2 ⟨(by show ¬ ab = gm; omega), fun _ h => by simp at h⟩⟩⟩⟩⟩⟩)) (fun hHeld => ?_)
      clear hK K
      try simp only [Act.put, sA, sZ, sS]
      refine wpAnyH_done (by kernel_rfl) ?_ _
      clear hKp hHeld
      go_wp2_with fail
      go_roundw
      case rel => exact ⟨k + 1, by go_num, by omega, V7.out.tail⟩
      case measure => simp [intOf]; omega
  refine AllReadyH.cons (List.getElem?_toArray.trans rfl) (fun K hK => ?_) ?_
  · obtain ⟨w_7, hw_7⟩ : ∃ z, z = (w1.alloc (.cells #[.int .i64 0, .slice none 0 0] 26)).drew := ⟨_, rfl⟩
    have V_7 := Lib.hid (show Hp _ (box 26 w1.heap.size [.int .i64 0, .slice none 0 0] :: _) w_7 by rw [hw_7]; exact V1d.out.box_new 26 [.int .i64 0, .slice none 0 0])
    have Bw_7 := Lib.hid (show Below w1.drew.heap.size w1.drew w_7 by rw [hw_7]; exact bnew _ _)
    go_simp
    rw [← hw_7]
    clear hw_7
    refine hK.out _ _ (hHeld.go Bw_7.out) (fun hHeld => ?_)
    clear hK K
    try simp only [Act.put, sA, sZ, sS]
    refine wpAnyH_ready (rs := [5]) (by kernel_rfl) (by simp) ?_
    refine AllReadyH.cons (List.getElem?_toArray.trans rfl) (fun K hK => ?_) AllReadyH.nil
    obtain ⟨w_7_5, hw_7_5⟩ : ∃ z, z = (w_7.alloc (.cells ZC 40)) := ⟨_, rfl⟩
    have V_7_5 := Lib.hid (show Hp _ (arow (some ⟨w_7.heap.size, 0, none⟩) n n (List.replicate n ⟨0, 0, 0⟩) :: _) w_7_5 by rw [hw_7_5]; exact V_7.out.made_arcs n (by omega) HZC.out)
    have Bw_7_5 := Lib.hid (show Below w_7.heap.size w_7 w_7_5 by rw [hw_7_5]; exact bnew _ _)
    go_simp
    try rw [← hw_7_5]
    clear hw_7_5
    refine hK.out _ _ (hHeld.go Bw_7_5.out) (fun hHeld => ?_)
    clear hK K
    try simp only [Act.put, sA, sZ, sS]
    refine tk 6 ?_ rfl ?_ ?_; rotate_left; focus (intro w hSw; clear hSw; go_simp; try (with_reducible rfl))
    try simp only [Act.put, sA, sZ, sS]
    refine wpAnyH_ready (rs := [8]) (by kernel_rfl) (by simp) ?_
    refine AllReadyH.cons (List.getElem?_toArray.trans rfl) (fun K hK => ?_) AllReadyH.nil
    obtain ⟨gm, hgm⟩ : ∃ gm, gm = w_7.heap.size := ⟨_, rfl⟩
    obtain ⟨gr, hgr⟩ : ∃ gr, gr = w1.heap.size := ⟨_, rfl⟩
    rw [← hgm] at V_7_5 ⊢
    rw [← hgr] at V_7_5 ⊢
    have hne : ¬ gb = gr := V_7_5.out.apart (i := 3) (j := 1) rfl rfl (by decide) rfl rfl
    clear hgm hgr
    obtain ⟨t0, u0, v0⟩ := V_7_5.out.box_at (i := 1) (j := 0) rfl rfl
    obtain ⟨t1, u1, v1⟩ := V_7_5.out.box_at (i := 1) (j := 1) rfl rfl
    have V8 := Lib.hid ((V_7_5.out.box_set (i := 1) rfl 0 (.int .i64 gn)).box_set (i := 1) rfl 1 (.slice (some ⟨gm, 0, none⟩) n n))
    have V9 := Lib.hid (show Hp w [arow (some ⟨gm, 0, none⟩) n n (rvK g n 0), box 26 gr [.int .i64 gn, .slice (some ⟨gm, 0, none⟩) n n], box 26 (gb + 1) [.int .i64 0, .slice none 0 0], box 26 gb [.int .i64 gn, .slice A n c]] _ from V8.out)
    go_simp
    refine hK.out _ _ ((hHeld.set _ _ _ (List.forall_mem_cons.2 ⟨(by show ¬ gb = gr; omega), List.forall_mem_cons.2 ⟨(by show ¬ gb = gr; omega), fun _ h => by simp at h⟩⟩)).set _ _ _ (List.forall_mem_cons.2 ⟨(by show ¬ gb = gr; omega), List.forall_mem_cons.2 ⟨(by show ¬ gb = gr; omega), fun _ h => by simp at h⟩⟩)) (fun hHeld => ?_)
    clear hK K
    try simp only [Act.put, sA, sZ, sS]
    refine wpAnyH_done (by kernel_rfl) ?_ _
    clear hKp hHeld V8 r0 r1 r9 t0 t1 u0 u1 v0 v1 hne hmk
    obtain ⟨r1, _, r9⟩ := V9.out.box_at (i := 3) (j := 1) rfl rfl
    go_wp2_with fail
    clear r1 r9
    go_loopw [24] (fun cv wr => ∃ k : Nat, cv = .int .i64 (k : Int) ∧ k ≤ n ∧ Hp w [arow (some ⟨gm, 0, none⟩) n n (rvK g n k), box 26 gr [.int .i64 gn, .slice (some ⟨gm, 0, none⟩) n n], box 26 (gb + 1) [.int .i64 0, .slice none 0 0], box 26 gb [.int .i64 gn, .slice A n c]] wr) (fun cv _ => n - (intOf cv).toNat)
    case atStart => exact ⟨0, rfl, Nat.zero_le _, V9.out⟩
    case round =>
      clear V9
      obtain ⟨k, rfl, hkn, hV⟩ := hrel
      obtain ⟨wi, rfl⟩ : ∃ wi : World, wi = wr := ⟨_, rfl⟩
      have V := Lib.hid hV
      clear hV
      by_cases hlt : k < n
      case neg =>
        obtain rfl : k = n := by omega
        obtain ⟨q0, _, q9⟩ := V.out.box_at (i := 1) (j := 0) rfl rfl
        obtain ⟨q1, _, _⟩ := V.out.box_at (i := 1) (j := 1) rfl rfl
        obtain ⟨t0, u0, v0⟩ := V.out.box_at (i := 2) (j := 0) rfl rfl
        obtain ⟨t1, u1, v1⟩ := V.out.box_at (i := 2) (j := 1) rfl rfl
        have V4 := (V.out.box_set (i := 2) rfl 0 (.int .i64 gn)).box_set (i := 2) rfl 1 (.slice (some ⟨gm, 0, none⟩) k k)
        obtain ⟨p0, _, _⟩ := V4.box_at (i := 2) (j := 0) rfl rfl
        obtain ⟨p1, _, _⟩ := V4.box_at (i := 2) (j := 1) rfl rfl
        have V5 := Lib.hid (V4.front (l1 := [arow (some ⟨gm, 0, none⟩) k k (rvK g k k)]))
        clear V4
        go_wp2_with fail
        refine bodyPost_ret (v := .tuple #[.agg #[.int .i64 gn, .slice (some ⟨gm, 0, none⟩) k k], .int .i64 0]) (by simp [results, Try.results6, go_sem, p0, p1]) rfl ⟨_, k, k, by rw [HE.out, HGN.out], by rw [HE.out]; simpa using H.out.len, ?_⟩
        have h5 := V5.out
        unfold rvK at h5
        rw [List.take_of_length_le (by rw [H.out.len]; exact Nat.le_refl _), Nat.sub_self, List.replicate_zero, List.append_nil] at h5
        rw [HE.out]
        exact h5
      obtain ⟨⟨f, t, q⟩, b, off, ha, hae, rfl, hbw, c0, c1, c2'⟩ := (H.out.below V.out.below).at hlt
      have har := HO.out.arc _ (List.mem_of_getElem? ha)
      dsimp only at har c0 c1 c2'
      have hk3 : k * 3 ≤ 20000 := by omega
      have HS := Lib.hid (show (rvK g n k).set k ⟨gn - 1 - t, gn - 1 - f, q⟩ = rvK g n (k + 1) by rw [HGN.out]; exact rvK_set H.out.len ha)
      have HXK := Lib.hid (show (rvK g n k).length = n from rvK_len H.out.len hkn)
      have hw2 : IntKind.i64.wrap (gn - 1 - t) = gn - 1 - t := IntWalk.i64_in _ (by have := HGN.out; omega)
      have hw3 : IntKind.i64.wrap (gn - 1 - f) = gn - 1 - f := IntWalk.i64_in _ (by have := HGN.out; omega)
      obtain ⟨wy, hwy⟩ : ∃ z, z = wi.alloc (.cells #[.int .i64 f, .int .i64 t, .int .i64 q] 40) := ⟨_, rfl⟩
      have HY := Lib.hid hwy
      obtain ⟨ab, hab⟩ : ∃ ab, ab = wi.heap.size := ⟨_, rfl⟩
      have VY := Lib.hid (show Hp w (abox ab ⟨f, t, q⟩ :: [arow (some ⟨gm, 0, none⟩) n n (rvK g n k), box 26 gr [.int .i64 gn, .slice (some ⟨gm, 0, none⟩) n n], box 26 (gb + 1) [.int .i64 0, .slice none 0 0], box 26 gb [.int .i64 gn, .slice (some ⟨b, off, none⟩) n c]]) wy by rw [hwy, hab]; exact V.out.anew ⟨f, t, q⟩)
      clear ha hae har hwy
      go_upto_region 8 with fail
      rw [← HY.out, ← hab]
      clear HY V c0 c1 c2' hbw hab
      obtain ⟨r0, _, r9⟩ := VY.out.box_at (i := 4) (j := 0) rfl rfl
      obtain ⟨r1, _, _⟩ := VY.out.box_at (i := 4) (j := 1) rfl rfl
      obtain ⟨q1, _, q9⟩ := VY.out.box_at (i := 2) (j := 1) rfl rfl
      obtain ⟨s0, s1, s2, s9⟩ := VY.out.ab (i := 0) rfl
      dsimp only at s0 s1 s2
      have n1' : ¬ gb = gm := VY.out.apart (i := 4) (j := 1) rfl rfl (by decide) rfl rfl
      have n2' : ¬ gr = gm := VY.out.apart (i := 2) (j := 1) rfl rfl (by decide) rfl rfl
      have n3' : ¬ ab = gm := VY.out.apart (i := 0) (j := 1) rfl rfl (by decide) rfl rfl
      have hKp : Keep [(⟨gr, 1, none⟩, .slice (some ⟨gm, 0, none⟩) n n), (⟨gb, 0, none⟩, .int .i64 gn), (⟨gb, 1, none⟩, .slice (some ⟨b, off, none⟩) n c), (⟨ab, 0, none⟩, .int .i64 f), (⟨ab, 1, none⟩, .int .i64 t), (⟨ab, 2, none⟩, .int .i64 q)] wy := List.forall_mem_cons.2 ⟨⟨q1, q9⟩, List.forall_mem_cons.2 ⟨⟨r0, r9⟩, List.forall_mem_cons.2 ⟨⟨r1, r9⟩, List.forall_mem_cons.2 ⟨⟨s0, s9⟩, List.forall_mem_cons.2 ⟨⟨s1, s9⟩, List.forall_mem_cons.2 ⟨⟨s2, s9⟩, fun _ h => by simp at h⟩⟩⟩⟩⟩⟩
      refine wp_region_held_drew (S := Keep _) (by kernel_rfl) hKp.drew (fun hHeld => ?_)
      have VYd := Lib.hid (VY.out.go (bdrew _))
      refine tk 0 ?_ rfl ?_ ?_; rotate_left; focus (intro w hSw; clear hSw; go_simp; try (with_reducible rfl))
      try simp only [Act.put, sA, sZ, sS]
      refine tk 1 ?_ rfl ?_ ?_; rotate_left
      · intro wl hSw
        have hSw : Keep _ wl := hSw
        have k0 : wl.cell? ⟨gr, 1, none⟩ = some (.slice (some ⟨gm, 0, none⟩) n n) := (hSw _ (.head _)).1
        clear hSw
        go_simp
        try (with_reducible rfl)
      try simp only [Act.put, sA, sZ, sS]
      refine tk 2 ?_ rfl ?_ ?_; rotate_left; focus (intro w hSw; clear hSw; go_simp; try (with_reducible rfl))
      try simp only [Act.put, sA, sZ, sS]
      refine tk 3 ?_ rfl ?_ ?_; rotate_left
      · intro wl hSw
        have hSw : Keep _ wl := hSw
        have k0 : wl.cell? ⟨gb, 0, none⟩ = some (.int .i64 gn) := (hSw _ (.tail _ (.head _))).1
        have k1 : wl.cell? ⟨gb, 1, none⟩ = some (.slice (some ⟨b, off, none⟩) n c) := (hSw _ (.tail _ (.tail _ (.head _)))).1
        clear hSw
        go_simp
        try (with_reducible rfl)
      try simp only [Act.put, sA, sZ, sS]
      refine tk 5 ?_ rfl ?_ ?_; rotate_left; focus (intro w hSw; clear hSw; go_simp; try (with_reducible rfl))
      try simp only [Act.put, sA, sZ, sS]
      refine tk 6 ?_ rfl ?_ ?_; rotate_left
      · intro wl hSw
        have hSw : Keep _ wl := hSw
        have k0 : wl.cell? ⟨ab, 1, none⟩ = some (.int .i64 t) := (hSw _ (.tail _ (.tail _ (.tail _ (.tail _ (.head _)))))).1
        clear hSw
        go_simp
        try (with_reducible rfl)
      try simp only [Act.put, sA, sZ, sS]
      refine tk 8 ?_ rfl ?_ ?_; rotate_left
      · intro wl hSw
        have hSw : Keep _ wl := hSw
        have k0 : wl.cell? ⟨gb, 0, none⟩ = some (.int .i64 gn) := (hSw _ (.tail _ (.head _))).1
        have k1 : wl.cell? ⟨gb, 1, none⟩ = some (.slice (some ⟨b, off, none⟩) n c) := (hSw _ (.tail _ (.tail _ (.head _)))).1
        clear hSw
        go_simp
        try (with_reducible rfl)
      try simp only [Act.put, sA, sZ, sS]
      refine tk 10 ?_ rfl ?_ ?_; rotate_left; focus (intro w hSw; clear hSw; go_simp; try (with_reducible rfl))
      try simp only [Act.put, sA, sZ, sS]
      refine tk 11 ?_ rfl ?_ ?_; rotate_left
      · intro wl hSw
        have hSw : Keep _ wl := hSw
        have k0 : wl.cell? ⟨ab, 0, none⟩ = some (.int .i64 f) := (hSw _ (.tail _ (.tail _ (.tail _ (.head _))))).1
        clear hSw
        go_simp
        try (with_reducible rfl)
      try simp only [Act.put, sA, sZ, sS]
      refine tk 13 ?_ rfl ?_ ?_; rotate_left; focus (intro w hSw; clear hSw; go_simp; try (with_reducible rfl))
      try simp only [Act.put, sA, sZ, sS]
      refine tk 14 ?_ rfl ?_ ?_; rotate_left
      · intro wl hSw
        have hSw : Keep _ wl := hSw
        have k0 : wl.cell? ⟨ab, 2, none⟩ = some (.int .i64 q) := (hSw _ (.tail _ (.tail _ (.tail _ (.tail _ (.tail _ (.head _))))))).1
        clear hSw
        go_simp
        try (with_reducible rfl)
      try simp only [Act.put, sA, sZ, sS]
      refine wpAnyH_ready (rs := [4]) (by kernel_rfl) (by simp) ?_
      refine AllReadyH.cons (List.getElem?_toArray.trans rfl) (fun K hK => ?_) AllReadyH.nil
      go_simp
      refine (HEND.out _).mono ?_
      rintro e w_4 ⟨rfl, b_4⟩
      try go_wp2_with fail
      have V_4 := Lib.hid (VYd.out.go b_4)
      refine hK.out _ _ (hHeld.go b_4) (fun hHeld => ?_)
      clear hK K
      try simp only [Act.put, sA, sZ, sS]
      refine tk 7 ?_ rfl ?_ ?_; rotate_left; focus (intro w hSw; clear hSw; go_simp; try (with_reducible rfl))
      try simp only [Act.put, sA, sZ, sS]
      refine wpAnyH_ready (rs := [9]) (by kernel_rfl) (by simp) ?_
      refine AllReadyH.cons (List.getElem?_toArray.trans rfl) (fun K hK => ?_) AllReadyH.nil
      go_simp
      refine (HEND.out _).mono ?_
      rintro e w_4_9 ⟨rfl, b_4_9⟩
      try go_wp2_with fail
      have V_4_9 := Lib.hid (V_4.out.go b_4_9)
      refine hK.out _ _ (hHeld.go b_4_9) (fun hHeld => ?_)
      clear hK K
      try simp only [Act.put, sA, sZ, sS]
      refine tk 12 ?_ rfl ?_ ?_; rotate_left; focus (intro w hSw; clear hSw; go_simp; try (with_reducible rfl))
      try simp only [Act.put, sA, sZ, sS]
      refine tk 15 ?_ rfl ?_ ?_; rotate_left; focus (intro w hSw; clear hSw; go_simp; try (with_reducible rfl))
      try simp only [Act.put, sA, sZ, sS]
      refine tk 16 ?_ rfl ?_ ?_; rotate_left; focus (intro w hSw; clear hSw; go_simp; try (with_reducible rfl))
      try simp only [Act.put, sA, sZ, sS]
      refine wpAnyH_ready (rs := [17]) (by kernel_rfl) (by simp) ?_
      refine AllReadyH.cons (List.getElem?_toArray.trans rfl) (fun K hK => ?_) AllReadyH.nil
      obtain ⟨x, hx⟩ : ∃ x, (rvK g n k)[k]? = some x := ⟨_, List.getElem?_eq_getElem (by rw [HXK.out]; exact hlt)⟩
      obtain ⟨d0, d1, d2⟩ := acells_at hx
      obtain ⟨z0, o0, l0⟩ := V_4_9.out.cell (i := 1) rfl (g := gm) (cap := n) rfl (j := k * 3) d0
      obtain ⟨z1, o1, l1⟩ := V_4_9.out.cell (i := 1) rfl (g := gm) (cap := n) rfl (j := k * 3 + 1) d1
      obtain ⟨z2, o2, l2⟩ := V_4_9.out.cell (i := 1) rfl (g := gm) (cap := n) rfl (j := k * 3 + 2) d2
      have V7 := V_4_9.out.arow_set (i := 1) rfl k ⟨gn - 1 - t, gn - 1 - f, q⟩
      rw [HS.out] at V7
      have V7 := Lib.hid V7
      clear hx d0 d1 d2
      go_simp
      refine hK.out _ _ (((hHeld.set _ _ _ (List.forall_mem_cons.2 ⟨(by show ¬ gr = gm; omega), List.forall_mem_cons.2 ⟨(by show ¬ gb = gm; omega), List.forall_mem_cons.2 ⟨(by show ¬ gb = gm; omega), List.forall_mem_cons.2 ⟨(by show ¬ ab = gm; omega), List.forall_mem_cons.2 ⟨(by show ¬ ab = gm; omega), List.forall_mem_cons.2 ⟨(by show ¬ ab = gm; omega), fun _ h => by simp at h⟩⟩⟩⟩⟩⟩)).set _ _ _ (List.forall_mem_cons.2 ⟨(by show ¬ gr = gm; omega), List.forall_mem_cons.2 ⟨(by show ¬ gb = gm; omega), List.forall_mem_cons.2 ⟨(by show ¬ gb = gm; omega), List.forall_mem_cons.2 ⟨(by show ¬ ab = gm; omega), List.forall_mem_cons.2 ⟨(by show ¬ ab = gm; omega), List.forall_mem_cons.2 ⟨(by show ¬ ab = gm; omega), fun _ h => by simp at h⟩⟩⟩⟩⟩⟩)).set _ _ _ (List.forall_mem_cons.2 ⟨(by show ¬ gr = gm; omega), List.forall_mem_cons.2 ⟨(by show ¬ gb = gm; omega), List.forall_mem_cons.2 ⟨(by show ¬ gb = gm; omega), List.forall_mem_cons.2 ⟨(by show ¬ ab = gm; omega), List.forall_mem_cons.2 ⟨(by show ¬ ab = gm; omega), List.forall_mem_cons.2 ⟨(by show ¬ ab = gm; omega), fun _ h => by simp at h⟩⟩⟩⟩⟩⟩)) (fun hHeld => ?_)
      clear hK K
      try simp only [Act.put, sA, sZ, sS]
      refine wpAnyH_done (by kernel_rfl) ?_ _
      clear hKp hHeld
      go_wp2_with fail
      go_roundw
      case rel => exact ⟨k + 1, by go_num, by omega, V7.out.tail⟩
      case measure => simp [intOf]; omega
  exact AllReadyH.nil
end Go.Proofs.Ytgdfjblfpeedjaa
