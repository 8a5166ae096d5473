/- Contract of the program: how many paths cost at most so much. -/
import Derived.Test.YtgdfjblfpeedjaaDEx
import Derived.Test.YtgdfjblfpeedjaaDAX
namespace Go.Proofs.Ytgdfjblfpeedjaa
open Go.RowKit
set_option linter.unusedVariables false
set_option linter.unusedSimpArgs false
set_option maxRecDepth 100000

open Go.Shelf
attribute [local go_sem] Oper.semAt_some
theorem low_at {L : List Int} {N k : Nat} (hl : L.length = N) (hk : k < N) : (L.take k ++ List.replicate (N - k) 0)[k]? = some 0 := by
  rw [List.getElem?_append_right (by rw [List.length_take]; omega), List.length_take, List.getElem?_replicate, if_pos (by omega)]
theorem low_set {L : List Int} {N k : Nat} (hl : L.length = N) (hk : k < N) : (L.take k ++ List.replicate (N - k) 0).set k (L.getD k 0) = L.take (k + 1) ++ List.replicate (N - (k + 1)) 0 := by
  obtain ⟨d, hd⟩ : ∃ d, N - k = d + 1 := ⟨N - k - 1, by omega⟩
  have hlk : (L.take k).length = k := by rw [List.length_take]; omega
  rw [hd, show N - (k + 1) = d by omega, List.replicate_succ, List.set_append_right _ _ (by omega), hlk, Nat.sub_self, List.set_cons_zero, List.take_succ_eq_append_getElem (show k < L.length by omega), List.getD_eq_getElem?_getD, List.getElem?_eq_getElem (show k < L.length by omega), List.append_assoc]
  rfl
theorem Hp.pickL {W w : World} {l l' R : List Itm} (h : Hp W (l ++ R) w) (is : List Nat) (hnd : is.Nodup) (hl : l'.map some = is.map (fun i => l[i]?)) : Hp W (l' ++ R) w := by
  have hlt : ∀ i ∈ is, i < l.length := fun i hi => by
    have h1 : l[i]? ∈ l'.map some := by rw [hl]; exact List.mem_map.2 ⟨i, hi, rfl⟩
    obtain ⟨x, _, hx⟩ := List.mem_map.1 h1
    exact (List.getElem?_eq_some_iff.1 hx.symm).1
  refine h.pick (is ++ (List.range R.length).map (· + l.length)) ?_ ?_
  · refine List.nodup_append.2 ⟨hnd, List.pairwise_map.2 (List.Pairwise.imp (fun hab e => hab (by omega)) List.nodup_range), fun a ha b hb e => ?_⟩
    obtain ⟨k, _, rfl⟩ := List.mem_map.1 hb
    have := hlt a ha
    omega
  · rw [List.map_append, List.map_append, hl]
    congr 1
    · refine List.map_congr_left fun i hi => ?_
      rw [List.getElem?_append_left (hlt i hi)]
    · rw [List.map_map]
      refine List.ext_getElem? fun j => ?_
      rw [List.getElem?_map, List.getElem?_map]
      by_cases hj : j < R.length
      · rw [List.getElem?_range hj, List.getElem?_eq_getElem hj]
        show some (some R[j]) = some ((l ++ R)[j + l.length]?)
        rw [List.getElem?_append_right (by omega), Nat.add_sub_cancel, List.getElem?_eq_getElem hj]
      · rw [List.getElem?_eq_none (by omega), List.getElem?_eq_none (by rw [List.length_range]; omega)]; rfl
theorem map_arc (rs : List Ar) : (idL rs.length).map (arc rs) = rs := by
  refine List.ext_getElem? fun j => ?_
  unfold idL
  rw [List.map_map, List.getElem?_map]
  by_cases hj : j < rs.length
  · rw [List.getElem?_range hj]
    show some (arc rs (j : Int)) = _
    rw [arc_get hj]
  · rw [List.getElem?_eq_none (l := rs) (by omega), List.getElem?_eq_none (l := List.range rs.length) (by rw [List.length_range]; omega)]; rfl
theorem open_count {g : Gr} (h : g.Ok) {Z : List Int} (hZ : IsOrd g Z) {N v : Nat} (hv : v < N) : (g.opK N g.rs.length).getD v 0 = (opN g Z v : Int) := by
  have h1 := opK_count g.rs v (List.replicate N 0) (by rw [List.length_replicate]; exact hv) (fun a ha => by have := h.arc a ha; omega)
  have h2 : (g.opK N g.rs.length).getD v 0 = (g.rs.foldl (fun L a => L.set a.t.toNat (L.getD a.t.toNat 0 + 1)) (List.replicate N 0)).getD v 0 := by
    unfold Gr.opK
    rw [List.take_length]; rfl
  have h3 : opN g Z v = g.rs.countP (fun a => decide (a.t = (v : Int))) := by
    unfold opN
    rw [hZ.1.countP_eq]
    conv => rhs; rw [← map_arc g.rs]
    rw [List.countP_map]; rfl
  rw [h2, h1, h3, List.getD_eq_getElem?_getD, List.getElem?_replicate, if_pos hv]
  show (0 : Int) + _ = _
  omega
theorem low_of {g : Gr} (h : g.Ok) {Z : List Int} (hZ : IsOrd g Z) : Low g (costsC g g.n.toNat Z) := fun i h0 h1 h2 => (costs_inv h hZ).low i ((ord_ix hZ).2 ⟨h0, h1⟩) h2
/-- A row is given up. -/
theorem Hp.urow_nil {W w : World} {pre : List Itm} {vs : List (Option Addr × Nat)} {U : List (List Int)} {q : Nat} {v : Option Addr × Nat} {row : List Int} (h : Hp W (pre ++ urows vs U) w) (hv : vs[q]? = some v) (hr : U[q]? = some row) : Hp W (pre ++ urows (vs.set q (none, 0)) (U.set q [])) w := by
  have h1 := h.upd (w' := w) (row_in hv hr) (unums none 0 0 []) ⟨rfl, rfl, rfl, Nat.le_refl _, fun _ _ _ => rfl⟩ (World.ownsRow_nil w _ _ _) (fun k hk => by cases hk)
  rw [List.set_append_right _ _ (by omega), Nat.add_sub_cancel_left] at h1
  have h2 := urows_set vs U q none 0 []
  have h3 : (urows vs U).set q (unums none 0 0 []) = urows (vs.set q (none, 0)) (U.set q []) := h2
  rw [h3] at h1
  exact h1
set_option maxHeartbeats 32000000 in
theorem count_any (g : Gr) (A : Option Addr) (n c : Nat) (m : Int) (w : World) (h : GrIn w A n c g) (hv : g.vE = 0) (hm0 : 0 ≤ m) (hm1 : m ≤ 60000) :
    Calls Try.prog 14 #[gval g A n c, .int .i64 m] w fun e w' => e = .returned (.int .u64 (g.wN m)) ∧ Below w.heap.size w w' := by
  have H := Lib.hid h
  have HV := Lib.hid hv
  have HO := Lib.hid (Gr.ok hv)
  obtain ⟨gn, hgn⟩ : ∃ gn, gn = g.n := ⟨_, rfl⟩
  have hgv : gval g A n c = .agg #[.int .i64 gn, .slice A n c] := by rw [hgn]
  have HTR := Lib.hid (show ∀ W, GrIn W A n c g → Calls Try.prog 9 #[.agg #[.int .i64 gn, .slice A n c]] W (TrimPost g W) from fun W hW => by rw [← hgv]; exact trim_any g A n c W hW)
  rw [hgv]
  clear h hv hgv hgn
  obtain ⟨gb, hgb⟩ : ∃ gb, gb = w.heap.size := ⟨_, rfl⟩
  obtain ⟨gl, hgl⟩ : ∃ gl, gl = gb + 1 := ⟨_, rfl⟩
  obtain ⟨wz, hwz⟩ : ∃ z, z = (w.alloc (.cells #[.int .i64 gn, .slice A n c] 26)).alloc (.cells #[.int .i64 m] 3) := ⟨_, rfl⟩
  have HZ := Lib.hid hwz
  have V := Lib.hid (show Hp w [box 3 gl [.int .i64 m], box 26 gb [.int .i64 gn, .slice A n c]] wz by
    have h1 := (Hp.start w).box_new 26 [.int .i64 gn, .slice A n c]
    have h2 := h1.box_new 3 [.int .i64 m]
    rw [show (w.alloc (.cells [.int .i64 gn, .slice A n c].toArray 26)).heap.size = w.heap.size + 1 by unfold World.alloc; exact Array.size_push ..] at h2
    rw [hwz, hgl, hgb]; exact h2)
  clear hwz
  refine (callsIn_wide (n := 3)).1 ?_
  refine callsIn_of_wp_marks Try.func14 rfl trivial ?_
  refine wpIn_wide.2 (wp_noPanic ?_)
  simp only [Try.ntmps14, List.size_toArray, List.length_cons, List.length_nil, Nat.reduceAdd, Nat.reduceSub, Array.replicate_succ, Array.replicate_zero, List.push_toArray, List.append_toArray, List.nil_append, List.cons_append]
  go_upto_region 1 with fail
  rw [← HZ.out, ← hgb, ← hgl]
  clear HZ hgb hgl
  obtain ⟨r0, _, r9⟩ := V.out.box_at (i := 1) (j := 0) rfl rfl
  obtain ⟨r1, _, _⟩ := V.out.box_at (i := 1) (j := 1) rfl rfl
  go_wp2_with fail
  refine (HTR.out _ (H.out.below V.out.below)).mono ?_
  rintro e w1 ⟨C, md, dd, B, bn, bc, rfl, hmd, hbn, hp⟩
  have V1 := Lib.hid (V.out.join hp)
  clear hp V r0 r1 r9 HTR hbn
  by_cases hw : g.wy 0 = 0
  · have HT := tr_none HV.out hw
    rw [HT] at V1 ⊢
    have HW0 := Lib.hid (wN_none HO.out hw m)
    obtain ⟨r0, q0, r9⟩ := V1.out.box_at (i := 3) (j := 0) rfl rfl
    obtain ⟨r1, q1, _⟩ := V1.out.box_at (i := 3) (j := 1) rfl rfl
    have V2 := Lib.hid ((V1.out.box_set (i := 3) rfl 0 (.int .i64 0)).box_set (i := 3) rfl 1 (.slice C md dd))
    have B2 := Lib.hid V2.out.below
    clear V1 HT hw hmd V2
    dsimp only
    go_wp2_with fail
    refine ⟨_, results_tmp rfl _ _ _, ?_⟩
    rw [HW0.out]
    exact ⟨rfl, B2.out⟩
  have HP := Lib.hid (cs_tr HV.out hw)
  have HTO := Lib.hid (tg_ok HV.out hw)
  have HT := tr_ok HV.out hw
  rw [HT] at V1 hmd ⊢
  dsimp only at hmd
  obtain ⟨T, hT⟩ : ∃ T, T = g.tg := ⟨_, rfl⟩
  have HTT := Lib.hid hT
  rw [← hT] at V1 hmd HP HTO ⊢
  have HMD := Lib.hid hmd
  obtain ⟨N, hN⟩ := Int.eq_ofNat_of_zero_le (show 0 ≤ T.n by have := HTO.out.n1; omega)
  have HN := Lib.hid hN
  have hN1 : 1 ≤ N := by have := HTO.out.n1; omega
  have hN2 : N ≤ 2000 := by have := HTO.out.n2; omega
  have hmd6 : md ≤ 6000 := by have := HTO.out.len; omega
  dsimp only at V1
  dsimp only
  rw [hN]
  clear HT hw hT hmd hN
  obtain ⟨r0, q0, r9⟩ := V1.out.box_at (i := 3) (j := 0) rfl rfl
  obtain ⟨r1, q1, _⟩ := V1.out.box_at (i := 3) (j := 1) rfl rfl
  obtain ⟨w2, hw2⟩ : ∃ z, z = (w1.setCell ⟨gb, 0, none⟩ (.int .i64 (N : Int))).setCell ⟨gb, 1, none⟩ (.slice C md dd) := ⟨_, rfl⟩
  have HW2 := Lib.hid hw2
  have V2 := Lib.hid (show Hp w [box 3 gl [.int .i64 m], box 26 gb [.int .i64 (N : Int), .slice C md dd], arow C md dd T.rs] w2 by
    have h := (V1.out.box_set (i := 3) rfl 0 (.int .i64 (N : Int))).box_set (i := 3) rfl 1 (.slice C md dd)
    rw [hw2]; exact h.pick [2, 3, 0] (by decide) rfl)
  clear hw2
  go_upto_region 4 with fail
  rw [← HW2.out]
  clear HW2 V1 r0 r1 q0 q1 r9 H HO HV
  have HBF := Lib.hid (show ∀ W, GrIn W C md dd T → Calls Try.prog 15 #[.agg #[.int .i64 (N : Int), .slice C md dd]] W (ByFromPost T md W) from fun W hW => by have := byFrom_any T C md dd W hW hmd6; unfold gval at this; rw [HN.out] at this; exact this)
  have HCH := Lib.hid (show ∀ (W : World) (gd : Nat) (Z : List Int), GrIn W C md dd T → Z.length = md → (∀ x ∈ Z, 0 ≤ x ∧ x < (md : Int)) → CellsIn W (some ⟨gd, 0, none⟩) (ints Z) → gd < W.heap.size → Calls Try.prog 16 #[.agg #[.int .i64 (N : Int), .slice C md dd], .slice (some ⟨gd, 0, none⟩) md md] W (CheapPost T Z W) from fun W gd Z h1 h3 h4 h5 h6 => by have := cheapest_any T C md dd gd Z W h1 HTO.out h3 h4 h5 h6; unfold gval at this; rw [HN.out] at this; exact this)
  have HAT := Lib.hid (show ∀ (W : World), GrIn W C md dd T → Calls Try.prog 22 #[.agg #[.int .i64 (N : Int), .slice C md dd]] W fun e w' => ∃ gr : Nat, e = .returned (.slice (some ⟨gr, 0, none⟩) N N) ∧ Hp W [nums (some ⟨gr, 0, none⟩) N N (T.opK N md)] w' from fun W h1 => by have := arcsTo_any T C md dd N W h1 HTO.out HN.out; unfold gval at this; rw [HN.out] at this; exact this)
  have HGI := Lib.hid (show ∀ (W' W : World) (l : List Itm) (i : Nat), Hp W' l W → l[i]? = some (arow C md dd T.rs) → GrIn W C md dd T from fun _ _ _ _ hp hi => hp.grIn hi HMD.out (by omega))
  obtain ⟨r0, _, r9⟩ := V2.out.box_at (i := 1) (j := 0) rfl rfl
  obtain ⟨r1, _, _⟩ := V2.out.box_at (i := 1) (j := 1) rfl rfl
  go_wp2_with fail
  refine (HBF.out _ (HGI.out _ _ _ 2 V2.out rfl)).mono ?_
  rintro e w3 ⟨gd, Z, rfl, hZ, hp⟩
  have V3 := Lib.hid (V2.out.join hp)
  have HOZ := Lib.hid hZ
  have HZL := Lib.hid (show Z.length = md by rw [hZ.1.length_eq, idL_len]; exact HMD.out)
  have HZM := Lib.hid (show ∀ x ∈ Z, 0 ≤ x ∧ x < (md : Int) from fun x hx => by
    have := idL_mem.1 (hZ.1.mem_iff.1 hx)
    rw [HMD.out] at this; exact this)
  clear hp hZ V2 r0 r1 r9 HBF
  obtain ⟨r0, _, r9⟩ := V3.out.box_at (i := 2) (j := 0) rfl rfl
  obtain ⟨gs, hgs⟩ : ∃ x, x = w3.heap.size := ⟨_, rfl⟩
  obtain ⟨gsb, hgsb⟩ : ∃ x, x = gs + 1 := ⟨_, rfl⟩
  obtain ⟨ZC, hZC⟩ : ∃ ZC, ZC = (spC (List.replicate N ((0 : Int), (.slice none 0 0 : Value)))).toArray := ⟨_, rfl⟩
  have hmk := fun w => make_sprs (N : Int) N rfl (by omega) w
  rw [← hZC] at hmk
  obtain ⟨w4, hw4⟩ : ∃ z, z = (w3.alloc (.cells ZC 60)).alloc (.cells #[.slice (some ⟨gs, 0, none⟩) N N] 58) := ⟨_, rfl⟩
  have HW4 := Lib.hid (show w4 = (w3.alloc (.cells ZC 60)).alloc (.cells #[.slice (some ⟨w3.heap.size, 0, none⟩) N N] 58) by rw [hw4, hgs])
  have V4 := Lib.hid (show Hp w [box 58 gsb [.slice (some ⟨gs, 0, none⟩) N N], spr gs N (List.replicate N 0) (List.replicate N (none, 0)) (List.replicate N []), nums (some ⟨gd, 0, none⟩) md md Z, box 3 gl [.int .i64 m], box 26 gb [.int .i64 (N : Int), .slice C md dd], arow C md dd T.rs] w4 by
    have h1 := V3.out.made_sprs N (by omega) hZC
    have h2 := h1.box_new 58 [.slice (some ⟨gs, 0, none⟩) N N]
    rw [show (w3.alloc (.cells ZC 60)).heap.size = w3.heap.size + 1 by simp, ← hgs, ← hgsb] at h2
    rw [hw4]; exact h2)
  have HGS := Lib.hid hgs
  have HGSB := Lib.hid hgsb
  clear hw4 hZC hgs hgsb
  go_upto_region 5 with fail
  go_upto_region 6 with fail
  rw [← HW4.out, ← HGS.out, ← HGSB.out]
  clear HW4 HGS HGSB hmk r0 r9 V3
  obtain ⟨r0, _, r9⟩ := V4.out.box_at (i := 4) (j := 0) rfl rfl
  obtain ⟨r1, _, _⟩ := V4.out.box_at (i := 4) (j := 1) rfl rfl
  go_wp2_with fail
  refine (HCH.out _ gd Z (HGI.out _ _ _ 5 V4.out rfl) HZL.out HZM.out (V4.out.cells (i := 2) rfl rfl) (V4.out.lt (i := 2) rfl (k := gd) rfl).2).mono ?_
  rintro e w5 ⟨gp, rfl, hp⟩
  have HNN := Lib.hid (show T.n.toNat = N by rw [HN.out]; rfl)
  rw [HNN.out] at hp ⊢
  have hco := costs_ok HTO.out HOZ.out
  rw [HNN.out] at hco
  obtain ⟨L, hL⟩ : ∃ L, L = costsC T N Z := ⟨_, rfl⟩
  rw [← hL] at hp hco
  have HL := Lib.hid hL
  have HCO := Lib.hid hco
  have HLL := Lib.hid hco.1
  have V5 := Lib.hid (V4.out.join hp)
  clear hp hco hL V4 r0 r1 r9 HCH
  go_wp2_with fail
  go_loopw [32] (fun cv wr => ∃ k : Nat, cv = .int .i64 (k : Int) ∧ k ≤ N ∧ Hp w [nums (some ⟨gp, 0, none⟩) N N L, box 58 gsb [.slice (some ⟨gs, 0, none⟩) N N], spr gs N (L.take k ++ List.replicate (N - k) 0) (List.replicate N (none, 0)) (List.replicate N []), nums (some ⟨gd, 0, none⟩) md md Z, box 3 gl [.int .i64 m], box 26 gb [.int .i64 (N : Int), .slice C md dd], arow C md dd T.rs] wr) (fun cv _ => N - (intOf cv).toNat)
  case atStart => exact ⟨0, rfl, Nat.zero_le _, V5.out⟩
  case round =>
    clear V5
    obtain ⟨k, rfl, hkN, hV⟩ := hrel
    obtain ⟨wi, rfl⟩ : ∃ wi : World, wi = wr := ⟨_, rfl⟩
    have V5 := Lib.hid hV
    clear hV
    by_cases hlt : k < N
    · obtain ⟨x0, _, x9⟩ := V5.out.num_at (i := 0) rfl (j := k) (by rw [HLL.out]; exact hlt)
      obtain ⟨r0, _, r9⟩ := V5.out.box_at (i := 1) (j := 0) rfl rfl
      obtain ⟨y0, _, y2, _, y4⟩ := V5.out.spr_at (i := 2) rfl (low_at HLL.out hlt) (show (List.replicate N ((none : Option Addr), 0))[k]? = some (none, 0) by rw [List.getElem?_replicate, if_pos hlt]) (show (List.replicate N ([] : List Int))[k]? = some [] by rw [List.getElem?_replicate, if_pos hlt])
      have h2 := V5.out.spr_low (i := 2) rfl (low_at HLL.out hlt) (show (List.replicate N ((none : Option Addr), 0))[k]? = some (none, 0) by rw [List.getElem?_replicate, if_pos hlt]) (show (List.replicate N ([] : List Int))[k]? = some [] by rw [List.getElem?_replicate, if_pos hlt]) (L.getD k 0)
      rw [low_set HLL.out hlt] at h2
      obtain ⟨y, hy⟩ : ∃ y, y = L.getD k 0 := ⟨_, rfl⟩
      rw [← hy] at x0 h2
      have V6 := Lib.hid h2
      have hk2 : k * 2 ≤ 4000 := by omega
      clear h2 hy
      go_wp2_with fail
      go_roundw
      case rel => exact ⟨k + 1, by go_num, by omega, V6.out⟩
      case measure => simp [intOf]; omega
    obtain rfl : k = N := by omega
    have hs0 := V5.out
    rw [Nat.sub_self, List.replicate_zero, List.append_nil, List.take_of_length_le (Nat.le_of_eq HLL.out)] at hs0
    have V6 := Lib.hid hs0
    obtain ⟨E, hE⟩ : ∃ E, E = k - 1 := ⟨_, rfl⟩
    have HE := Lib.hid hE
    have hEk : E < k := by omega
    have hE2 : E * 2 ≤ 4000 := by omega
    have g1 : IntKind.i64.wrap ((k : Int) - 1) = (E : Int) := by rw [IntWalk.i64_in _ (by omega)]; omega
    obtain ⟨gu, hgu⟩ : ∃ x, x = wi.heap.size := ⟨_, rfl⟩
    have h7 := Hp.lit V6.out 47 1 1 [.int .u64 1] rfl (by decide)
    rw [← hgu] at h7
    have V7 := Lib.hid (show Hp w (unums (some ⟨gu, 0, none⟩) 1 1 [1] :: [nums (some ⟨gp, 0, none⟩) k k L, box 58 gsb [.slice (some ⟨gs, 0, none⟩) k k], spr gs k L (List.replicate k (none, 0)) (List.replicate k []), nums (some ⟨gd, 0, none⟩) md md Z, box 3 gl [.int .i64 m], box 26 gb [.int .i64 (k : Int), .slice C md dd], arow C md dd T.rs]) (wi.alloc (.cells #[.int .u64 1] 47)) from h7)
    have HU := Lib.hid hgu
    clear h7 hgu hs0 V5 hE hlt
    obtain ⟨l0, hl0⟩ : ∃ x, L[E]? = some x := ⟨_, List.getElem?_eq_getElem (show E < L.length by rw [HLL.out]; exact hEk)⟩
    have hv0 : (List.replicate k ((none : Option Addr), 0))[E]? = some (none, 0) := by rw [List.getElem?_replicate, if_pos hEk]
    have hu0 : (List.replicate k ([] : List Int))[E]? = some [] := by rw [List.getElem?_replicate, if_pos hEk]
    obtain ⟨_, y1, _, y3, y4⟩ := V7.out.spr_at (i := 3) rfl hl0 hv0 hu0
    obtain ⟨w7, hw7⟩ : ∃ z, z = (wi.alloc (.cells #[.int .u64 1] 47)).setCell ⟨gs, E * 2 + 1, none⟩ (.slice (some ⟨gu, 0, none⟩) 1 1) := ⟨_, rfl⟩
    have HW7 := Lib.hid hw7
    have V8 := Lib.hid (show Hp w ([box 58 gsb [.slice (some ⟨gs, 0, none⟩) k k], spr gs k L ((List.replicate k (none, 0)).set (k - 1) (some ⟨gu, 0, none⟩, 1)) ((List.replicate k []).set (k - 1) [1]), nums (some ⟨gd, 0, none⟩) md md Z, box 3 gl [.int .i64 m], box 26 gb [.int .i64 (k : Int), .slice C md dd], arow C md dd T.rs] ++ urows ((List.replicate k (none, 0)).set (k - 1) (some ⟨gu, 0, none⟩, 1)) ((List.replicate k []).set (k - 1) [1])) w7 by
      have h := V7.out.spr_set (i := 3) rfl hl0 hv0 hu0 (some ⟨gu, 0, none⟩, 1) [1]
      rw [HE.out] at h hw7
      rw [hw7]
      exact (Hp.rows_one h (by omega)).pickL [1, 2, 3, 4, 5, 6] (by decide) rfl)
    obtain ⟨r0, _, r9⟩ := V6.out.box_at (i := 1) (j := 0) rfl rfl
    obtain ⟨q0, _, q9⟩ := V6.out.box_at (i := 5) (j := 0) rfl rfl
    clear hw7 hl0 hv0 hu0 V6
    go_upto_region 11 with fail
    go_upto_region 12 with fail
    rw [← HU.out, ← HW7.out]
    clear HU HW7 V7 y1 y3 y4 r0 r9 q0 q9 g1
    obtain ⟨r0, _, r9⟩ := V8.out.box_at (i := 4) (j := 0) rfl rfl
    obtain ⟨r1, _, _⟩ := V8.out.box_at (i := 4) (j := 1) rfl rfl
    go_wp2_with fail
    refine (HAT.out _ (HGI.out _ _ _ 5 V8.out rfl)).mono ?_
    rintro e w8 ⟨gr, rfl, hp⟩
    obtain ⟨O, hO⟩ : ∃ O, O = T.opK k md := ⟨_, rfl⟩
    rw [← hO] at hp
    have HOO := Lib.hid hO
    have V9 := Lib.hid (V8.out.join hp)
    clear hp hO V8 r0 r1 r9 HAT
    obtain ⟨gob, hgob⟩ : ∃ x, x = w8.heap.size := ⟨_, rfl⟩
    obtain ⟨w9, hw9⟩ : ∃ z, z = w8.alloc (.cells #[.slice (some ⟨gr, 0, none⟩) k k] 33) := ⟨_, rfl⟩
    have h10 := V9.out.box_new 33 [.slice (some ⟨gr, 0, none⟩) k k]
    rw [← hgob] at h10
    have V10 := Lib.hid (show Hp w (box 33 gob [.slice (some ⟨gr, 0, none⟩) k k] :: ([nums (some ⟨gr, 0, none⟩) k k O] ++ ([box 58 gsb [.slice (some ⟨gs, 0, none⟩) k k], spr gs k L ((List.replicate k (none, 0)).set (k - 1) (some ⟨gu, 0, none⟩, 1)) ((List.replicate k []).set (k - 1) [1]), nums (some ⟨gd, 0, none⟩) md md Z, box 3 gl [.int .i64 m], box 26 gb [.int .i64 (k : Int), .slice C md dd], arow C md dd T.rs] ++ urows ((List.replicate k (none, 0)).set (k - 1) (some ⟨gu, 0, none⟩, 1)) ((List.replicate k []).set (k - 1) [1])))) w9 by rw [hw9]; exact h10)
    have HW9 := Lib.hid hw9
    have HGOB := Lib.hid hgob
    clear hw9 hgob h10 V9
    go_upto_region 13 with fail
    rw [← HW9.out, ← HGOB.out]
    clear HW9 HGOB
    go_wp2_with fail
    refine (backI_any _ _ _ _).mono ?_
    rintro e w10 ⟨rfl, hw10⟩
    obtain ⟨Bs, hBs⟩ : ∃ x, x = w9.heap.size := ⟨_, rfl⟩
    have h11 := V10.out.box_new 33 [.slice (some ⟨gd, 0, none⟩) md md]
    rw [← hBs] at h11 ⊢
    have V11 := Lib.hid (show Hp w ([spr gs k L ((List.replicate k (none, 0)).set (k - 1) (some ⟨gu, 0, none⟩, 1)) ((List.replicate k []).set (k - 1) [1]), box 33 Bs [.slice (some ⟨gd, 0, none⟩) md md], box 33 gob [.slice (some ⟨gr, 0, none⟩) k k], nums (some ⟨gr, 0, none⟩) k k O, box 58 gsb [.slice (some ⟨gs, 0, none⟩) k k], nums (some ⟨gd, 0, none⟩) md md Z, box 3 gl [.int .i64 m], box 26 gb [.int .i64 (k : Int), .slice C md dd], arow C md dd T.rs] ++ urows ((List.replicate k (none, 0)).set (k - 1) (some ⟨gu, 0, none⟩, 1)) ((List.replicate k []).set (k - 1) [1])) w10 by
      rw [hw10]
      exact Hp.pickL (l := box 33 Bs [.slice (some ⟨gd, 0, none⟩) md md] :: box 33 gob [.slice (some ⟨gr, 0, none⟩) k k] :: ([nums (some ⟨gr, 0, none⟩) k k O] ++ [box 58 gsb [.slice (some ⟨gs, 0, none⟩) k k], spr gs k L ((List.replicate k (none, 0)).set (k - 1) (some ⟨gu, 0, none⟩, 1)) ((List.replicate k []).set (k - 1) [1]), nums (some ⟨gd, 0, none⟩) md md Z, box 3 gl [.int .i64 m], box 26 gb [.int .i64 (k : Int), .slice C md dd], arow C md dd T.rs])) h11 [4, 0, 1, 2, 3, 5, 6, 7, 8] (by decide) rfl)
    clear h11 hw10 hBs V10
    have hB10 := (V11.out.box_at (i := 1) (j := 0) rfl rfl).2.2
    have hG10 := (V11.out.lt (i := 5) rfl (k := gd) rfl).2
    have HC := Lib.hid (show ∀ j, j < md → w10.cell? ⟨gd, j, none⟩ = some (.int .i64 (Z.getD j 0)) from fun j hj => (V11.out.num_at (i := 5) rfl (j := j) (by rw [HZL.out]; exact hj)).1)
    have HLOW := Lib.hid (show Low T L by rw [HL.out, ← HNN.out]; exact low_of HTO.out HOZ.out)
    have HLAST := Lib.hid (show L.getD (k - 1) 0 = 0 by
      have h := (costs_inv HTO.out HOZ.out).last
      rw [HNN.out, ← HL.out] at h
      unfold pv at h
      rw [show (T.n - 1).toNat = k - 1 by rw [HN.out]; omega] at h
      exact h)
    have HOL := Lib.hid (show O.length = k by rw [HOO.out]; exact opK_len T k md)
    have HOC := Lib.hid (show ∀ v : Nat, v < k → O.getD v 0 = (opN T Z v : Int) from fun v hv => by
      have := open_count HTO.out HOZ.out hv
      rw [HMD.out] at this
      rw [HOO.out]; exact this)
    have HOB := Lib.hid (show ∀ v : Nat, 0 ≤ O.getD v 0 ∧ O.getD v 0 ≤ 6000 from fun v => by
      have := opK_get T k md v
      rw [HOO.out]; omega)
    have HZM2 := Lib.hid (show ∀ x ∈ Z, 0 ≤ x ∧ x < (T.rs.length : Int) from fun x hx => by have := HZM.out x hx; rw [HMD.out]; exact this)
    go_wp2_with fail
    refine (wpIn_wide (n := 3)).1 ?_
    refine wpIn_rangeFunc_ownG rfl (by omega) (gf := 32) (lb := #[.pointer (some ⟨Bs, 0, none⟩)]) rfl trivial (enters_of Try.func32 (by kernel_rfl) rfl)
      (backC_stops 2 (by omega) Bs gd md md (by omega) (fun j => Z.getD j 0) w10 (V11.out.box_at (i := 1) (j := 0) rfl rfl).1 HC.out)
      (fun h k => h.trans k) (fun W l o o' hl _ _ _ => KeptC.putObj W l o' hB10 hG10 hl) (Below.refl _ _) (fun _ => rfl)
      (fun pre W => ∃ vs : List (Option Addr × Nat), vs.length = k ∧ Hp w ([spr gs k L vs ((pre.map fun x : Fin md => Z.getD x.1 0).foldl (stW T m L) (startW k O)).1, box 33 Bs [.slice (some ⟨gd, 0, none⟩) md md], box 33 gob [.slice (some ⟨gr, 0, none⟩) k k], nums (some ⟨gr, 0, none⟩) k k ((pre.map fun x : Fin md => Z.getD x.1 0).foldl (stW T m L) (startW k O)).2, box 58 gsb [.slice (some ⟨gs, 0, none⟩) k k], nums (some ⟨gd, 0, none⟩) md md Z, box 3 gl [.int .i64 m], box 26 gb [.int .i64 (k : Int), .slice C md dd], arow C md dd T.rs] ++ urows vs ((pre.map fun x : Fin md => Z.getD x.1 0).foldl (stW T m L) (startW k O)).1) W)
      (fun _ _ _ => False)
      (fun s A B row hs hg hr => by
        obtain ⟨vs, h1, h2⟩ := hs
        exact ⟨vs, h1, h2.turned hg (fun r e => ⟨Nat.le_trans V11.out.below.size (hr r e).1, (hr r e).2⟩)⟩)
      (fun _ _ _ _ _ hs _ _ => hs)
      ⟨_, by rw [List.length_set, List.length_replicate], V11.out⟩ ?a1 ?assign ?body ?done ?stop
    case assign =>
      intro l x W K hK
      gi_wp2
      exact hK
    case stop =>
      rintro D c pre W _ _ h _
      exact h.elim
    case done =>
      rintro D ys W hD rfl ⟨vs, hvl, hV⟩ hK
      have e := bk_map Z
      rw [HZL.out] at e
      rw [e] at hV
      have hst := strong HTO.out HN.out hm0 HLOW.out HLAST.out HOL.out HOC.out HZM2.out Z [] rfl
      obtain ⟨S, hS⟩ : ∃ S, S = Z.reverse.foldl (stW T m L) (startW k O) := ⟨_, rfl⟩
      rw [← hS] at hV hst
      obtain ⟨U, O2⟩ := S
      obtain ⟨s1, _, _⟩ := hst
      have hsum := SpInv.done HTO.out hN1 HOZ.out.2 (fun i => by have := @ord_ix T Z HOZ.out i; exact this) s1
      have hsp0 := s1.sp 0 (by omega)
      obtain ⟨U0, hU0⟩ : ∃ x, U[0]? = some x := ⟨_, List.getElem?_eq_getElem (show 0 < U.length by have := s1.len; dsimp only at this; omega)⟩
      have hU0d : U.getD 0 [] = U0 := by rw [List.getD_eq_getElem?_getD, hU0]; rfl
      obtain ⟨v0, hv0⟩ : ∃ x, vs[0]? = some x := ⟨_, List.getElem?_eq_getElem (show 0 < vs.length by omega)⟩
      obtain ⟨l0, hl0⟩ : ∃ x, L[0]? = some x := ⟨_, List.getElem?_eq_getElem (show 0 < L.length by rw [HLL.out]; omega)⟩
      dsimp only at hV hsum hsp0
      rw [hU0d] at hsum hsp0
      rw [wN_perm HP.out] at hsum
      have HSUM := Lib.hid (show capS U0 = g.wN m from hsum)
      have HUL := Lib.hid (sp_len hsp0 hm1)
      have HUO := Lib.hid (show UOk U0 from fun x hx => by
        obtain ⟨j, hj, e⟩ := List.mem_iff_getElem.1 hx
        have := hsp0.vals j
        rw [List.getD_eq_getElem?_getD, List.getElem?_eq_getElem hj, e] at this
        exact this)
      have HV := Lib.hid hV
      have HK := Lib.hid hK
      obtain ⟨_, y1, _, _, y4⟩ := HV.out.spr_at (i := 0) (q := 0) rfl hl0 hv0 hU0
      obtain ⟨r0, _, r9⟩ := HV.out.box_at (i := 4) (j := 0) rfl rfl
      have HCU := Lib.hid (HV.out.cells (row_in (pre := [spr gs k L vs U, box 33 Bs [.slice (some ⟨gd, 0, none⟩) md md], box 33 gob [.slice (some ⟨gr, 0, none⟩) k k], nums (some ⟨gr, 0, none⟩) k k O2, box 58 gsb [.slice (some ⟨gs, 0, none⟩) k k], nums (some ⟨gd, 0, none⟩) md md Z, box 3 gl [.int .i64 m], box 26 gb [.int .i64 (k : Int), .slice C md dd], arow C md dd T.rs]) hv0 hU0) (A := v0.1) (c := v0.2) rfl)
      clear hV hK hS s1 hsum hsp0 hU0d hU0 hv0 hl0 e
      go_wp2_with fail
      refine (sum_any gs 0 U0.length v0.2 v0.1 U0 W y1 rfl (by have := HUL.out; omega) HUO.out HCU.out).mono ?_
      rintro e w11 ⟨rfl, rfl⟩
      rw [HSUM.out]
      go_wp2_with fail
      refine ⟨by simp, .inl ⟨_, _, rfl, run_takeDeferred HK.out, ?_⟩⟩
      refine ⟨_, results_tmp rfl _ _ _, rfl, ?_⟩
      exact (HV.out.turned (grownBy_putObj' _ D (.deferred none)) (fun r e => by
        injection e with e
        subst e
        exact ⟨Nat.le_trans V11.out.below.size hD, _, HK.out, rfl⟩)).below
    case body =>
      rintro l pre ⟨j, hj⟩ W ⟨vs, hvl, hV0⟩ hx
      obtain ⟨S, hS⟩ : ∃ S, S = ((pre.map fun x : Fin md => Z.getD x.1 0).foldl (stW T m L) (startW k O)) := ⟨_, rfl⟩
      have hwk := WkI.fold HTO.out HN.out HLOW.out (pre.map fun x : Fin md => Z.getD x.1 0) 0 (startW k O) (WkI.start hN1 hm0 HLAST.out HOL.out HOB.out) (fun i hi => by
        obtain ⟨x, _, rfl⟩ := List.mem_map.1 hi
        have hxl : x.1 < Z.length := by rw [HZL.out]; exact x.2
        rw [List.getD_eq_getElem?_getD, List.getElem?_eq_getElem hxl]
        exact HZM2.out _ (List.getElem_mem hxl))
      rw [← hS] at hV0 hwk
      rw [List.length_map, Nat.zero_add] at hwk
      obtain ⟨i, hi⟩ : ∃ i, i = Z[j]?.getD 0 := ⟨_, rfl⟩
      have hiZ : i ∈ Z := by rw [hi, List.getElem?_eq_getElem (by rw [HZL.out]; exact hj)]; exact List.getElem_mem _
      dsimp only
      rw [← hi]
      obtain ⟨hi0, hi1⟩ := HZM.out i hiZ
      obtain ⟨I, rfl⟩ := Int.eq_ofNat_of_zero_le hi0
      have hIn : I < md := by omega
      have hnx : ((pre ++ [(⟨j, hj⟩ : Fin md)]).map fun x : Fin md => Z.getD x.1 0).foldl (stW T m L) (startW k O) = stW T m L S (I : Int) := by
        rw [List.map_append, List.foldl_append, ← hS, hi, ← List.getD_eq_getElem?_getD]; rfl
      have HNX := Lib.hid (show ((pre ++ [(⟨j, hj⟩ : Fin md)]).map fun x : Fin md => Z[x.1]?.getD 0).foldl (stW T m L) (startW k O) = stW T m L S (I : Int) from hnx)
      clear hnx
      obtain ⟨U, O2⟩ := S
      obtain ⟨F, Tn, ac, hae, hFT, hTn, ac0, ac1⟩ := arc_nat HTO.out HN.out (i := (I : Int)) (by omega) (by rw [HMD.out]; omega)
      have HST := Lib.hid (stW_at (m := m) (L := L) (s := (U, O2)) hae)
      have hlow := HLOW.out (I : Int) (by omega) (by rw [HMD.out]; omega)
      rw [hae] at hlow
      simp only [Int.toNat_natCast] at hlow
      obtain ⟨w1', w2', w3', w4'⟩ := hwk
      dsimp only at w1' w2' w3' w4' hV0
      obtain ⟨a', b, off, ha, hae2, hA, hbw, c0, c1, c2⟩ := (HGI.out _ _ _ 8 hV0 rfl).at hIn
      have ea : a' = ⟨F, Tn, ac⟩ := by rw [hae2]; exact hae
      subst ea
      dsimp only at c0 c1 c2
      subst hA
      have HV := Lib.hid hV0
      have hFk : F < k := by omega
      have hF2 : F * 2 ≤ 4000 := by omega
      have hT2 : Tn * 2 ≤ 4000 := by omega
      have hI3 : I * 3 ≤ 20000 := by omega
      obtain ⟨lf, hlf⟩ : ∃ x, L[F]? = some x := ⟨_, List.getElem?_eq_getElem (show F < L.length by rw [HLL.out]; omega)⟩
      obtain ⟨lt, hlt⟩ : ∃ x, L[Tn]? = some x := ⟨_, List.getElem?_eq_getElem (show Tn < L.length by rw [HLL.out]; omega)⟩
      obtain ⟨vf, hvf⟩ : ∃ x, vs[F]? = some x := ⟨_, List.getElem?_eq_getElem (show F < vs.length by omega)⟩
      obtain ⟨vt, hvt⟩ : ∃ x, vs[Tn]? = some x := ⟨_, List.getElem?_eq_getElem (show Tn < vs.length by omega)⟩
      obtain ⟨Uf, hUf⟩ : ∃ x, U[F]? = some x := ⟨_, List.getElem?_eq_getElem (show F < U.length by omega)⟩
      obtain ⟨Ut, hUt⟩ : ∃ x, U[Tn]? = some x := ⟨_, List.getElem?_eq_getElem (show Tn < U.length by omega)⟩
      obtain ⟨vtA, vtc⟩ := vt
      have elf : L.getD F 0 = lf := by rw [List.getD_eq_getElem?_getD, hlf]; rfl
      have elt : L.getD Tn 0 = lt := by rw [List.getD_eq_getElem?_getD, hlt]; rfl
      have eUf : U.getD F [] = Uf := by rw [List.getD_eq_getElem?_getD, hUf]; rfl
      have eUt : U.getD Tn [] = Ut := by rw [List.getD_eq_getElem?_getD, hUt]; rfl
      have hsf := w2' F hFk
      have hst := w2' Tn hTn
      rw [elf, eUf] at hsf
      rw [elt, eUt] at hst
      rw [elf, elt] at hlow
      have blf := HCO.out.get F
      have blt := HCO.out.get Tn
      rw [elf] at blf
      rw [elt] at blt
      have hST2 := HST.out
      dsimp only at hST2
      rw [elf, elt, eUf, eUt] at hST2
      obtain ⟨U', hU'⟩ : ∃ x, x = addU lf Uf lt Ut ac m := ⟨_, rfl⟩
      rw [← hU'] at hST2
      obtain ⟨ot, hot⟩ : ∃ x, x = O2.getD Tn 0 := ⟨_, rfl⟩
      rw [← hot] at hST2
      have hotb := w4' Tn
      rw [← hot] at hotb
      have hpl : pre.length ≤ 6000 := by omega
      obtain ⟨Lt, hLt⟩ : ∃ x, x = Ut.length := ⟨_, rfl⟩
      have A1 := Lib.hid hlf
      have A2 := Lib.hid hlt
      have A3 := Lib.hid hvf
      have A4 := Lib.hid hvt
      have A5 := Lib.hid hUf
      have A6 := Lib.hid hUt
      have A7 := Lib.hid hsf
      have A8 := Lib.hid hst
      have A9 := Lib.hid (show Ut ≠ [] → 0 ≤ lf ∧ lf ≤ ac + lt from fun hne => hlow (hst.low hne).1)
      have A10 := Lib.hid hST2
      have A11 := Lib.hid hU'
      have A12 := Lib.hid hLt
      have A13 := Lib.hid hot
      have A14 := Lib.hid w3'
      have A15 := Lib.hid hvl
      have A16 := Lib.hid w1'
      obtain ⟨r8, _, r7⟩ := HV.out.box_at (i := 7) (j := 1) rfl rfl
      obtain ⟨ba, hba⟩ : ∃ x, x = W.heap.size := ⟨_, rfl⟩
      obtain ⟨W1, hW1⟩ : ∃ z, z = W.alloc (.cells #[.int .i64 (F : Int), .int .i64 (Tn : Int), .int .i64 ac] 40) := ⟨_, rfl⟩
      have V2 := Lib.hid (show Hp w ((spr gs k L vs U :: abox ba ⟨F, Tn, ac⟩ :: [box 33 Bs [.slice (some ⟨gd, 0, none⟩) md md], box 33 gob [.slice (some ⟨gr, 0, none⟩) k k], nums (some ⟨gr, 0, none⟩) k k O2, box 58 gsb [.slice (some ⟨gs, 0, none⟩) k k], nums (some ⟨gd, 0, none⟩) md md Z, box 3 gl [.int .i64 m], box 26 gb [.int .i64 (k : Int), .slice (some ⟨b, off, none⟩) md dd], arow (some ⟨b, off, none⟩) md dd T.rs]) ++ urows vs U) W1 by
        have h := HV.out.anew ⟨F, Tn, ac⟩
        rw [hW1, hba]
        exact h.swap01)
      have KF := Lib.hid (show KeepsOthers W W1 by rw [hW1]; exact KeepsOthers.alloc _ _)
      have HW1 := Lib.hid hW1
      have HBA := Lib.hid hba
      clear hba hW1 hae hae2 ha hi hiZ hi0 hi1 hlow w1' w2' w3' w4' hV0 hS HST hlf hlt hvf hvt hUf hUt elf elt eUf eUt hsf hst hST2 hU' hot hLt hvl hx
      gi_wp2
      rw [← HW1.out, ← HBA.out]
      clear c0 c1 c2 hbw r8 r7 HW1 HBA HV
      obtain ⟨s0, s1, s2, s9⟩ := V2.out.ab (i := 1) rfl
      dsimp only at s0 s1 s2
      obtain ⟨r0, _, r9⟩ := V2.out.box_at (i := 5) (j := 0) rfl rfl
      obtain ⟨q0, _, q9⟩ := V2.out.box_at (i := 7) (j := 0) rfl rfl
      obtain ⟨y0, y1, _, _, y4⟩ := V2.out.spr_at (i := 0) rfl A2.out A4.out A6.out
      rw [← A12.out] at y1
      have hKp : Keep [(⟨gsb, 0, none⟩, .slice (some ⟨gs, 0, none⟩) k k), (⟨ba, 0, none⟩, .int .i64 (F : Int)), (⟨ba, 1, none⟩, .int .i64 (Tn : Int)), (⟨gs, Tn * 2, none⟩, .int .i64 lt), (⟨gs, Tn * 2 + 1, none⟩, .slice vtA Lt vtc), (⟨ba, 2, none⟩, .int .i64 ac), (⟨gl, 0, none⟩, .int .i64 m)] W1 := List.forall_mem_cons.2 ⟨⟨r0, r9⟩, List.forall_mem_cons.2 ⟨⟨s0, s9⟩, List.forall_mem_cons.2 ⟨⟨s1, s9⟩, List.forall_mem_cons.2 ⟨⟨y0, y4⟩, List.forall_mem_cons.2 ⟨⟨y1, y4⟩, List.forall_mem_cons.2 ⟨⟨s2, s9⟩, List.forall_mem_cons.2 ⟨⟨q0, q9⟩, fun _ h => by simp at h⟩⟩⟩⟩⟩⟩⟩
      refine wpIn_region_held (S := Keep [(⟨gsb, 0, none⟩, .slice (some ⟨gs, 0, none⟩) k k), (⟨ba, 0, none⟩, .int .i64 (F : Int)), (⟨ba, 1, none⟩, .int .i64 (Tn : Int)), (⟨gs, Tn * 2, none⟩, .int .i64 lt), (⟨gs, Tn * 2 + 1, none⟩, .slice vtA Lt vtc), (⟨ba, 2, none⟩, .int .i64 ac), (⟨gl, 0, none⟩, .int .i64 m)]) (by kernel_rfl) (by kernel_rfl) (fun ⟨_, _, h⟩ => h) hKp.drew (fun hHeld => ?_)
      refine tk 0 ?_ rfl ?_ ?_; rotate_left
      · intro wl hSw
        have hSw : Keep _ wl := hSw
        have k0 := (hSw _ (.head _)).1
        dsimp only at k0
        clear hSw
        go_simp
        try (with_reducible rfl)
      try simp only [Act.put, sA, sZ, sS]
      refine tk 1 ?_ rfl ?_ ?_; rotate_left; focus (intro w hSw; clear hSw; go_simp; try (with_reducible rfl))
      try simp only [Act.put, sA, sZ, sS]
      refine tk 2 ?_ rfl ?_ ?_; rotate_left
      · intro wl hSw
        have hSw : Keep _ wl := hSw
        have k0 := (hSw _ (.tail _ (.head _))).1
        dsimp only at k0
        clear hSw
        go_simp
        try (with_reducible rfl)
      try simp only [Act.put, sA, sZ, sS]
      refine tk 3 ?_ rfl ?_ ?_; rotate_left; focus (intro w hSw; clear hSw; go_simp; try (with_reducible rfl))
      try simp only [Act.put, sA, sZ, sS]
      refine tk 4 ?_ rfl ?_ ?_; rotate_left
      · intro wl hSw
        have hSw : Keep _ wl := hSw
        have k0 := (hSw _ (.head _)).1
        dsimp only at k0
        clear hSw
        go_simp
        try (with_reducible rfl)
      try simp only [Act.put, sA, sZ, sS]
      refine tk 5 ?_ rfl ?_ ?_; rotate_left; focus (intro w hSw; clear hSw; go_simp; try (with_reducible rfl))
      try simp only [Act.put, sA, sZ, sS]
      refine tk 6 ?_ rfl ?_ ?_; rotate_left
      · intro wl hSw
        have hSw : Keep _ wl := hSw
        have k0 := (hSw _ (.tail _ (.tail _ (.head _)))).1
        dsimp only at k0
        clear hSw
        go_simp
        try (with_reducible rfl)
      try simp only [Act.put, sA, sZ, sS]
      refine tk 7 ?_ rfl ?_ ?_; rotate_left; focus (intro w hSw; clear hSw; go_simp; try (with_reducible rfl))
      try simp only [Act.put, sA, sZ, sS]
      refine tk 8 ?_ rfl ?_ ?_; rotate_left
      · intro wl hSw
        have hSw : Keep _ wl := hSw
        have k0 := (hSw _ (.tail _ (.tail _ (.tail _ (.head _))))).1
        have k1 := (hSw _ (.tail _ (.tail _ (.tail _ (.tail _ (.head _)))))).1
        dsimp only at k0 k1
        clear hSw
        go_simp
        try (with_reducible rfl)
      try simp only [Act.put, sA, sZ, sS]
      refine tk 9 ?_ rfl ?_ ?_; rotate_left; focus (intro w hSw; clear hSw; go_simp; try (with_reducible rfl))
      try simp only [Act.put, sA, sZ, sS]
      refine tk 10 ?_ rfl ?_ ?_; rotate_left
      · intro wl hSw
        have hSw : Keep _ wl := hSw
        have k0 := (hSw _ (.tail _ (.tail _ (.tail _ (.tail _ (.tail _ (.head _))))))).1
        dsimp only at k0
        clear hSw
        go_simp
        try (with_reducible rfl)
      try simp only [Act.put, sA, sZ, sS]
      refine tk 11 ?_ rfl ?_ ?_; rotate_left
      · intro wl hSw
        have hSw : Keep _ wl := hSw
        have k0 := (hSw _ (.tail _ (.tail _ (.tail _ (.tail _ (.tail _ (.tail _ (.head _)))))))).1
        dsimp only at k0
        clear hSw
        go_simp
        try (with_reducible rfl)
      try simp only [Act.put, sA, sZ, sS]
      refine wpAnyH_ready (rs := [12]) (by kernel_rfl) (by simp) ?_
      refine AllReadyH.cons (List.getElem?_toArray.trans rfl) (fun K hK => ?_) AllReadyH.nil
      go_simp
      rw [A12.out]
      refine (add_any gs k F Tn (abox ba ⟨F, Tn, ac⟩ :: [box 33 Bs [.slice (some ⟨gd, 0, none⟩) md md], box 33 gob [.slice (some ⟨gr, 0, none⟩) k k], nums (some ⟨gr, 0, none⟩) k k O2, box 58 gsb [.slice (some ⟨gs, 0, none⟩) k k], nums (some ⟨gd, 0, none⟩) md md Z, box 3 gl [.int .i64 m], box 26 gb [.int .i64 (k : Int), .slice (some ⟨b, off, none⟩) md dd], arow (some ⟨b, off, none⟩) md dd T.rs]) L vs U lf lt ac m vf (vtA, vtc) Uf Ut w W1.drew (V2.out.go (bdrew W1)) A1.out A2.out A3.out A4.out A5.out A6.out (by omega) (by omega) A7.out A8.out ac0 ac1 hm0 hm1 (by omega) (by omega) (by omega) (by omega) A9.out).mono ?_
      rintro e w2 ⟨rfl, hko, v', hp⟩
      rw [← A11.out] at hp
      have V3 := Lib.hid hp
      have KF2 := Lib.hid ((KF.out.trans (KeepsOthers.drew _)).trans hko)
      have HTv := Lib.hid (show (vs.set F v')[Tn]? = some (vtA, vtc) by rw [List.getElem?_set, if_neg (by omega)]; exact A4.out)
      have HTu := Lib.hid (show (U.set F U')[Tn]? = some Ut by rw [List.getElem?_set, if_neg (by omega)]; exact A6.out)
      clear hp hko s0 s1 s2 s9 r0 r9 q0 q9 y0 y1 y4 hKp
      obtain ⟨s0, s1, s2, s9⟩ := V3.out.ab (i := 1) rfl
      dsimp only at s0 s1 s2
      obtain ⟨r0, _, r9⟩ := V3.out.box_at (i := 5) (j := 0) rfl rfl
      obtain ⟨q0, _, q9⟩ := V3.out.box_at (i := 7) (j := 0) rfl rfl
      obtain ⟨y0, y1, _, y3, y4⟩ := V3.out.spr_at (i := 0) rfl A2.out HTv.out HTu.out
      rw [← A12.out] at y1
      try go_wp2_with fail
      refine hK.out _ _ (show Keep [(⟨gsb, 0, none⟩, .slice (some ⟨gs, 0, none⟩) k k), (⟨ba, 0, none⟩, .int .i64 (F : Int)), (⟨ba, 1, none⟩, .int .i64 (Tn : Int)), (⟨gs, Tn * 2, none⟩, .int .i64 lt), (⟨gs, Tn * 2 + 1, none⟩, .slice vtA Lt vtc), (⟨ba, 2, none⟩, .int .i64 ac), (⟨gl, 0, none⟩, .int .i64 m)] w2 from List.forall_mem_cons.2 ⟨⟨r0, r9⟩, List.forall_mem_cons.2 ⟨⟨s0, s9⟩, List.forall_mem_cons.2 ⟨⟨s1, s9⟩, List.forall_mem_cons.2 ⟨⟨y0, y4⟩, List.forall_mem_cons.2 ⟨⟨y1, y4⟩, List.forall_mem_cons.2 ⟨⟨s2, s9⟩, List.forall_mem_cons.2 ⟨⟨q0, q9⟩, fun _ h => by simp at h⟩⟩⟩⟩⟩⟩⟩) (fun hHeld => ?_)
      clear hK K
      try simp only [Act.put, sA, sZ, sS]
      refine wpAnyH_done (by kernel_rfl) ?_ _
      clear hHeld V2
      obtain ⟨b0, _, b9⟩ := V3.out.box_at (i := 3) (j := 0) rfl rfl
      obtain ⟨o0, o1, o9⟩ := V3.out.num_at (i := 4) rfl (j := Tn) (by rw [A14.out]; exact hTn)
      rw [← A13.out] at o0
      have g2 : IntKind.i64.wrap (ot - 1) = ot - 1 := IntWalk.i64_in _ (by omega)
      have V4 := Lib.hid (show Hp w ((spr gs k L (vs.set F v') (U.set F U') :: abox ba ⟨F, Tn, ac⟩ :: [box 33 Bs [.slice (some ⟨gd, 0, none⟩) md md], box 33 gob [.slice (some ⟨gr, 0, none⟩) k k], nums (some ⟨gr, 0, none⟩) k k (O2.set Tn (ot - 1)), box 58 gsb [.slice (some ⟨gs, 0, none⟩) k k], nums (some ⟨gd, 0, none⟩) md md Z, box 3 gl [.int .i64 m], box 26 gb [.int .i64 (k : Int), .slice (some ⟨b, off, none⟩) md dd], arow (some ⟨b, off, none⟩) md dd T.rs]) ++ urows (vs.set F v') (U.set F U')) (w2.setCell ⟨gr, Tn, none⟩ (.int .i64 (ot - 1))) from V3.out.num_set (i := 4) rfl Tn (ot - 1))
      have n1 : ¬ gr = gob := V3.out.apart (i := 4) (j := 3) rfl rfl (by decide) rfl rfl
      have n2 : ¬ gr = ba := V3.out.apart (i := 4) (j := 1) rfl rfl (by decide) rfl rfl
      have n3 : ¬ gr = gsb := V3.out.apart (i := 4) (j := 5) rfl rfl (by decide) rfl rfl
      have n4 : ¬ gr = gs := V3.out.apart (i := 4) (j := 0) rfl rfl (by decide) rfl rfl
      have z0 := (V4.out.box_at (i := 3) (j := 0) rfl rfl).1
      have z1 := (V4.out.box_at (i := 1) (j := 1) rfl rfl).1
      have z2 := (V4.out.box_at (i := 5) (j := 0) rfl rfl).1
      have KF3 := Lib.hid (KF2.out.trans (KeepsOthers.setCell _ ⟨gr, Tn, none⟩ (.int .i64 (ot - 1))))
      by_cases hz : ot - 1 = 0
      · have e0 : (ot - 1 == 0) = true := beq_yes hz
        have HZ0 := Lib.hid hz
        clear hz
        obtain ⟨_, u1, _, u3, u4⟩ := V4.out.spr_at (i := 0) rfl A2.out HTv.out HTu.out
        have h5 := V4.out.spr_set (i := 0) rfl A2.out HTv.out HTu.out (none, 0) []
        have V5 := Lib.hid (show Hp w ((spr gs k L ((vs.set F v').set Tn (none, 0)) ((U.set F U').set Tn []) :: abox ba ⟨F, Tn, ac⟩ :: [box 33 Bs [.slice (some ⟨gd, 0, none⟩) md md], box 33 gob [.slice (some ⟨gr, 0, none⟩) k k], nums (some ⟨gr, 0, none⟩) k k (O2.set Tn (ot - 1)), box 58 gsb [.slice (some ⟨gs, 0, none⟩) k k], nums (some ⟨gd, 0, none⟩) md md Z, box 3 gl [.int .i64 m], box 26 gb [.int .i64 (k : Int), .slice (some ⟨b, off, none⟩) md dd], arow (some ⟨b, off, none⟩) md dd T.rs]) ++ urows ((vs.set F v').set Tn (none, 0)) ((U.set F U').set Tn [])) ((w2.setCell ⟨gr, Tn, none⟩ (.int .i64 (ot - 1))).setCell ⟨gs, Tn * 2 + 1, none⟩ (.slice none 0 0)) from Hp.urow_nil (pre := spr gs k L ((vs.set F v').set Tn (none, 0)) ((U.set F U').set Tn []) :: abox ba ⟨F, Tn, ac⟩ :: [box 33 Bs [.slice (some ⟨gd, 0, none⟩) md md], box 33 gob [.slice (some ⟨gr, 0, none⟩) k k], nums (some ⟨gr, 0, none⟩) k k (O2.set Tn (ot - 1)), box 58 gsb [.slice (some ⟨gs, 0, none⟩) k k], nums (some ⟨gd, 0, none⟩) md md Z, box 3 gl [.int .i64 m], box 26 gb [.int .i64 (k : Int), .slice (some ⟨b, off, none⟩) md dd], arow (some ⟨b, off, none⟩) md dd T.rs]) h5 HTv.out HTu.out)
        have KF4 := Lib.hid (KF3.out.trans (KeepsOthers.setCell _ ⟨gs, Tn * 2 + 1, none⟩ (.slice none 0 0)))
        clear h5
        gi_wp2
        refine ⟨KF4.out.from _, ⟨fun _ => (V5.out.box_at (i := 2) (j := 0) rfl rfl).1, fun j hj _ => ?_⟩, (vs.set F v').set Tn (none, 0), by rw [List.length_set, List.length_set]; exact A15.out, ?_⟩
        · rw [← List.getD_eq_getElem?_getD]
          exact (V5.out.num_at (i := 6) rfl (j := j) (by rw [HZL.out]; exact hj)).1
        · rw [HNX.out, A10.out, if_pos HZ0.out]
          exact V5.out.drop2
      · have e0 : (ot - 1 == 0) = false := beq_no hz
        have HZ0 := Lib.hid hz
        clear hz
        gi_wp2
        refine ⟨KF3.out.from _, ⟨fun _ => (V4.out.box_at (i := 2) (j := 0) rfl rfl).1, fun j hj _ => ?_⟩, vs.set F v', by rw [List.length_set]; exact A15.out, ?_⟩
        · rw [← List.getD_eq_getElem?_getD]
          exact (V4.out.num_at (i := 6) rfl (j := j) (by rw [HZL.out]; exact hj)).1
        · rw [HNX.out, A10.out, if_neg HZ0.out]
          exact V4.out.drop2
end Go.Proofs.Ytgdfjblfpeedjaa
