/- Contract of the reference: a graph trimmed. -/
import Derived.Test.YtdoobdfanalnbaaDDm
import Derived.Test.YtdoobdfanalnbaaDDf
import Derived.Test.YtdoobdfanalnbaaDCm
import Derived.Test.YtdoobdfanalnbaaDAi
import Derived.Deep.RegionLaw
namespace Go.Proofs.Ytdoobdfanalnbaa
open Go.RowKit
set_option linter.unusedVariables false
set_option linter.unusedSimpArgs false
set_option maxRecDepth 100000

/-- New names, half given. -/
def nmK (g : Gr) (k : Nat) : List Int := (List.range g.n.toNat).map fun j : Nat => if j < k then (if g.kp.getD j false = true then (g.rk j : Int) else -1) else 0
theorem nmK_len (g : Gr) (k : Nat) : (nmK g k).length = g.n.toNat := by simp [nmK]
theorem nmK_get {g : Gr} {k j : Nat} (hj : j < g.n.toNat) : (nmK g k)[j]? = some (if j < k then (if g.kp.getD j false = true then (g.rk j : Int) else -1) else 0) := by
  unfold nmK
  rw [List.getElem?_map, List.getElem?_range hj]; rfl
theorem nmK_zero (g : Gr) : nmK g 0 = List.replicate g.n.toNat 0 := by
  apply List.ext_getElem?
  intro j
  by_cases hj : j < g.n.toNat
  · rw [nmK_get hj, if_neg (by omega), List.getElem?_replicate, if_pos hj]
  · rw [List.getElem?_eq_none (by rw [nmK_len]; omega), List.getElem?_eq_none (by simp; omega)]
theorem nmK_step {g : Gr} {k : Nat} (hk : k < g.n.toNat) : (nmK g k).set k (if g.kp.getD k false = true then (g.rk k : Int) else -1) = nmK g (k + 1) := by
  apply List.ext_getElem?
  intro j
  by_cases hj : j < g.n.toNat
  · rw [nmK_get hj, List.getElem?_set]
    by_cases e : k = j
    · subst e
      rw [if_pos rfl, if_pos (by rw [nmK_len]; exact hk), if_pos (show k < k + 1 by omega)]
    · rw [if_neg e, nmK_get hj]
      by_cases h2 : j < k
      · rw [if_pos h2, if_pos (show j < k + 1 by omega)]
      · rw [if_neg h2, if_neg (show ¬ j < k + 1 by omega)]
  · rw [List.getElem?_eq_none (by rw [List.length_set, nmK_len]; omega), List.getElem?_eq_none (by rw [nmK_len]; omega)]
theorem kp_bool {g : Gr} {k : Nat} {x : Bool} (hx : g.kp[k]? = some x) : g.kp.getD k false = x := by rw [List.getD_eq_getElem?_getD, hx]; rfl
theorem nmK_no {g : Gr} {k : Nat} (hk : k < g.n.toNat) (hx : g.kp[k]? = some false) : (nmK g k).set k (-1) = nmK g (k + 1) := by
  rw [← nmK_step hk, kp_bool hx]; rfl
theorem nmK_yes {g : Gr} {k : Nat} (hk : k < g.n.toNat) (hx : g.kp[k]? = some true) : ((nmK g k).set k (-1)).set k (g.rk k : Int) = nmK g (k + 1) := by
  rw [List.set_set, ← nmK_step hk, kp_bool hx]; rfl
theorem rk_bd {g : Gr} (j : Nat) : g.rk j ≤ j := by
  unfold Gr.rk
  have := memL_len (g.kp.take j)
  rw [List.length_take] at this
  omega
/-- The arcs kept of the first so many. -/
def taK (g : Gr) (i : Nat) : List Ar := ((g.rs.take i).filter g.tk).map g.ta
theorem taK_step {g : Gr} {i : Nat} {a : Ar} (ha : g.rs[i]? = some a) : taK g (i + 1) = taK g i ++ (if g.tk a = true then [g.ta a] else []) := by
  unfold taK
  rw [List.take_add_one, ha, List.filter_append, List.map_append]
  congr 1
  cases h : g.tk a with
  | true => simp [h]
  | false => simp [h]
theorem taK_len (g : Gr) (i : Nat) : (taK g i).length ≤ g.rs.length := by
  unfold taK
  rw [List.length_map]
  refine Nat.le_trans (List.length_filter_le _ _) ?_
  rw [List.length_take]
  exact Nat.min_le_right _ _
theorem tn_len (g : Gr) : g.tn.length ≤ g.n.toNat := by
  have := memL_len g.kp
  rw [kp_len] at this
  exact this
theorem Hp.num_get {W w : World} {l : List Itm} {i g n c : Nat} {L : List Int} (h : Hp W l w) (hi : l[i]? = some (nums (some ⟨g, 0, none⟩) n c L)) {j : Nat} {x : Int} (hj : L[j]? = some x) :
    w.cell? ⟨g, j, none⟩ = some (.int .i64 x) ∧ w.frozen? ⟨g, j, none⟩ = false ∧ g < w.heap.size := h.cell hi (cap := c) rfl (by show (ints L)[j]? = _; unfold ints; rw [List.getElem?_map, hj]; rfl)
/-- What Trim returns. -/
def TrimPost (g : Gr) (w : World) (e : Ending) (w' : World) : Prop := ∃ (C : Option Addr) (m d : Nat) (B : Option Addr) (bn bc : Nat), e = .returned (.tuple #[.agg #[.int .i64 g.tr.1.n, .slice C m d], .slice B bn bc, .int .i64 g.tr.2.2]) ∧ g.tr.1.rs.length = m ∧ g.tr.2.1.length = bn ∧ Hp w [arow C m d g.tr.1.rs, nums B bn bc g.tr.2.1] w'
theorem trim_no {g : Gr} {w w' : World} {x : Int} (h : Below w.heap.size w w') (he : g.tr = (⟨0, []⟩, [], x)) : TrimPost g w (.returned (.tuple #[.agg #[.int .i64 0, .slice none 0 0], .slice none 0 0, .int .i64 x])) w' := by
  refine ⟨none, 0, 0, none, 0, 0, by rw [he], by rw [he]; rfl, by rw [he]; rfl, ?_⟩
  rw [he]
  exact (((Hp.start w).go h).nil_row (nums none 0 0 []) rfl rfl rfl).nil_row (arow none 0 0 []) rfl rfl rfl
set_option maxHeartbeats 64000000 in
theorem rtrim_any (g : Gr) (A : Option Addr) (n c : Nat) (w : World) (h : GrIn w A n c g) :
    Calls Try.prog 18 #[gval g A n c] w (TrimPost g w) := by
  have H := Lib.hid h
  clear h
  obtain ⟨gn, hgn⟩ : ∃ gn, gn = g.n := ⟨_, rfl⟩
  have HGN := Lib.hid hgn
  have hgv : gval g A n c = .agg #[.int .i64 gn, .slice A n c] := by rw [hgn]
  have HV := Lib.hid (show ∀ W, GrIn W A n c g → Calls Try.prog 24 #[.agg #[.int .i64 gn, .slice A n c]] W fun e w' => e = .returned (.int .i64 g.vE) ∧ Below W.heap.size W w' from fun W hW => by rw [hgn]; exact rvalid_any g A n c W hW)
  obtain ⟨N, hN⟩ : ∃ N, N = g.n.toNat := ⟨_, rfl⟩
  have HN := Lib.hid hN
  have HRE := Lib.hid (show ∀ W, GrIn W A n c g → g.Ok → Calls Try.prog 65 #[.agg #[.int .i64 gn, .slice A n c]] W fun e w' => ∃ gr : Nat, e = .returned (.slice (some ⟨gr, 0, none⟩) N N) ∧ Hp W [flags (some ⟨gr, 0, none⟩) N N g.rc] w' from fun W hW h => by rw [hgn, hN]; exact rreached_any g A n c W hW h)
  have HWY := Lib.hid (show ∀ W, GrIn W A n c g → g.Ok → Calls Try.prog 66 #[.agg #[.int .i64 gn, .slice A n c]] W fun e w' => ∃ gw : Nat, e = .returned (.slice (some ⟨gw, 0, none⟩) N N) ∧ Hp W [lnums (some ⟨gw, 0, none⟩) N N g.waysL] w' from fun W hW h => by rw [hgn, hN]; exact rways_any g A n c W hW h)
  rw [hgv]
  clear hgv hgn hN
  obtain ⟨wz, hwz⟩ : ∃ z, z = (w.alloc (.cells #[.int .i64 gn, .slice A n c] 24)).alloc (.cells #[.int .i64 0, .slice none 0 0] 24) := ⟨_, rfl⟩
  have HZ := Lib.hid hwz
  have V := Lib.hid (show Hp w [box 24 (w.heap.size + 1) [.int .i64 0, .slice none 0 0], box 24 w.heap.size [.int .i64 gn, .slice A n c]] wz by
    have h1 := (Hp.start w).box_new 24 [.int .i64 gn, .slice A n c]
    have h2 := h1.box_new 24 [.int .i64 0, .slice none 0 0]
    rw [show (w.alloc (.cells [.int .i64 gn, .slice A n c].toArray 24)).heap.size = w.heap.size + 1 by unfold World.alloc; exact Array.size_push ..] at h2
    rw [hwz]; exact h2)
  clear hwz
  go_enter Try.func18, Try.ntmps18
  go_upto_region 1 with fail
  rw [← HZ.out]
  clear HZ
  obtain ⟨gb, hgb⟩ : ∃ gb, gb = w.heap.size := ⟨_, rfl⟩
  rw [← hgb] at V ⊢
  clear hgb
  obtain ⟨r0, _, r9⟩ := V.out.box_at (i := 1) (j := 0) rfl rfl
  obtain ⟨r1, _, _⟩ := V.out.box_at (i := 1) (j := 1) rfl rfl
  go_wp2_with fail
  refine (HV.out _ (H.out.below V.out.below)).mono ?_
  rintro e w1 ⟨rfl, b1⟩
  have V1 := Lib.hid (V.out.go b1)
  clear b1 r0 r1 r9 V HV
  by_cases hv : g.vE = 0
  case neg =>
    have HE := Lib.hid (tr_bad hv)
    have g1 : (g.vE != 0) = true := bne_yes hv
    clear hv
    obtain ⟨t0, u0, v0⟩ := V1.out.box_at (i := 0) (j := 0) rfl rfl
    obtain ⟨t1, u1, v1⟩ := V1.out.box_at (i := 0) (j := 1) rfl rfl
    have V4 := (V1.out.box_set (i := 0) rfl 0 (.int .i64 0)).box_set (i := 0) rfl 1 (.slice none 0 0)
    obtain ⟨p0, _, _⟩ := V4.box_at (i := 0) (j := 0) rfl rfl
    obtain ⟨p1, _, _⟩ := V4.box_at (i := 0) (j := 1) rfl rfl
    have V5 := Lib.hid V4.below
    clear V4
    go_wp2_with fail
    exact bodyPost_ret (v := .tuple #[.agg #[.int .i64 0, .slice none 0 0], .slice none 0 0, .int .i64 g.vE]) (by simp [results, Try.results18, go_sem, p0, p1]) rfl (trim_no V5.out HE.out)
  have HVV := Lib.hid hv
  have HO := Lib.hid (Gr.ok hv)
  rw [hv]
  clear hv
  have hgN : gn = (N : Int) := by have := HGN.out; have := HO.out.n1; have := HN.out; omega
  have HGN := Lib.hid (show g.n = (N : Int) by rw [← HGN.out]; exact hgN)
  subst hgN
  have hN0 : 0 < N := by have := HO.out.n1; have := HGN.out; omega
  have hN2 : N ≤ 2000 := by have := HO.out.n2; have := HGN.out; omega
  have hnl : n ≤ 6000 := by have := HO.out.len; have := H.out.len; omega
  obtain ⟨r0, _, r9⟩ := V1.out.box_at (i := 1) (j := 0) rfl rfl
  obtain ⟨r1, _, _⟩ := V1.out.box_at (i := 1) (j := 1) rfl rfl
  go_upto_region 4 with fail
  have hKp : Keep [(⟨gb, 0, none⟩, .int .i64 (N : Int)), (⟨gb, 1, none⟩, .slice A n c)] w1 := List.forall_mem_cons.2 ⟨⟨r0, r9⟩, List.forall_mem_cons.2 ⟨⟨r1, r9⟩, fun _ h => by simp at h⟩⟩
  refine wp_region_held_drew (S := Keep _) (by kernel_rfl) hKp.drew (fun hHeld => ?_)
  have V1d := Lib.hid (V1.out.go (bdrew _))
  refine tk 0 ?_ rfl ?_ ?_; rotate_left
  · intro wl hSw
    have hSw : Keep _ wl := hSw
    have k0 : wl.cell? ⟨gb, 0, none⟩ = some (.int .i64 (N : Int)) := (hSw _ (.head _)).1
    have k1 : wl.cell? ⟨gb, 1, none⟩ = some (.slice A n c) := (hSw _ (.tail _ (.head _))).1
    clear hSw
    go_simp
    try (with_reducible rfl)
  try simp only [Act.put, sA, sZ, sS]
  refine tk 2 ?_ rfl ?_ ?_; rotate_left
  · intro wl hSw
    have hSw : Keep _ wl := hSw
    have k0 : wl.cell? ⟨gb, 0, none⟩ = some (.int .i64 (N : Int)) := (hSw _ (.head _)).1
    have k1 : wl.cell? ⟨gb, 1, none⟩ = some (.slice A n c) := (hSw _ (.tail _ (.head _))).1
    clear hSw
    go_simp
    try (with_reducible rfl)
  try simp only [Act.put, sA, sZ, sS]
  refine wpAnyH_ready (rs := [1]) (by kernel_rfl) (by simp) ?_
  refine AllReadyH.cons (List.getElem?_toArray.trans rfl) (fun K hK => ?_) AllReadyH.nil
  go_simp
  refine (HRE.out _ (H.out.below V1d.out.below) HO.out).mono ?_
  rintro e w_1 ⟨gr, rfl, hp⟩
  try go_wp2_with fail
  have hpb := hp.below
  have V_1 := Lib.hid (V1d.out.join hp)
  refine hK.out _ _ (hHeld.go hpb) (fun hHeld => ?_)
  clear hK K
  try simp only [Act.put, sA, sZ, sS]
  refine wpAnyH_ready (rs := [3]) (by kernel_rfl) (by simp) ?_
  refine AllReadyH.cons (List.getElem?_toArray.trans rfl) (fun K hK => ?_) AllReadyH.nil
  go_simp
  refine (HWY.out _ (H.out.below V_1.out.below) HO.out).mono ?_
  rintro e w_1_3 ⟨gw, rfl, hq⟩
  try go_wp2_with fail
  have hqb := hq.below
  have V_1_3 := Lib.hid (V_1.out.join hq)
  refine hK.out _ _ (hHeld.go hqb) (fun hHeld => ?_)
  clear hK K
  try simp only [Act.put, sA, sZ, sS]
  refine tk 4 ?_ rfl ?_ ?_; rotate_left; focus (intro w hSw; clear hSw; go_simp; try (with_reducible rfl))
  try simp only [Act.put, sA, sZ, sS]
  refine tk 5 ?_ rfl ?_ ?_; rotate_left; focus (intro w hSw; clear hSw; go_simp; try (with_reducible rfl))
  try simp only [Act.put, sA, sZ, sS]
  refine wpAnyH_done (by kernel_rfl) ?_ _
  clear hKp hHeld r0 r1 r9 hp hq hpb hqb
  obtain ⟨x, hx⟩ : ∃ x, x = g.wy 0 := ⟨_, rfl⟩
  obtain ⟨x1, _, x3⟩ := V_1_3.out.lnum_at (i := 0) rfl (j := 0) (by rw [waysL_len, ← HN.out]; exact hN0)
  rw [waysL_getD (by rw [← HN.out]; exact hN0) 0, show ((0 : Nat) : Int) = 0 from rfl, ← hx] at x1
  have HX := Lib.hid hx
  clear hx
  by_cases hx0 : x = 0
  case pos =>
    have HE := Lib.hid (tr_none HVV.out (by rw [← HX.out]; exact hx0))
    have g1 : (x == 0) = true := beq_yes hx0
    clear hx0
    obtain ⟨t0, u0, v0⟩ := V_1_3.out.box_at (i := 2) (j := 0) rfl rfl
    obtain ⟨t1, u1, v1⟩ := V_1_3.out.box_at (i := 2) (j := 1) rfl rfl
    have V4 := (V_1_3.out.box_set (i := 2) rfl 0 (.int .i64 0)).box_set (i := 2) rfl 1 (.slice none 0 0)
    obtain ⟨p0, _, _⟩ := V4.box_at (i := 2) (j := 0) rfl rfl
    obtain ⟨p1, _, _⟩ := V4.box_at (i := 2) (j := 1) rfl rfl
    have V5 := Lib.hid V4.below
    clear V4
    go_wp2_with fail
    exact bodyPost_ret (v := .tuple #[.agg #[.int .i64 0, .slice none 0 0], .slice none 0 0, .int .i64 10]) (by simp [results, Try.results18, go_sem, p0, p1]) rfl (trim_no V5.out HE.out)
  have HTR := Lib.hid (tr_ok HVV.out (by rw [← HX.out]; exact hx0))
  have g1 : (x == 0) = false := beq_no hx0
  clear hx0
  have hmk := fun w => make_nums (N : Int) N rfl (by omega) w
  obtain ⟨wm, hwm⟩ : ∃ z, z = w_1_3.alloc (.cells (Array.replicate N (.int .i64 0)) 3) := ⟨_, rfl⟩
  have HWM := Lib.hid hwm
  obtain ⟨gm, hgm⟩ : ∃ gm, gm = w_1_3.heap.size := ⟨_, rfl⟩
  have VM := Lib.hid (show Hp w [nums (some ⟨gm, 0, none⟩) N N (nmK g 0), lnums (some ⟨gw, 0, none⟩) N N g.waysL, flags (some ⟨gr, 0, none⟩) N N g.rc, box 24 (gb + 1) [.int .i64 0, .slice none 0 0], box 24 gb [.int .i64 (N : Int), .slice A n c]] wm by rw [hwm, hgm, nmK_zero, ← HN.out]; exact V_1_3.out.made_numsA N (by omega))
  clear hwm
  obtain ⟨r0, _, r9⟩ := V_1_3.out.box_at (i := 3) (j := 0) rfl rfl
  go_upto_region 9 with fail
  rw [← HWM.out, ← hgm]
  clear HWM hgm V_1_3 hmk x1 x3 g1 r0 r9
  go_wp2_with fail
  go_loopw [10, 8] (fun cv sv wr => ∃ (k : Nat) (B : Option Addr) (m d : Nat), cv = .int .i64 (k : Int) ∧ sv = .slice B m d ∧ k ≤ N ∧ (memL (g.kp.take k)).length = m ∧ Hp w [nums B m d (memL (g.kp.take k)), nums (some ⟨gm, 0, none⟩) N N (nmK g k), lnums (some ⟨gw, 0, none⟩) N N g.waysL, flags (some ⟨gr, 0, none⟩) N N g.rc, box 24 (gb + 1) [.int .i64 0, .slice none 0 0], box 24 gb [.int .i64 (N : Int), .slice A n c]] wr) (fun cv _ _ => N - (intOf cv).toNat)
  case atStart => exact ⟨0, none, 0, 0, rfl, rfl, Nat.zero_le _, rfl, VM.out.nil_row _ rfl rfl rfl⟩
  case round =>
    clear VM
    obtain ⟨k, B, m, d, rfl, rfl, hkn, hm, hV⟩ := hrel
    obtain ⟨wi, rfl⟩ : ∃ wi : World, wi = wr := ⟨_, rfl⟩
    have V := Lib.hid hV
    have HM := Lib.hid hm
    clear hV hm
    obtain ⟨r0, _, r9⟩ := V.out.box_at (i := 5) (j := 0) rfl rfl
    by_cases hlt : k < N
    case neg =>
      obtain rfl : N = k := by omega
      obtain ⟨bc, hbc⟩ : ∃ bc, bc = d := ⟨_, rfl⟩
      rw [← hbc] at V ⊢
      clear hbc
      have HTN := Lib.hid (show memL (g.kp.take N) = g.tn by rw [List.take_of_length_le (by rw [kp_len, ← HN.out]; exact Nat.le_refl _)]; rfl)
      have HM2 := Lib.hid (show g.tn.length = m by rw [← HTN.out]; exact HM.out)
      obtain ⟨NM, hNM⟩ : ∃ NM, NM = nmK g N := ⟨_, rfl⟩
      have V2 := Lib.hid (show Hp w [nums B m bc g.tn, nums (some ⟨gm, 0, none⟩) N N NM, box 24 (gb + 1) [.int .i64 0, .slice none 0 0], box 24 gb [.int .i64 (N : Int), .slice A n c]] wi by rw [← HTN.out, hNM]; exact V.out.pick [0, 1, 4, 5] (by decide) rfl)
      have HNM := Lib.hid (show ∀ j, j < N → NM[j]? = some (if g.kp.getD j false = true then (g.rk j : Int) else -1) from fun j hj => by rw [hNM, nmK_get (by rw [← HN.out]; exact hj), if_pos hj])
      clear hNM V HM HX
      have hmN : m ≤ 2000 := by have := HM2.out; have h2 := tn_len g; have := HN.out; omega
      obtain ⟨gt, hgt⟩ : ∃ gt, gt = wi.heap.size := ⟨_, rfl⟩
      obtain ⟨w5, hw5⟩ : ∃ z, z = wi.alloc (.cells #[.int .i64 (m : Int), .slice none 0 0] 24) := ⟨_, rfl⟩
      have HW5 := Lib.hid hw5
      have V5 := Lib.hid (show Hp w [arow none 0 0 (taK g 0), box 24 gt [.int .i64 (m : Int), .slice none 0 0], nums B m bc g.tn, nums (some ⟨gm, 0, none⟩) N N NM, box 24 (gb + 1) [.int .i64 0, .slice none 0 0], box 24 gb [.int .i64 (N : Int), .slice A n c]] w5 by rw [hw5, hgt]; exact (V2.out.box_new _ _).nil_row _ rfl rfl rfl)
      clear hw5
      go_upto_region 17 with fail
      rw [← HW5.out, ← hgt]
      clear HW5 hgt V2
      go_wp2_with fail
      go_loopw [12] (fun cv wr => ∃ (i : Nat) (R : Option Addr) (k d : Nat), cv = .int .i64 (i : Int) ∧ i ≤ n ∧ (taK g i).length = k ∧ Hp w [arow R k d (taK g i), box 24 gt [.int .i64 (m : Int), .slice R k d], nums B m bc g.tn, nums (some ⟨gm, 0, none⟩) N N NM, box 24 (gb + 1) [.int .i64 0, .slice none 0 0], box 24 gb [.int .i64 (N : Int), .slice A n c]] wr) (fun cv _ => n - (intOf cv).toNat)
      case atStart => exact ⟨0, none, 0, 0, rfl, Nat.zero_le _, rfl, V5.out⟩
      case round =>
        clear V5
        obtain ⟨i, R, k, d, rfl, hin, hk, hV⟩ := hrel
        obtain ⟨wj, rfl⟩ : ∃ wj : World, wj = wr := ⟨_, rfl⟩
        have V := Lib.hid hV
        have HKL := Lib.hid hk
        have hk6 : k ≤ 6000 := by have := taK_len g i; have := H.out.len; omega
        clear hV hk
        obtain ⟨r1, _, r9⟩ := V.out.box_at (i := 5) (j := 1) rfl rfl
        by_cases hilt : i < n
        case neg =>
          obtain rfl : n = i := by omega
          obtain ⟨q0, _, q9⟩ := V.out.box_at (i := 1) (j := 0) rfl rfl
          obtain ⟨q1, _, _⟩ := V.out.box_at (i := 1) (j := 1) rfl rfl
          obtain ⟨t0, u0, v0⟩ := V.out.box_at (i := 4) (j := 0) rfl rfl
          obtain ⟨t1, u1, v1⟩ := V.out.box_at (i := 4) (j := 1) rfl rfl
          have V4 := (V.out.box_set (i := 4) rfl 0 (.int .i64 (m : Int))).box_set (i := 4) rfl 1 (.slice R k d)
          obtain ⟨p0, _, _⟩ := V4.box_at (i := 4) (j := 0) rfl rfl
          obtain ⟨p1, _, _⟩ := V4.box_at (i := 4) (j := 1) rfl rfl
          have HTA := Lib.hid (show taK g n = g.tg.rs by unfold taK; rw [List.take_of_length_le (by rw [H.out.len]; exact Nat.le_refl _)]; rfl)
          have V5 := Lib.hid (show Hp w [arow R k d g.tg.rs, nums B m bc g.tn] _ by rw [← HTA.out]; exact V4.pick [0, 2] (by decide) rfl)
          clear V4
          go_wp2_with fail
          refine bodyPost_ret (v := .tuple #[.agg #[.int .i64 (m : Int), .slice R k d], .slice B m bc, .int .i64 0]) (by simp [results, Try.results18, go_sem, p0, p1]) rfl ⟨R, k, d, B, m, bc, by rw [HTR.out, ← HM2.out]; rfl, by rw [HTR.out, ← HKL.out, HTA.out], by rw [HTR.out]; exact HM2.out, by rw [HTR.out]; exact V5.out⟩
        obtain ⟨⟨f, t, q⟩, b, off, ha, hae, hA, hbw, c0, c1, c2'⟩ := (H.out.below V.out.below).at hilt
        have har := HO.out.arc _ (List.mem_of_getElem? ha)
        have hgN := HGN.out
        dsimp only at har c0 c1 c2'
        have hk3 : i * 3 ≤ 20000 := by omega
        have HS := Lib.hid (taK_step ha)
        obtain ⟨F, rfl⟩ := Int.eq_ofNat_of_zero_le (show 0 ≤ f by omega)
        obtain ⟨T, rfl⟩ := Int.eq_ofNat_of_zero_le (show 0 ≤ t by omega)
        have hFN : F < N := by omega
        have hTN : T < N := by omega
        have HTK := Lib.hid (show g.tk ⟨(F : Int), (T : Int), q⟩ = (g.kp.getD F false && g.kp.getD T false) from rfl)
        have HTAA := Lib.hid (show g.ta ⟨(F : Int), (T : Int), q⟩ = ⟨(g.rk F : Int), (g.rk T : Int), q⟩ from rfl)
        obtain ⟨rF, hrF⟩ : ∃ r : Nat, r = g.rk F := ⟨_, rfl⟩
        obtain ⟨rT, hrT⟩ : ∃ r : Nat, r = g.rk T := ⟨_, rfl⟩
        rw [← hrF, ← hrT] at HTAA
        obtain ⟨xF, hxF⟩ : ∃ x, x = g.kp.getD F false := ⟨_, rfl⟩
        obtain ⟨xT, hxT⟩ : ∃ x, x = g.kp.getD T false := ⟨_, rfl⟩
        rw [← hxF, ← hxT] at HTK
        have hrF2 : rF ≤ 2000 := by rw [hrF]; have := rk_bd (g := g) F; omega
        have hrT2 : rT ≤ 2000 := by rw [hrT]; have := rk_bd (g := g) T; omega
        obtain ⟨wy, hwy⟩ : ∃ z, z = wj.alloc (.cells #[.int .i64 (F : Int), .int .i64 (T : Int), .int .i64 q] 60) := ⟨_, rfl⟩
        have HY := Lib.hid hwy
        obtain ⟨ab, hab⟩ : ∃ ab, ab = wj.heap.size := ⟨_, rfl⟩
        have VY := Lib.hid (show Hp w (abox ab ⟨(F : Int), (T : Int), q⟩ :: [arow R k d (taK g i), box 24 gt [.int .i64 (m : Int), .slice R k d], nums B m bc g.tn, nums (some ⟨gm, 0, none⟩) N N NM, box 24 (gb + 1) [.int .i64 0, .slice none 0 0], box 24 gb [.int .i64 (N : Int), .slice A n c]]) wy by rw [hwy, hab]; exact V.out.anew ⟨(F : Int), (T : Int), q⟩)
        obtain ⟨vF, hvF⟩ : ∃ v, v = if xF = true then (rF : Int) else -1 := ⟨_, rfl⟩
        obtain ⟨vT, hvT⟩ : ∃ v, v = if xT = true then (rT : Int) else -1 := ⟨_, rfl⟩
        have HNF := Lib.hid (show NM[F]? = some vF by rw [hvF, hxF, hrF]; exact HNM.out F hFN)
        have HNT := Lib.hid (show NM[T]? = some vT by rw [hvT, hxT, hrT]; exact HNM.out T hTN)
        clear ha hae har hwy hrF hrT hxF hxT hgN
        subst hA
        go_upto_region 21 with fail
        rw [← HY.out, ← hab]
        clear HY V c0 c1 c2' hbw hab r1 r9
        obtain ⟨s0, s1, s2, s9⟩ := VY.out.ab (i := 0) rfl
        dsimp only at s0 s1 s2
        obtain ⟨x1, _, x3⟩ := VY.out.num_get (i := 4) rfl HNF.out
        obtain ⟨y1, _, y3⟩ := VY.out.num_get (i := 4) rfl HNT.out
        cases xF with
        | false =>
          have HS2 := Lib.hid (show taK g (i + 1) = taK g i by rw [HS.out, HTK.out, if_neg (by simp), List.append_nil])
          obtain rfl : vF = -1 := hvF
          go_wp2_with fail
          go_roundw
          case rel => exact ⟨i + 1, R, k, d, by go_num, by omega, by rw [HS2.out]; exact HKL.out, by rw [HS2.out]; exact VY.out.tail⟩
          case measure => simp [intOf]; omega
        | true =>
          cases xT with
          | false =>
            have HS2 := Lib.hid (show taK g (i + 1) = taK g i by rw [HS.out, HTK.out, if_neg (by simp), List.append_nil])
            obtain rfl : vF = (rF : Int) := hvF
            obtain rfl : vT = -1 := hvT
            go_wp2_with fail
            go_roundw
            case rel => exact ⟨i + 1, R, k, d, by go_num, by omega, by rw [HS2.out]; exact HKL.out, by rw [HS2.out]; exact VY.out.tail⟩
            case measure => simp [intOf]; omega
          | true =>
            have HS2 := Lib.hid (show taK g (i + 1) = taK g i ++ [⟨(rF : Int), (rT : Int), q⟩] by rw [HS.out, HTK.out, if_pos (show (true && true) = true from rfl), HTAA.out])
            obtain rfl : vF = (rF : Int) := hvF
            obtain rfl : vT = (rT : Int) := hvT
            go_upto_region 22 with fail
            clear x1 y1 x3 y3
            obtain ⟨x1, _, x3⟩ := VY.out.num_get (i := 4) rfl HNF.out
            obtain ⟨y1, _, y3⟩ := VY.out.num_get (i := 4) rfl HNT.out
            have hKp : Keep [(⟨gm, F, none⟩, .int .i64 (rF : Int)), (⟨gm, T, none⟩, .int .i64 (rT : Int)), (⟨ab, 0, none⟩, .int .i64 (F : Int)), (⟨ab, 1, none⟩, .int .i64 (T : Int)), (⟨ab, 2, none⟩, .int .i64 q)] wy := List.forall_mem_cons.2 ⟨⟨x1, x3⟩, List.forall_mem_cons.2 ⟨⟨y1, y3⟩, List.forall_mem_cons.2 ⟨⟨s0, s9⟩, List.forall_mem_cons.2 ⟨⟨s1, s9⟩, List.forall_mem_cons.2 ⟨⟨s2, s9⟩, fun _ h => by simp at h⟩⟩⟩⟩⟩
            refine wp_region_held_drew (S := Keep _) (by kernel_rfl) hKp.drew (fun hHeld => ?_)
            have VYd := Lib.hid (VY.out.go (bdrew _))
            refine tk 0 ?_ rfl ?_ ?_; rotate_left; focus (intro w hSw; clear hSw; go_simp; try (with_reducible rfl))
            try simp only [Act.put, sA, sZ, sS]
            refine tk 2 ?_ rfl ?_ ?_; rotate_left; focus (intro w hSw; clear hSw; go_simp; try (with_reducible rfl))
            try simp only [Act.put, sA, sZ, sS]
            refine tk 3 ?_ rfl ?_ ?_; rotate_left; focus (intro w hSw; clear hSw; go_simp; try (with_reducible rfl))
            try simp only [Act.put, sA, sZ, sS]
            refine tk 4 ?_ rfl ?_ ?_; rotate_left
            · intro wl hSw
              have hSw : Keep _ wl := hSw
              have k0 : wl.cell? ⟨ab, 0, none⟩ = some (.int .i64 (F : Int)) := (hSw _ (.tail _ (.tail _ (.head _)))).1
              clear hSw
              go_simp
              try (with_reducible rfl)
            try simp only [Act.put, sA, sZ, sS]
            refine tk 5 ?_ rfl ?_ ?_; rotate_left; focus (intro w hSw; clear hSw; go_simp; try (with_reducible rfl))
            try simp only [Act.put, sA, sZ, sS]
            refine tk 6 ?_ rfl ?_ ?_; rotate_left
            · intro wl hSw
              have hSw : Keep _ wl := hSw
              have k0 : wl.cell? ⟨gm, F, none⟩ = some (.int .i64 (rF : Int)) := (hSw _ (.head _)).1
              clear hSw
              go_simp
              try (with_reducible rfl)
            try simp only [Act.put, sA, sZ, sS]
            refine tk 7 ?_ rfl ?_ ?_; rotate_left; focus (intro w hSw; clear hSw; go_simp; try (with_reducible rfl))
            try simp only [Act.put, sA, sZ, sS]
            refine tk 8 ?_ rfl ?_ ?_; rotate_left; focus (intro w hSw; clear hSw; go_simp; try (with_reducible rfl))
            try simp only [Act.put, sA, sZ, sS]
            refine tk 9 ?_ rfl ?_ ?_; rotate_left
            · intro wl hSw
              have hSw : Keep _ wl := hSw
              have k0 : wl.cell? ⟨ab, 1, none⟩ = some (.int .i64 (T : Int)) := (hSw _ (.tail _ (.tail _ (.tail _ (.head _))))).1
              clear hSw
              go_simp
              try (with_reducible rfl)
            try simp only [Act.put, sA, sZ, sS]
            refine tk 10 ?_ rfl ?_ ?_; rotate_left; focus (intro w hSw; clear hSw; go_simp; try (with_reducible rfl))
            try simp only [Act.put, sA, sZ, sS]
            refine tk 11 ?_ rfl ?_ ?_; rotate_left
            · intro wl hSw
              have hSw : Keep _ wl := hSw
              have k0 : wl.cell? ⟨gm, T, none⟩ = some (.int .i64 (rT : Int)) := (hSw _ (.tail _ (.head _))).1
              clear hSw
              go_simp
              try (with_reducible rfl)
            try simp only [Act.put, sA, sZ, sS]
            refine tk 12 ?_ rfl ?_ ?_; rotate_left; focus (intro w hSw; clear hSw; go_simp; try (with_reducible rfl))
            try simp only [Act.put, sA, sZ, sS]
            refine tk 13 ?_ rfl ?_ ?_; rotate_left
            · intro wl hSw
              have hSw : Keep _ wl := hSw
              have k0 : wl.cell? ⟨ab, 2, none⟩ = some (.int .i64 q) := (hSw _ (.tail _ (.tail _ (.tail _ (.tail _ (.head _)))))).1
              clear hSw
              go_simp
              try (with_reducible rfl)
            try simp only [Act.put, sA, sZ, sS]
            refine tk 14 ?_ rfl ?_ ?_; rotate_left; focus (intro w hSw; clear hSw; go_simp; try (with_reducible rfl))
            try simp only [Act.put, sA, sZ, sS]
            refine wpAnyH_ready (rs := [1, 15]) (by kernel_rfl) (by simp) ?_
            refine AllReadyH.cons (List.getElem?_toArray.trans rfl) (fun K hK => ?_) ?_
            · have yL := (VYd.out.box_at (i := 2) (j := 1) rfl rfl).1
              go_simp
              refine hK.out _ _ (hHeld) (fun hHeld => ?_)
              clear hK K
              try simp only [Act.put, sA, sZ, sS]
              refine wpAnyH_ready (rs := [15]) (by kernel_rfl) (by simp) ?_
              refine AllReadyH.cons (List.getElem?_toArray.trans rfl) (fun K hK => ?_) AllReadyH.nil
              obtain ⟨w_1_15, hw_1_15⟩ : ∃ z, z = (wy.alloc (.cells #[.int .i64 (rF : Int), .int .i64 (rT : Int), .int .i64 q] 60)).drew := ⟨_, rfl⟩
              have V_1_15 := Lib.hid (show Hp _ (box 60 wy.heap.size [.int .i64 (rF : Int), .int .i64 (rT : Int), .int .i64 q] :: _) w_1_15 by rw [hw_1_15]; exact VYd.out.box_new 60 [.int .i64 (rF : Int), .int .i64 (rT : Int), .int .i64 q])
              have Bw_1_15 := Lib.hid (show Below wy.drew.heap.size wy.drew w_1_15 by rw [hw_1_15]; exact bnew _ _)
              go_simp
              rw [← hw_1_15]
              clear hw_1_15
              refine hK.out _ _ (hHeld.go Bw_1_15.out) (fun hHeld => ?_)
              clear hK K
              try simp only [Act.put, sA, sZ, sS]
              refine wpAnyH_ready (rs := [16]) (by kernel_rfl) (by simp) ?_
              refine AllReadyH.cons (List.getElem?_toArray.trans rfl) (fun K hK => ?_) AllReadyH.nil
              obtain ⟨z0, z1, z2, z9⟩ := V_1_15.out.ab (i := 0) (a := ⟨(rF : Int), (rT : Int), q⟩) rfl
              obtain ⟨g4, cap4, w4, hr4, hv4, _⟩ := run_app_arc V_1_15.out (i := 2) rfl 22 ⟨(rF : Int), (rT : Int), q⟩ z0 z1 z2 (by omega)
              have V4 := Lib.hid hv4.tail
              clear hv4 z0 z1 z2 z9
              refine step_app_run rfl (.tmp 91) (.tmp 105) 22 rfl hr4 rfl rfl ?_
              refine hK.out _ _ (List.forall_mem_cons.2 ⟨⟨(V4.out.num_get (i := 4) rfl HNF.out).1, (V4.out.num_get (i := 4) rfl HNF.out).2.2⟩, List.forall_mem_cons.2 ⟨⟨(V4.out.num_get (i := 4) rfl HNT.out).1, (V4.out.num_get (i := 4) rfl HNT.out).2.2⟩, List.forall_mem_cons.2 ⟨⟨(V4.out.box_at (i := 0) (j := 0) rfl rfl).1, (V4.out.box_at (i := 0) (j := 0) rfl rfl).2.2⟩, List.forall_mem_cons.2 ⟨⟨(V4.out.box_at (i := 0) (j := 1) rfl rfl).1, (V4.out.box_at (i := 0) (j := 1) rfl rfl).2.2⟩, List.forall_mem_cons.2 ⟨⟨(V4.out.box_at (i := 0) (j := 2) rfl rfl).1, (V4.out.box_at (i := 0) (j := 2) rfl rfl).2.2⟩, fun _ h => by simp at h⟩⟩⟩⟩⟩) (fun hHeld => ?_)
              clear hK K
              try simp only [Act.put, sA, sZ, sS]
              refine tk 17 ?_ rfl ?_ ?_; rotate_left; focus (intro w hSw; clear hSw; go_simp; try (with_reducible rfl))
              try simp only [Act.put, sA, sZ, sS]
              refine wpAnyH_ready (rs := [18]) (by kernel_rfl) (by simp) ?_
              refine AllReadyH.cons (List.getElem?_toArray.trans rfl) (fun K hK => ?_) AllReadyH.nil
              obtain ⟨t0, u0, v0⟩ := V4.out.box_at (i := 2) (j := 1) rfl rfl
              have V6 := Lib.hid (V4.out.box_set (i := 2) rfl 1 (.slice (some ⟨g4, 0, none⟩) (k + 1) cap4))
              go_simp
              refine hK.out _ _ (List.forall_mem_cons.2 ⟨⟨(V6.out.num_get (i := 4) rfl HNF.out).1, (V6.out.num_get (i := 4) rfl HNF.out).2.2⟩, List.forall_mem_cons.2 ⟨⟨(V6.out.num_get (i := 4) rfl HNT.out).1, (V6.out.num_get (i := 4) rfl HNT.out).2.2⟩, List.forall_mem_cons.2 ⟨⟨(V6.out.box_at (i := 0) (j := 0) rfl rfl).1, (V6.out.box_at (i := 0) (j := 0) rfl rfl).2.2⟩, List.forall_mem_cons.2 ⟨⟨(V6.out.box_at (i := 0) (j := 1) rfl rfl).1, (V6.out.box_at (i := 0) (j := 1) rfl rfl).2.2⟩, List.forall_mem_cons.2 ⟨⟨(V6.out.box_at (i := 0) (j := 2) rfl rfl).1, (V6.out.box_at (i := 0) (j := 2) rfl rfl).2.2⟩, fun _ h => by simp at h⟩⟩⟩⟩⟩) (fun hHeld => ?_)
              clear hK K
              try simp only [Act.put, sA, sZ, sS]
              refine wpAnyH_done (by kernel_rfl) ?_ _
              clear hKp hHeld
              have V7 := Lib.hid (show Hp w [arow (some ⟨g4, 0, none⟩) (k + 1) cap4 (taK g (i + 1)), box 24 gt [.int .i64 (m : Int), .slice (some ⟨g4, 0, none⟩) (k + 1) cap4], nums B m bc g.tn, nums (some ⟨gm, 0, none⟩) N N NM, box 24 (gb + 1) [.int .i64 0, .slice none 0 0], box 24 gb [.int .i64 (N : Int), .slice (some ⟨b, off, none⟩) n c]] _ by rw [HS2.out]; exact V6.out.tail)
              have HKL2 := Lib.hid (show (taK g (i + 1)).length = k + 1 by rw [HS2.out, List.length_append, HKL.out]; rfl)
              clear V4 V6
              go_wp2_with fail
              go_roundw
              case rel => exact ⟨i + 1, _, _, _, by go_num, by omega, HKL2.out, V7.out⟩
              case measure => simp [intOf]; omega
            refine AllReadyH.cons (List.getElem?_toArray.trans rfl) (fun K hK => ?_) ?_
            · obtain ⟨w_15, hw_15⟩ : ∃ z, z = (wy.alloc (.cells #[.int .i64 (rF : Int), .int .i64 (rT : Int), .int .i64 q] 60)).drew := ⟨_, rfl⟩
              have V_15 := Lib.hid (show Hp _ (box 60 wy.heap.size [.int .i64 (rF : Int), .int .i64 (rT : Int), .int .i64 q] :: _) w_15 by rw [hw_15]; exact VYd.out.box_new 60 [.int .i64 (rF : Int), .int .i64 (rT : Int), .int .i64 q])
              have Bw_15 := Lib.hid (show Below wy.drew.heap.size wy.drew w_15 by rw [hw_15]; exact bnew _ _)
              go_simp
              rw [← hw_15]
              clear hw_15
              refine hK.out _ _ (hHeld.go Bw_15.out) (fun hHeld => ?_)
              clear hK K
              try simp only [Act.put, sA, sZ, sS]
              refine wpAnyH_ready (rs := [1]) (by kernel_rfl) (by simp) ?_
              refine AllReadyH.cons (List.getElem?_toArray.trans rfl) (fun K hK => ?_) AllReadyH.nil
              have yL := (V_15.out.box_at (i := 3) (j := 1) rfl rfl).1
              go_simp
              refine hK.out _ _ (hHeld) (fun hHeld => ?_)
              clear hK K
              try simp only [Act.put, sA, sZ, sS]
              refine wpAnyH_ready (rs := [16]) (by kernel_rfl) (by simp) ?_
              refine AllReadyH.cons (List.getElem?_toArray.trans rfl) (fun K hK => ?_) AllReadyH.nil
              obtain ⟨z0, z1, z2, z9⟩ := V_15.out.ab (i := 0) (a := ⟨(rF : Int), (rT : Int), q⟩) rfl
              obtain ⟨g4, cap4, w4, hr4, hv4, _⟩ := run_app_arc V_15.out (i := 2) rfl 22 ⟨(rF : Int), (rT : Int), q⟩ z0 z1 z2 (by omega)
              have V4 := Lib.hid hv4.tail
              clear hv4 z0 z1 z2 z9
              refine step_app_run rfl (.tmp 91) (.tmp 105) 22 rfl hr4 rfl rfl ?_
              refine hK.out _ _ (List.forall_mem_cons.2 ⟨⟨(V4.out.num_get (i := 4) rfl HNF.out).1, (V4.out.num_get (i := 4) rfl HNF.out).2.2⟩, List.forall_mem_cons.2 ⟨⟨(V4.out.num_get (i := 4) rfl HNT.out).1, (V4.out.num_get (i := 4) rfl HNT.out).2.2⟩, List.forall_mem_cons.2 ⟨⟨(V4.out.box_at (i := 0) (j := 0) rfl rfl).1, (V4.out.box_at (i := 0) (j := 0) rfl rfl).2.2⟩, List.forall_mem_cons.2 ⟨⟨(V4.out.box_at (i := 0) (j := 1) rfl rfl).1, (V4.out.box_at (i := 0) (j := 1) rfl rfl).2.2⟩, List.forall_mem_cons.2 ⟨⟨(V4.out.box_at (i := 0) (j := 2) rfl rfl).1, (V4.out.box_at (i := 0) (j := 2) rfl rfl).2.2⟩, fun _ h => by simp at h⟩⟩⟩⟩⟩) (fun hHeld => ?_)
              clear hK K
              try simp only [Act.put, sA, sZ, sS]
              refine tk 17 ?_ rfl ?_ ?_; rotate_left; focus (intro w hSw; clear hSw; go_simp; try (with_reducible rfl))
              try simp only [Act.put, sA, sZ, sS]
              refine wpAnyH_ready (rs := [18]) (by kernel_rfl) (by simp) ?_
              refine AllReadyH.cons (List.getElem?_toArray.trans rfl) (fun K hK => ?_) AllReadyH.nil
              obtain ⟨t0, u0, v0⟩ := V4.out.box_at (i := 2) (j := 1) rfl rfl
              have V6 := Lib.hid (V4.out.box_set (i := 2) rfl 1 (.slice (some ⟨g4, 0, none⟩) (k + 1) cap4))
              go_simp
              refine hK.out _ _ (List.forall_mem_cons.2 ⟨⟨(V6.out.num_get (i := 4) rfl HNF.out).1, (V6.out.num_get (i := 4) rfl HNF.out).2.2⟩, List.forall_mem_cons.2 ⟨⟨(V6.out.num_get (i := 4) rfl HNT.out).1, (V6.out.num_get (i := 4) rfl HNT.out).2.2⟩, List.forall_mem_cons.2 ⟨⟨(V6.out.box_at (i := 0) (j := 0) rfl rfl).1, (V6.out.box_at (i := 0) (j := 0) rfl rfl).2.2⟩, List.forall_mem_cons.2 ⟨⟨(V6.out.box_at (i := 0) (j := 1) rfl rfl).1, (V6.out.box_at (i := 0) (j := 1) rfl rfl).2.2⟩, List.forall_mem_cons.2 ⟨⟨(V6.out.box_at (i := 0) (j := 2) rfl rfl).1, (V6.out.box_at (i := 0) (j := 2) rfl rfl).2.2⟩, fun _ h => by simp at h⟩⟩⟩⟩⟩) (fun hHeld => ?_)
              clear hK K
              try simp only [Act.put, sA, sZ, sS]
              refine wpAnyH_done (by kernel_rfl) ?_ _
              clear hKp hHeld
              have V7 := Lib.hid (show Hp w [arow (some ⟨g4, 0, none⟩) (k + 1) cap4 (taK g (i + 1)), box 24 gt [.int .i64 (m : Int), .slice (some ⟨g4, 0, none⟩) (k + 1) cap4], nums B m bc g.tn, nums (some ⟨gm, 0, none⟩) N N NM, box 24 (gb + 1) [.int .i64 0, .slice none 0 0], box 24 gb [.int .i64 (N : Int), .slice (some ⟨b, off, none⟩) n c]] _ by rw [HS2.out]; exact V6.out.tail)
              have HKL2 := Lib.hid (show (taK g (i + 1)).length = k + 1 by rw [HS2.out, List.length_append, HKL.out]; rfl)
              clear V4 V6
              go_wp2_with fail
              go_roundw
              case rel => exact ⟨i + 1, _, _, _, by go_num, by omega, HKL2.out, V7.out⟩
              case measure => simp [intOf]; omega
            exact AllReadyH.nil
    obtain ⟨x, hx⟩ : ∃ x, x = g.rc.getD k false := ⟨_, rfl⟩
    obtain ⟨y, hy⟩ : ∃ y, y = g.wy (k : Int) := ⟨_, rfl⟩
    have HKG := Lib.hid (show g.kp[k]? = some (x && decide (0 < y)) by rw [hx, hy]; exact kp_get (by rw [← HN.out]; exact hlt))
    have HNL := Lib.hid (show (nmK g k).length = N by rw [nmK_len, HN.out])
    have hmk2 : m ≤ 2000 := by have h1 := HM.out; have h2 := memL_len (g.kp.take k); rw [List.length_take] at h2; omega
    obtain ⟨z1, z2, z3⟩ := V.out.num_at (i := 1) rfl (j := k) (by rw [HNL.out]; exact hlt)
    obtain ⟨wv, hwv⟩ : ∃ z, z = wi.setCell ⟨gm, k, none⟩ (.int .i64 (-1)) := ⟨_, rfl⟩
    have HWV := Lib.hid hwv
    have V1 := Lib.hid (show Hp w [nums B m d (memL (g.kp.take k)), nums (some ⟨gm, 0, none⟩) N N ((nmK g k).set k (-1)), lnums (some ⟨gw, 0, none⟩) N N g.waysL, flags (some ⟨gr, 0, none⟩) N N g.rc, box 24 (gb + 1) [.int .i64 0, .slice none 0 0], box 24 gb [.int .i64 (N : Int), .slice A n c]] wv by rw [hwv]; exact V.out.num_set (i := 1) rfl k (-1))
    clear hwv
    go_upto_region 13 with fail
    rw [← HWV.out]
    clear HWV z1 z2 z3 r0 r9 V
    obtain ⟨x1, x2, x3⟩ := V1.out.flag_at (i := 3) rfl (j := k) (by rw [rc_len, ← HN.out]; exact hlt)
    rw [← hx] at x1
    obtain ⟨y1, y2, y3⟩ := V1.out.lnum_at (i := 2) rfl (j := k) (by rw [waysL_len, ← HN.out]; exact hlt)
    rw [waysL_getD (by rw [← HN.out]; exact hlt) 0, ← hy] at y1
    clear hx hy
    by_cases hc : x = true ∧ 0 < y
    case neg =>
      have hcb : (x && decide (0 < y)) = false := by
        cases x with
        | false => rfl
        | true => rw [Bool.true_and, decide_eq_false (fun h => hc ⟨rfl, h⟩)]
      have HS := Lib.hid (show memL (g.kp.take (k + 1)) = memL (g.kp.take k) by rw [memL_step HKG.out, hcb, if_neg (by simp), List.append_nil])
      have V2 := Lib.hid (show Hp w [nums B m d (memL (g.kp.take (k + 1))), nums (some ⟨gm, 0, none⟩) N N (nmK g (k + 1)), lnums (some ⟨gw, 0, none⟩) N N g.waysL, flags (some ⟨gr, 0, none⟩) N N g.rc, box 24 (gb + 1) [.int .i64 0, .slice none 0 0], box 24 gb [.int .i64 (N : Int), .slice A n c]] wv by rw [HS.out, ← nmK_no (by rw [← HN.out]; exact hlt) (by rw [HKG.out, hcb])]; exact V1.out)
      clear hcb
      cases x with
      | false =>
        clear hc
        go_wp2_with fail
        go_roundw
        case rel => exact ⟨k + 1, B, m, d, by go_num, rfl, by omega, by rw [HS.out]; exact HM.out, V2.out⟩
        case measure => simp [intOf]; omega
      | true =>
        have hy0 : ¬ 0 < y := fun h => hc ⟨rfl, h⟩
        clear hc
        go_wp2_with fail
        go_roundw
        case rel => exact ⟨k + 1, B, m, d, by go_num, rfl, by omega, by rw [HS.out]; exact HM.out, V2.out⟩
        case measure => simp [intOf]; omega
    obtain ⟨rfl, hy0⟩ := hc
    have HKT := Lib.hid (show g.kp[k]? = some true by rw [HKG.out, Bool.true_and, decide_eq_true hy0])
    have HS := Lib.hid (show memL (g.kp.take (k + 1)) = memL (g.kp.take k) ++ [(k : Int)] by rw [memL_step HKT.out, if_pos rfl])
    obtain ⟨z1, z2, z3⟩ := V1.out.num_at (i := 1) rfl (j := k) (by rw [List.length_set, HNL.out]; exact hlt)
    obtain ⟨wu, hwu⟩ : ∃ z, z = wv.setCell ⟨gm, k, none⟩ (.int .i64 (m : Int)) := ⟨_, rfl⟩
    have HWU := Lib.hid hwu
    have V2 := Lib.hid (show Hp w [nums B m d (memL (g.kp.take k)), nums (some ⟨gm, 0, none⟩) N N (nmK g (k + 1)), lnums (some ⟨gw, 0, none⟩) N N g.waysL, flags (some ⟨gr, 0, none⟩) N N g.rc, box 24 (gb + 1) [.int .i64 0, .slice none 0 0], box 24 gb [.int .i64 (N : Int), .slice A n c]] wu by
      rw [hwu, ← nmK_yes (by rw [← HN.out]; exact hlt) HKT.out, show g.rk k = m from HM.out]; exact V1.out.num_set (i := 1) rfl k (m : Int))
    clear hwu
    go_upto_region 15 with fail
    rw [← HWU.out]
    clear HWU z1 z2 z3 x1 x2 x3 y1 y2 y3 V1 hy0
    obtain ⟨wy, hwy⟩ : ∃ z, z = wu.alloc (.cells #[.int .i64 (k : Int)] 3) := ⟨_, rfl⟩
    have V3 := Lib.hid (show Hp w [box 3 wu.heap.size [.int .i64 (k : Int)], nums B m d (memL (g.kp.take k)), nums (some ⟨gm, 0, none⟩) N N (nmK g (k + 1)), lnums (some ⟨gw, 0, none⟩) N N g.waysL, flags (some ⟨gr, 0, none⟩) N N g.rc, box 24 (gb + 1) [.int .i64 0, .slice none 0 0], box 24 gb [.int .i64 (N : Int), .slice A n c]] wy by rw [hwy]; exact V2.out.box_new _ _)
    have y0 := (V3.out.box_at (i := 0) (j := 0) rfl rfl).1
    obtain ⟨g5, cap5, w5, hr5, hv5, _⟩ := run_app_num V3.out (i := 1) rfl 27 (k : Int) y0 (by omega)
    have V4 := Lib.hid (show Hp w [nums (some ⟨g5, 0, none⟩) (m + 1) cap5 (memL (g.kp.take (k + 1))), nums (some ⟨gm, 0, none⟩) N N (nmK g (k + 1)), lnums (some ⟨gw, 0, none⟩) N N g.waysL, flags (some ⟨gr, 0, none⟩) N N g.rc, box 24 (gb + 1) [.int .i64 0, .slice none 0 0], box 24 gb [.int .i64 (N : Int), .slice A n c]] w5 by rw [HS.out]; exact hv5.tail)
    have HM3 := Lib.hid (show (memL (g.kp.take (k + 1))).length = m + 1 by rw [HS.out, List.length_append, HM.out]; rfl)
    have HY := Lib.hid hwy
    have HR5 := Lib.hid hr5
    clear hwy y0 hv5 hr5
    go_wp2_with (at_builtin; rw [← HY.out]; refine wpList_app_run rfl (.tmp 57) (.tmp 59) 27 rfl HR5.out rfl rfl ?_)
    go_roundw
    case rel => exact ⟨k + 1, some ⟨g5, 0, none⟩, m + 1, cap5, by go_num, rfl, by omega, HM3.out, V4.out⟩
    case measure => simp [intOf]; omega
end Go.Proofs.Ytdoobdfanalnbaa
