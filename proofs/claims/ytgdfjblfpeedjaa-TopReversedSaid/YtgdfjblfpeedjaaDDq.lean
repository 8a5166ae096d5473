/- Contract of the program: a graph trimmed. -/
import Derived.Test.YtgdfjblfpeedjaaDDp
import Derived.Test.YtgdfjblfpeedjaaDCX
import Derived.Test.YtgdfjblfpeedjaaDCg
import Derived.Deep.RegionLaw
namespace Go.Proofs.Ytgdfjblfpeedjaa
open Go.RowKit
set_option linter.unusedVariables false
set_option linter.unusedSimpArgs false
set_option maxRecDepth 100000

theorem end_wy {g : Gr} (h : g.Ok) : g.rc.getD (g.n - 1).toNat false = true ↔ 0 < g.wy 0 := by
  have h1 := h.n1
  rw [rc_iff h (by omega), on_iff h (Int.le_refl 0) (by omega)]
  exact Iff.rfl
/-- Marks, half narrowed. -/
def kpK (g : Gr) (k : Nat) : List Bool := (List.range g.n.toNat).map fun j : Nat => if j < k then g.kp.getD j false else g.rc.getD j false
theorem kpK_len (g : Gr) (k : Nat) : (kpK g k).length = g.n.toNat := by simp [kpK]
theorem kpK_get {g : Gr} {k j : Nat} (hj : j < g.n.toNat) : (kpK g k)[j]? = some (if j < k then g.kp.getD j false else g.rc.getD j false) := by
  unfold kpK
  rw [List.getElem?_map, List.getElem?_range hj]; rfl
theorem kpK_zero (g : Gr) : kpK g 0 = g.rc := by
  apply List.ext_getElem?
  intro j
  by_cases hj : j < g.n.toNat
  · rw [kpK_get hj, if_neg (by omega), List.getD_eq_getElem?_getD, List.getElem?_eq_getElem (by rw [rc_len]; exact hj)]; rfl
  · rw [List.getElem?_eq_none (by rw [kpK_len]; omega), List.getElem?_eq_none (by rw [rc_len]; omega)]
theorem kpK_all (g : Gr) : kpK g g.n.toNat = g.kp := by
  apply List.ext_getElem?
  intro j
  by_cases hj : j < g.n.toNat
  · rw [kpK_get hj, if_pos hj, kp_get hj, kp_bool (kp_get hj)]
  · rw [List.getElem?_eq_none (by rw [kpK_len]; omega), List.getElem?_eq_none (by rw [kp_len]; omega)]
theorem kpK_step {g : Gr} {k : Nat} (hk : k < g.n.toNat) : (kpK g k).set k (g.rc.getD k false && decide (0 < g.wy (k : Int))) = kpK g (k + 1) := by
  apply List.ext_getElem?
  intro j
  by_cases hj : j < g.n.toNat
  · rw [kpK_get hj, List.getElem?_set]
    by_cases e : k = j
    · subst e
      rw [if_pos rfl, if_pos (by rw [kpK_len]; exact hk), if_pos (show k < k + 1 by omega), kp_bool (kp_get hk)]
    · rw [if_neg e, kpK_get hj]
      by_cases h2 : j < k
      · rw [if_pos h2, if_pos (show j < k + 1 by omega)]
      · rw [if_neg h2, if_neg (show ¬ j < k + 1 by omega)]
  · rw [List.getElem?_eq_none (by rw [List.length_set, kpK_len]; omega), List.getElem?_eq_none (by rw [kpK_len]; omega)]
theorem memL_pre {L : List Bool} {j : Nat} : ∀ (d : Nat), j + d ≤ L.length → ∀ (i : Nat) (x : Int), (memL (L.take j))[i]? = some x → (memL (L.take (j + d)))[i]? = some x
  | 0, _, i, x, h => h
  | d + 1, hl, i, x, h => by
    have ih := memL_pre d (by omega) i x h
    rw [show j + (d + 1) = j + d + 1 by omega, memL_step (List.getElem?_eq_getElem (by omega)), List.getElem?_append_left (List.getElem?_eq_some_iff.1 ih).1]
    exact ih
theorem tn_rk {g : Gr} {j : Nat} (hj : j < g.n.toNat) (hk : g.kp.getD j false = true) : g.tn[g.rk j]? = some (j : Int) := by
  have h1 := kp_get hj
  rw [kp_bool h1] at hk
  rw [hk] at h1
  have h2 : (memL (g.kp.take (j + 1)))[g.rk j]? = some (j : Int) := by
    rw [memL_step h1, if_pos rfl]
    unfold Gr.rk
    rw [List.getElem?_append_right (Nat.le_refl _), Nat.sub_self]; rfl
  have h3 := memL_pre (g.n.toNat - (j + 1)) (by rw [kp_len]; omega) _ _ h2
  rw [show j + 1 + (g.n.toNat - (j + 1)) = g.kp.length by rw [kp_len]; omega, List.take_length] at h3
  exact h3
theorem tn_asc {g : Gr} {i j : Nat} {x y : Int} (hx : g.tn[i]? = some x) (hy : g.tn[j]? = some y) (hij : i < j) : x < y := by
  obtain ⟨i1, i2⟩ := List.getElem?_eq_some_iff.1 hx
  obtain ⟨j1, j2⟩ := List.getElem?_eq_some_iff.1 hy
  rw [← i2, ← j2]
  exact List.pairwise_iff_getElem.1 (memL_asc g.kp) i j i1 j1 hij
theorem tn_bd {g : Gr} {i : Nat} {x : Int} (hx : g.tn[i]? = some x) : 0 ≤ x ∧ x < (g.n.toNat : Int) := by
  obtain ⟨h1, h2⟩ := memL_mem.1 (List.mem_of_getElem? hx)
  refine ⟨h1, ?_⟩
  have : x.toNat < g.kp.length := by
    refine Nat.lt_of_not_le fun h => ?_
    rw [List.getD_eq_getElem?_getD, List.getElem?_eq_none h] at h2
    cases h2
  rw [kp_len] at this
  omega
/-- The first so many new names are given. -/
def Named (g : Gr) (NM : List Int) (i : Nat) : Prop := NM.length = g.n.toNat ∧ ∀ j, j < i → ∀ q : Nat, g.tn[j]? = some (q : Int) → NM[q]? = some (j : Int)
theorem Named.step {g : Gr} {NM : List Int} {i q : Nat} (h : Named g NM i) (hq : g.tn[i]? = some (q : Int)) : Named g (NM.set q (i : Int)) (i + 1) := by
  have hb := tn_bd hq
  refine ⟨by rw [List.length_set]; exact h.1, fun j hj p hp => ?_⟩
  rw [List.getElem?_set]
  by_cases e : j = i
  · subst e
    rw [hq] at hp
    injection hp with hp
    rw [if_pos (by omega), if_pos (by rw [h.1]; omega)]
  · have := tn_asc hp hq (by omega)
    rw [if_neg (by omega)]
    exact h.2 j (by omega) p hp
theorem Named.all {g : Gr} {NM : List Int} (h : Named g NM g.tn.length) {j : Nat} (hj : j < g.n.toNat) (hk : g.kp.getD j false = true) : NM[j]? = some (g.rk j : Int) := by
  have h1 := tn_rk hj hk
  exact h.2 _ (List.getElem?_eq_some_iff.1 h1).1 j h1
set_option maxHeartbeats 64000000 in
theorem trim_any (g : Gr) (A : Option Addr) (n c : Nat) (w : World) (h : GrIn w A n c g) :
    Calls Try.prog 9 #[gval g A n c] w (TrimPost g w) := by
  have H := Lib.hid h
  clear h
  obtain ⟨gn, hgn⟩ : ∃ gn, gn = g.n := ⟨_, rfl⟩
  have HGN := Lib.hid hgn
  have hgv : gval g A n c = .agg #[.int .i64 gn, .slice A n c] := by rw [hgn]
  have HV := Lib.hid (show ∀ W, GrIn W A n c g → Calls Try.prog 12 #[.agg #[.int .i64 gn, .slice A n c]] W fun e w' => e = .returned (.int .i64 g.vE) ∧ Below W.heap.size W w' from fun W hW => by rw [hgn]; exact valid_any g A n c W hW)
  obtain ⟨N, hN⟩ : ∃ N, N = g.n.toNat := ⟨_, rfl⟩
  have HN := Lib.hid hN
  have HRE := Lib.hid (show ∀ W, GrIn W A n c g → g.Ok → Calls Try.prog 18 #[.agg #[.int .i64 gn, .slice A n c]] W fun e w' => ∃ gr : Nat, e = .returned (.slice (some ⟨gr, 0, none⟩) N N) ∧ Hp W [flags (some ⟨gr, 0, none⟩) N N g.rc] w' from fun W hW h => by rw [hgn, hN]; exact reach_any g A n c W hW h)
  have HWY := Lib.hid (show ∀ W, GrIn W A n c g → g.Ok → Calls Try.prog 19 #[.agg #[.int .i64 gn, .slice A n c]] W fun e w' => ∃ gw : Nat, e = .returned (.slice (some ⟨gw, 0, none⟩) N N) ∧ Hp W [unums (some ⟨gw, 0, none⟩) N N g.waysL] w' from fun W hW h => by rw [hgn, hN]; exact waysOn_any g A n c W hW h)
  have HEND0 := Lib.hid (show ∀ W, g.Ok → Calls Try.prog 13 #[.agg #[.int .i64 gn, .slice A n c]] W fun e w' => e = .returned (.int .i64 (gn - 1)) ∧ Below W.heap.size W w' from fun W h => by rw [hgn]; exact end_any g A n c W h.n1 h.n2)
  rw [hgv]
  clear hgv hgn hN
  obtain ⟨wz, hwz⟩ : ∃ z, z = (w.alloc (.cells #[.int .i64 gn, .slice A n c] 26)).alloc (.cells #[.int .i64 0, .slice none 0 0] 26) := ⟨_, rfl⟩
  have HZ := Lib.hid hwz
  have V := Lib.hid (show Hp w [box 26 (w.heap.size + 1) [.int .i64 0, .slice none 0 0], box 26 w.heap.size [.int .i64 gn, .slice A n c]] wz by
    have h1 := (Hp.start w).box_new 26 [.int .i64 gn, .slice A n c]
    have h2 := h1.box_new 26 [.int .i64 0, .slice none 0 0]
    rw [show (w.alloc (.cells [.int .i64 gn, .slice A n c].toArray 26)).heap.size = w.heap.size + 1 by unfold World.alloc; exact Array.size_push ..] at h2
    rw [hwz]; exact h2)
  clear hwz
  go_enter Try.func9, Try.ntmps9
  go_upto_region 1 with fail
  rw [← HZ.out]
  clear HZ
  obtain ⟨gb, hgb⟩ : ∃ gb, gb = w.heap.size := ⟨_, rfl⟩
  rw [← hgb] at V ⊢
  clear hgb
  obtain ⟨r0, _, r9⟩ := V.out.box_at (i := 1) (j := 0) rfl rfl
  obtain ⟨r1, _, _⟩ := V.out.box_at (i := 1) (j := 1) rfl rfl
  go_wp2_with fail
  refine (HV.out _ (H.out.below V.out.below)).mono ?_
  rintro e w1 ⟨rfl, b1⟩
  have V1 := Lib.hid (V.out.go b1)
  clear b1 r0 r1 r9 V HV
  by_cases hv : g.vE = 0
  case neg =>
    have HE := Lib.hid (tr_bad hv)
    have g1 : (g.vE != 0) = true := bne_yes hv
    clear hv
    obtain ⟨t0, u0, v0⟩ := V1.out.box_at (i := 0) (j := 0) rfl rfl
    obtain ⟨t1, u1, v1⟩ := V1.out.box_at (i := 0) (j := 1) rfl rfl
    have V4 := (V1.out.box_set (i := 0) rfl 0 (.int .i64 0)).box_set (i := 0) rfl 1 (.slice none 0 0)
    obtain ⟨p0, _, _⟩ := V4.box_at (i := 0) (j := 0) rfl rfl
    obtain ⟨p1, _, _⟩ := V4.box_at (i := 0) (j := 1) rfl rfl
    have V5 := Lib.hid V4.below
    clear V4
    go_wp2_with fail
    exact bodyPost_ret (v := .tuple #[.agg #[.int .i64 0, .slice none 0 0], .slice none 0 0, .int .i64 g.vE]) (by simp [results, Try.results9, go_sem, p0, p1]) rfl (trim_no V5.out HE.out)
  have HVV := Lib.hid hv
  have HO := Lib.hid (Gr.ok hv)
  rw [hv]
  clear hv
  have hgN : gn = (N : Int) := by have := HGN.out; have := HO.out.n1; have := HN.out; omega
  have HGN := Lib.hid (show g.n = (N : Int) by rw [← HGN.out]; exact hgN)
  subst hgN
  have hN0 : 0 < N := by have := HO.out.n1; have := HGN.out; omega
  have hN2 : N ≤ 2000 := by have := HO.out.n2; have := HGN.out; omega
  have hnl : n ≤ 6000 := by have := HO.out.len; have := H.out.len; omega
  obtain ⟨r0, _, r9⟩ := V1.out.box_at (i := 1) (j := 0) rfl rfl
  obtain ⟨r1, _, _⟩ := V1.out.box_at (i := 1) (j := 1) rfl rfl
  go_wp2_with fail
  refine (HRE.out _ (H.out.below V1.out.below) HO.out).mono ?_
  rintro e w2 ⟨gr, rfl, hp⟩
  have V2 := Lib.hid (V1.out.join hp)
  clear hp V1 r0 r1 r9 HRE
  obtain ⟨r0, _, r9⟩ := V2.out.box_at (i := 2) (j := 0) rfl rfl
  obtain ⟨r1, _, _⟩ := V2.out.box_at (i := 2) (j := 1) rfl rfl
  go_wp2_with fail
  refine (HEND0.out _ HO.out).mono ?_
  rintro e w3 ⟨rfl, b3⟩
  have V3 := Lib.hid (V2.out.go b3)
  clear b3 V2 r0 r1 r9 HEND0
  obtain ⟨E, hE⟩ : ∃ E, E = N - 1 := ⟨_, rfl⟩
  have hEN : E < N := by omega
  have hEI : (N : Int) - 1 = (E : Int) := by omega
  have HE2 := Lib.hid (show (g.n - 1).toNat = E by have := HGN.out; omega)
  rw [hEI]
  clear hE hEI
  obtain ⟨x, hx⟩ : ∃ x, x = g.rc.getD E false := ⟨_, rfl⟩
  obtain ⟨x1, _, x3⟩ := V3.out.flag_at (i := 0) rfl (j := E) (by rw [rc_len, ← HN.out]; exact hEN)
  rw [← hx] at x1
  have HX := Lib.hid hx
  clear hx
  cases x with
  | false =>
    have HE := Lib.hid (tr_none HVV.out (by
      have h1 := end_wy HO.out
      rw [HE2.out, ← HX.out] at h1
      have h2 := wy_nonneg HO.out (q := 0) (Int.le_refl 0) (by have := HGN.out; omega)
      have h3 : ¬ 0 < g.wy 0 := fun h => by cases h1.2 h
      omega))
    obtain ⟨t0, u0, v0⟩ := V3.out.box_at (i := 1) (j := 0) rfl rfl
    obtain ⟨t1, u1, v1⟩ := V3.out.box_at (i := 1) (j := 1) rfl rfl
    have V4 := (V3.out.box_set (i := 1) rfl 0 (.int .i64 0)).box_set (i := 1) rfl 1 (.slice none 0 0)
    obtain ⟨p0, _, _⟩ := V4.box_at (i := 1) (j := 0) rfl rfl
    obtain ⟨p1, _, _⟩ := V4.box_at (i := 1) (j := 1) rfl rfl
    have V5 := Lib.hid V4.below
    clear V4
    go_wp2_with fail
    exact bodyPost_ret (v := .tuple #[.agg #[.int .i64 0, .slice none 0 0], .slice none 0 0, .int .i64 10]) (by simp [results, Try.results9, go_sem, p0, p1]) rfl (trim_no V5.out HE.out)
  | true =>
    have HTR := Lib.hid (tr_ok HVV.out (by
      have h1 := (end_wy HO.out).1 (by rw [HE2.out, ← HX.out])
      omega))
    clear HX HE2
    obtain ⟨r0, _, r9⟩ := V3.out.box_at (i := 2) (j := 0) rfl rfl
    obtain ⟨r1, _, _⟩ := V3.out.box_at (i := 2) (j := 1) rfl rfl
    go_wp2_with fail
    refine (HWY.out _ (H.out.below V3.out.below) HO.out).mono ?_
    rintro e w4 ⟨gw, rfl, hp⟩
    have V4 := Lib.hid (show Hp w [unums (some ⟨gw, 0, none⟩) N N g.waysL, flags (some ⟨gr, 0, none⟩) N N (kpK g 0), box 26 (gb + 1) [.int .i64 0, .slice none 0 0], box 26 gb [.int .i64 (N : Int), .slice A n c]] w4 by rw [kpK_zero]; exact V3.out.join hp)
    clear hp V3 r0 r1 r9 HWY x1 x3
    go_wp2_with fail
    go_loopw [34] (fun cv wr => ∃ (k : Nat), cv = .int .i64 (k : Int) ∧ k ≤ N ∧ Hp w [unums (some ⟨gw, 0, none⟩) N N g.waysL, flags (some ⟨gr, 0, none⟩) N N (kpK g k), box 26 (gb + 1) [.int .i64 0, .slice none 0 0], box 26 gb [.int .i64 (N : Int), .slice A n c]] wr) (fun cv _ => N - (intOf cv).toNat)
    case atStart => exact ⟨0, rfl, Nat.zero_le _, V4.out⟩
    case round =>
      clear V4
      obtain ⟨k, rfl, hkn, hV⟩ := hrel
      obtain ⟨wi, rfl⟩ : ∃ wi : World, wi = wr := ⟨_, rfl⟩
      have V := Lib.hid hV
      clear hV
      by_cases hlt : k < N
      case neg =>
        obtain rfl : N = k := by omega
        have V1 := Lib.hid (show Hp w [flags (some ⟨gr, 0, none⟩) N N g.kp, box 26 (gb + 1) [.int .i64 0, .slice none 0 0], box 26 gb [.int .i64 (N : Int), .slice A n c]] wi by have h : Hp w [flags (some ⟨gr, 0, none⟩) N N (kpK g N), box 26 (gb + 1) [.int .i64 0, .slice none 0 0], box 26 gb [.int .i64 (N : Int), .slice A n c]] wi := V.out.pick [1, 2, 3] (by decide) rfl; rw [HN.out, kpK_all, ← HN.out] at h; exact h)
        clear V
        go_wp2_with fail
        refine (members_any _ N N g.kp _ (by rw [kp_len, HN.out]) (by omega) (V1.out.cells (i := 0) rfl rfl)).mono ?_
        rintro e w6 ⟨B, m, bc, rfl, hm, hp⟩
        have HM2 := Lib.hid (show g.tn.length = m from hm)
        have V6 := Lib.hid (show Hp w [nums B m bc g.tn, flags (some ⟨gr, 0, none⟩) N N g.kp, box 26 (gb + 1) [.int .i64 0, .slice none 0 0], box 26 gb [.int .i64 (N : Int), .slice A n c]] w6 from V1.out.join hp)
        have hmB : m ≤ 2000 := by have := HM2.out; have h2 := tn_len g; have := HN.out; omega
        clear hm hp V1
        have hmk := fun w => make_nums (N : Int) N rfl (by omega) w
        obtain ⟨wm, hwm⟩ : ∃ z, z = w6.alloc (.cells (Array.replicate N (.int .i64 0)) 3) := ⟨_, rfl⟩
        have HWM := Lib.hid hwm
        obtain ⟨gm, hgm⟩ : ∃ gm, gm = w6.heap.size := ⟨_, rfl⟩
        have VM := Lib.hid (show Hp w [nums (some ⟨gm, 0, none⟩) N N (List.replicate N 0), nums B m bc g.tn, flags (some ⟨gr, 0, none⟩) N N g.kp, box 26 (gb + 1) [.int .i64 0, .slice none 0 0], box 26 gb [.int .i64 (N : Int), .slice A n c]] wm by rw [hwm, hgm]; exact V6.out.made_numsA N (by omega))
        clear hwm
        obtain ⟨r0, _, r9⟩ := V6.out.box_at (i := 3) (j := 0) rfl rfl
        go_upto_region 14 with fail
        rw [← HWM.out, ← hgm]
        clear HWM hgm V6 hmk r0 r9
        go_wp2_with fail
        go_loopw [58] (fun cv wr => ∃ (i : Nat) (NM : List Int), cv = .int .i64 (i : Int) ∧ i ≤ m ∧ Named g NM i ∧ Hp w [nums (some ⟨gm, 0, none⟩) N N NM, nums B m bc g.tn, flags (some ⟨gr, 0, none⟩) N N g.kp, box 26 (gb + 1) [.int .i64 0, .slice none 0 0], box 26 gb [.int .i64 (N : Int), .slice A n c]] wr) (fun cv _ => m - (intOf cv).toNat)
        case atStart => exact ⟨0, _, rfl, Nat.zero_le _, ⟨by rw [List.length_replicate, HN.out], fun j hj => by omega⟩, VM.out⟩
        case round =>
          clear VM
          obtain ⟨i, NM, rfl, him, hna, hV⟩ := hrel
          obtain ⟨wk, rfl⟩ : ∃ wk : World, wk = wr := ⟨_, rfl⟩
          have V := Lib.hid hV
          have HNA := Lib.hid hna
          clear hV hna
          by_cases hilm : i < m
          case neg =>
            obtain rfl : m = i := by omega
            obtain ⟨wi, rfl⟩ : ∃ wi : World, wi = wk := ⟨_, rfl⟩
            have V2 := Lib.hid (show Hp w [nums B m bc g.tn, nums (some ⟨gm, 0, none⟩) N N NM, flags (some ⟨gr, 0, none⟩) N N g.kp, box 26 (gb + 1) [.int .i64 0, .slice none 0 0], box 26 gb [.int .i64 (N : Int), .slice A n c]] wi from V.out.pick [1, 0, 2, 3, 4] (by decide) rfl)
            have HNM := Lib.hid (show ∀ j, j < N → g.kp.getD j false = true → NM[j]? = some (g.rk j : Int) from fun j hj hk => Named.all (by rw [HM2.out]; exact HNA.out) (by rw [← HN.out]; exact hj) hk)
            clear V HNA
            have hmN : m ≤ 2000 := by have := HM2.out; have h2 := tn_len g; have := HN.out; omega
            obtain ⟨gt, hgt⟩ : ∃ gt, gt = wi.heap.size := ⟨_, rfl⟩
            obtain ⟨w5, hw5⟩ : ∃ z, z = wi.alloc (.cells #[.int .i64 (m : Int), .slice none 0 0] 26) := ⟨_, rfl⟩
            have HW5 := Lib.hid hw5
            have V5 := Lib.hid (show Hp w [arow none 0 0 (taK g 0), box 26 gt [.int .i64 (m : Int), .slice none 0 0], nums B m bc g.tn, nums (some ⟨gm, 0, none⟩) N N NM, flags (some ⟨gr, 0, none⟩) N N g.kp, box 26 (gb + 1) [.int .i64 0, .slice none 0 0], box 26 gb [.int .i64 (N : Int), .slice A n c]] w5 by rw [hw5, hgt]; exact (V2.out.box_new _ _).nil_row _ rfl rfl rfl)
            clear hw5
            go_upto_region 20 with fail
            rw [← HW5.out, ← hgt]
            clear HW5 hgt V2
            obtain ⟨r1, _, r9⟩ := V5.out.box_at (i := 6) (j := 1) rfl rfl
            go_wp2_with fail
            clear r1 r9
            go_loopw [74] (fun cv wr => ∃ (i : Nat) (R : Option Addr) (k d : Nat), cv = .int .i64 (i : Int) ∧ i ≤ n ∧ (taK g i).length = k ∧ Hp w [arow R k d (taK g i), box 26 gt [.int .i64 (m : Int), .slice R k d], nums B m bc g.tn, nums (some ⟨gm, 0, none⟩) N N NM, flags (some ⟨gr, 0, none⟩) N N g.kp, box 26 (gb + 1) [.int .i64 0, .slice none 0 0], box 26 gb [.int .i64 (N : Int), .slice A n c]] wr) (fun cv _ => n - (intOf cv).toNat)
            case atStart => exact ⟨0, none, 0, 0, rfl, Nat.zero_le _, rfl, V5.out⟩
            case round =>
              clear V5
              obtain ⟨i, R, k, d, rfl, hin, hk, hV⟩ := hrel
              obtain ⟨wj, rfl⟩ : ∃ wj : World, wj = wr := ⟨_, rfl⟩
              have V := Lib.hid hV
              have HKL := Lib.hid hk
              have hk6 : k ≤ 6000 := by have := taK_len g i; have := H.out.len; omega
              clear hV hk
              by_cases hilt : i < n
              case neg =>
                obtain rfl : n = i := by omega
                obtain ⟨q0, _, q9⟩ := V.out.box_at (i := 1) (j := 0) rfl rfl
                obtain ⟨q1, _, _⟩ := V.out.box_at (i := 1) (j := 1) rfl rfl
                obtain ⟨t0, u0, v0⟩ := V.out.box_at (i := 5) (j := 0) rfl rfl
                obtain ⟨t1, u1, v1⟩ := V.out.box_at (i := 5) (j := 1) rfl rfl
                have V4 := (V.out.box_set (i := 5) rfl 0 (.int .i64 (m : Int))).box_set (i := 5) rfl 1 (.slice R k d)
                obtain ⟨p0, _, _⟩ := V4.box_at (i := 5) (j := 0) rfl rfl
                obtain ⟨p1, _, _⟩ := V4.box_at (i := 5) (j := 1) rfl rfl
                have HTA := Lib.hid (show taK g n = g.tg.rs by unfold taK; rw [List.take_of_length_le (by rw [H.out.len]; exact Nat.le_refl _)]; rfl)
                have V5 := Lib.hid (show Hp w [arow R k d g.tg.rs, nums B m bc g.tn] _ by rw [← HTA.out]; exact V4.pick [0, 2] (by decide) rfl)
                clear V4
                go_wp2_with fail
                refine bodyPost_ret (v := .tuple #[.agg #[.int .i64 (m : Int), .slice R k d], .slice B m bc, .int .i64 0]) (by simp [results, Try.results9, go_sem, p0, p1]) rfl ⟨R, k, d, B, m, bc, by rw [HTR.out, ← HM2.out]; rfl, by rw [HTR.out, ← HKL.out, HTA.out], by rw [HTR.out]; exact HM2.out, by rw [HTR.out]; exact V5.out⟩
              obtain ⟨⟨f, t, q⟩, b, off, ha, hae, hA, hbw, c0, c1, c2'⟩ := (H.out.below V.out.below).at hilt
              have har := HO.out.arc _ (List.mem_of_getElem? ha)
              have hgN := HGN.out
              dsimp only at har c0 c1 c2'
              have hk3 : i * 3 ≤ 20000 := by omega
              have HS := Lib.hid (taK_step ha)
              obtain ⟨F, rfl⟩ := Int.eq_ofNat_of_zero_le (show 0 ≤ f by omega)
              obtain ⟨T, rfl⟩ := Int.eq_ofNat_of_zero_le (show 0 ≤ t by omega)
              have hFN : F < N := by omega
              have hTN : T < N := by omega
              have HTK := Lib.hid (show g.tk ⟨(F : Int), (T : Int), q⟩ = (g.kp.getD F false && g.kp.getD T false) from rfl)
              have HTAA := Lib.hid (show g.ta ⟨(F : Int), (T : Int), q⟩ = ⟨(g.rk F : Int), (g.rk T : Int), q⟩ from rfl)
              obtain ⟨rF, hrF⟩ : ∃ r : Nat, r = g.rk F := ⟨_, rfl⟩
              obtain ⟨rT, hrT⟩ : ∃ r : Nat, r = g.rk T := ⟨_, rfl⟩
              rw [← hrF, ← hrT] at HTAA
              obtain ⟨xF, hxF⟩ : ∃ x, x = g.kp.getD F false := ⟨_, rfl⟩
              obtain ⟨xT, hxT⟩ : ∃ x, x = g.kp.getD T false := ⟨_, rfl⟩
              rw [← hxF, ← hxT] at HTK
              have hrF2 : rF ≤ 2000 := by rw [hrF]; have := rk_bd (g := g) F; omega
              have hrT2 : rT ≤ 2000 := by rw [hrT]; have := rk_bd (g := g) T; omega
              obtain ⟨wy, hwy⟩ : ∃ z, z = wj.alloc (.cells #[.int .i64 (F : Int), .int .i64 (T : Int), .int .i64 q] 40) := ⟨_, rfl⟩
              have HY := Lib.hid hwy
              obtain ⟨ab, hab⟩ : ∃ ab, ab = wj.heap.size := ⟨_, rfl⟩
              have VY := Lib.hid (show Hp w (abox ab ⟨(F : Int), (T : Int), q⟩ :: [arow R k d (taK g i), box 26 gt [.int .i64 (m : Int), .slice R k d], nums B m bc g.tn, nums (some ⟨gm, 0, none⟩) N N NM, flags (some ⟨gr, 0, none⟩) N N g.kp, box 26 (gb + 1) [.int .i64 0, .slice none 0 0], box 26 gb [.int .i64 (N : Int), .slice A n c]]) wy by rw [hwy, hab]; exact V.out.anew ⟨(F : Int), (T : Int), q⟩)
              have HNF := Lib.hid (show xF = true → NM[F]? = some (rF : Int) by rw [hxF, hrF]; exact HNM.out F hFN)
              have HNT := Lib.hid (show xT = true → NM[T]? = some (rT : Int) by rw [hxT, hrT]; exact HNM.out T hTN)
              have HXF := Lib.hid hxF.symm
              have HXT := Lib.hid hxT.symm
              clear ha hae har hwy hrF hrT hxF hxT hgN
              subst hA
              go_upto_region 23 with fail
              rw [← HY.out, ← hab]
              clear HY V c0 c1 c2' hbw hab 
              obtain ⟨s0, s1, s2, s9⟩ := VY.out.ab (i := 0) rfl
              dsimp only at s0 s1 s2
              obtain ⟨x1, _, x3⟩ := VY.out.flag_at (i := 5) rfl (j := F) (by rw [kp_len, ← HN.out]; exact hFN)
              obtain ⟨y1, _, y3⟩ := VY.out.flag_at (i := 5) rfl (j := T) (by rw [kp_len, ← HN.out]; exact hTN)
              rw [HXF.out] at x1
              rw [HXT.out] at y1
              cases xF with
              | false =>
                have HS2 := Lib.hid (show taK g (i + 1) = taK g i by rw [HS.out, HTK.out, if_neg (by simp), List.append_nil])
                go_wp2_with fail
                go_roundw
                case rel => exact ⟨i + 1, R, k, d, by go_num, by omega, by rw [HS2.out]; exact HKL.out, by rw [HS2.out]; exact VY.out.tail⟩
                case measure => simp [intOf]; omega
              | true =>
                cases xT with
                | false =>
                  have HS2 := Lib.hid (show taK g (i + 1) = taK g i by rw [HS.out, HTK.out, if_neg (by simp), List.append_nil])
                  go_wp2_with fail
                  go_roundw
                  case rel => exact ⟨i + 1, R, k, d, by go_num, by omega, by rw [HS2.out]; exact HKL.out, by rw [HS2.out]; exact VY.out.tail⟩
                  case measure => simp [intOf]; omega
                | true =>
                  have HS2 := Lib.hid (show taK g (i + 1) = taK g i ++ [⟨(rF : Int), (rT : Int), q⟩] by rw [HS.out, HTK.out, if_pos (show (true && true) = true from rfl), HTAA.out])
                  have HNF := Lib.hid (HNF.out rfl)
                  have HNT := Lib.hid (HNT.out rfl)
                  go_upto_region 24 with fail
                  clear x1 y1 x3 y3
                  obtain ⟨x1, _, x3⟩ := VY.out.num_get (i := 4) rfl HNF.out
                  obtain ⟨y1, _, y3⟩ := VY.out.num_get (i := 4) rfl HNT.out
                  have hKp : Keep [(⟨gm, F, none⟩, .int .i64 (rF : Int)), (⟨gm, T, none⟩, .int .i64 (rT : Int)), (⟨ab, 0, none⟩, .int .i64 (F : Int)), (⟨ab, 1, none⟩, .int .i64 (T : Int)), (⟨ab, 2, none⟩, .int .i64 q)] wy := List.forall_mem_cons.2 ⟨⟨x1, x3⟩, List.forall_mem_cons.2 ⟨⟨y1, y3⟩, List.forall_mem_cons.2 ⟨⟨s0, s9⟩, List.forall_mem_cons.2 ⟨⟨s1, s9⟩, List.forall_mem_cons.2 ⟨⟨s2, s9⟩, fun _ h => by simp at h⟩⟩⟩⟩⟩
                  refine wp_region_held_drew (S := Keep _) (by kernel_rfl) hKp.drew (fun hHeld => ?_)
                  have VYd := Lib.hid (VY.out.go (bdrew _))
                  refine tk 0 ?_ rfl ?_ ?_; rotate_left; focus (intro w hSw; clear hSw; go_simp; try (with_reducible rfl))
                  try simp only [Act.put, sA, sZ, sS]
                  refine tk 2 ?_ rfl ?_ ?_; rotate_left; focus (intro w hSw; clear hSw; go_simp; try (with_reducible rfl))
                  try simp only [Act.put, sA, sZ, sS]
                  refine tk 3 ?_ rfl ?_ ?_; rotate_left; focus (intro w hSw; clear hSw; go_simp; try (with_reducible rfl))
                  try simp only [Act.put, sA, sZ, sS]
                  refine tk 4 ?_ rfl ?_ ?_; rotate_left
                  · intro wl hSw
                    have hSw : Keep _ wl := hSw
                    have k0 : wl.cell? ⟨ab, 0, none⟩ = some (.int .i64 (F : Int)) := (hSw _ (.tail _ (.tail _ (.head _)))).1
                    clear hSw
                    go_simp
                    try (with_reducible rfl)
                  try simp only [Act.put, sA, sZ, sS]
                  refine tk 5 ?_ rfl ?_ ?_; rotate_left; focus (intro w hSw; clear hSw; go_simp; try (with_reducible rfl))
                  try simp only [Act.put, sA, sZ, sS]
                  refine tk 6 ?_ rfl ?_ ?_; rotate_left
                  · intro wl hSw
                    have hSw : Keep _ wl := hSw
                    have k0 : wl.cell? ⟨gm, F, none⟩ = some (.int .i64 (rF : Int)) := (hSw _ (.head _)).1
                    clear hSw
                    go_simp
                    try (with_reducible rfl)
                  try simp only [Act.put, sA, sZ, sS]
                  refine tk 7 ?_ rfl ?_ ?_; rotate_left; focus (intro w hSw; clear hSw; go_simp; try (with_reducible rfl))
                  try simp only [Act.put, sA, sZ, sS]
                  refine tk 8 ?_ rfl ?_ ?_; rotate_left; focus (intro w hSw; clear hSw; go_simp; try (with_reducible rfl))
                  try simp only [Act.put, sA, sZ, sS]
                  refine tk 9 ?_ rfl ?_ ?_; rotate_left
                  · intro wl hSw
                    have hSw : Keep _ wl := hSw
                    have k0 : wl.cell? ⟨ab, 1, none⟩ = some (.int .i64 (T : Int)) := (hSw _ (.tail _ (.tail _ (.tail _ (.head _))))).1
                    clear hSw
                    go_simp
                    try (with_reducible rfl)
                  try simp only [Act.put, sA, sZ, sS]
                  refine tk 10 ?_ rfl ?_ ?_; rotate_left; focus (intro w hSw; clear hSw; go_simp; try (with_reducible rfl))
                  try simp only [Act.put, sA, sZ, sS]
                  refine tk 11 ?_ rfl ?_ ?_; rotate_left
                  · intro wl hSw
                    have hSw : Keep _ wl := hSw
                    have k0 : wl.cell? ⟨gm, T, none⟩ = some (.int .i64 (rT : Int)) := (hSw _ (.tail _ (.head _))).1
                    clear hSw
                    go_simp
                    try (with_reducible rfl)
                  try simp only [Act.put, sA, sZ, sS]
                  refine tk 12 ?_ rfl ?_ ?_; rotate_left; focus (intro w hSw; clear hSw; go_simp; try (with_reducible rfl))
                  try simp only [Act.put, sA, sZ, sS]
                  refine tk 13 ?_ rfl ?_ ?_; rotate_left
                  · intro wl hSw
                    have hSw : Keep _ wl := hSw
                    have k0 : wl.cell? ⟨ab, 2, none⟩ = some (.int .i64 q) := (hSw _ (.tail _ (.tail _ (.tail _ (.tail _ (.head _)))))).1
                    clear hSw
                    go_simp
                    try (with_reducible rfl)
                  try simp only [Act.put, sA, sZ, sS]
                  refine tk 14 ?_ rfl ?_ ?_; rotate_left; focus (intro w hSw; clear hSw; go_simp; try (with_reducible rfl))
                  try simp only [Act.put, sA, sZ, sS]
                  refine wpAnyH_ready (rs := [1, 15]) (by kernel_rfl) (by simp) ?_
                  refine AllReadyH.cons (List.getElem?_toArray.trans rfl) (fun K hK => ?_) ?_
                  · have yL := (VYd.out.box_at (i := 2) (j := 1) rfl rfl).1
                    go_simp
                    refine hK.out _ _ (hHeld) (fun hHeld => ?_)
                    clear hK K
                    try simp only [Act.put, sA, sZ, sS]
                    refine wpAnyH_ready (rs := [15]) (by kernel_rfl) (by simp) ?_
                    refine AllReadyH.cons (List.getElem?_toArray.trans rfl) (fun K hK => ?_) AllReadyH.nil
                    obtain ⟨w_1_15, hw_1_15⟩ : ∃ z, z = (wy.alloc (.cells #[.int .i64 (rF : Int), .int .i64 (rT : Int), .int .i64 q] 40)).drew := ⟨_, rfl⟩
                    have V_1_15 := Lib.hid (show Hp _ (box 40 wy.heap.size [.int .i64 (rF : Int), .int .i64 (rT : Int), .int .i64 q] :: _) w_1_15 by rw [hw_1_15]; exact VYd.out.box_new 40 [.int .i64 (rF : Int), .int .i64 (rT : Int), .int .i64 q])
                    have Bw_1_15 := Lib.hid (show Below wy.drew.heap.size wy.drew w_1_15 by rw [hw_1_15]; exact bnew _ _)
                    go_simp
                    rw [← hw_1_15]
                    clear hw_1_15
                    refine hK.out _ _ (hHeld.go Bw_1_15.out) (fun hHeld => ?_)
                    clear hK K
                    try simp only [Act.put, sA, sZ, sS]
                    refine wpAnyH_ready (rs := [16]) (by kernel_rfl) (by simp) ?_
                    refine AllReadyH.cons (List.getElem?_toArray.trans rfl) (fun K hK => ?_) AllReadyH.nil
                    obtain ⟨z0, z1, z2, z9⟩ := V_1_15.out.ab (i := 0) (a := ⟨(rF : Int), (rT : Int), q⟩) rfl
                    obtain ⟨g4, cap4, w4, hr4, hv4, _⟩ := run_app_arc V_1_15.out (i := 2) rfl 24 ⟨(rF : Int), (rT : Int), q⟩ z0 z1 z2 (by omega)
                    have V4 := Lib.hid hv4.tail
                    clear hv4 z0 z1 z2 z9
                    refine step_app_run rfl (.tmp 91) (.tmp 105) 24 rfl hr4 rfl rfl ?_
                    refine hK.out _ _ (List.forall_mem_cons.2 ⟨⟨(V4.out.num_get (i := 4) rfl HNF.out).1, (V4.out.num_get (i := 4) rfl HNF.out).2.2⟩, List.forall_mem_cons.2 ⟨⟨(V4.out.num_get (i := 4) rfl HNT.out).1, (V4.out.num_get (i := 4) rfl HNT.out).2.2⟩, List.forall_mem_cons.2 ⟨⟨(V4.out.box_at (i := 0) (j := 0) rfl rfl).1, (V4.out.box_at (i := 0) (j := 0) rfl rfl).2.2⟩, List.forall_mem_cons.2 ⟨⟨(V4.out.box_at (i := 0) (j := 1) rfl rfl).1, (V4.out.box_at (i := 0) (j := 1) rfl rfl).2.2⟩, List.forall_mem_cons.2 ⟨⟨(V4.out.box_at (i := 0) (j := 2) rfl rfl).1, (V4.out.box_at (i := 0) (j := 2) rfl rfl).2.2⟩, fun _ h => by simp at h⟩⟩⟩⟩⟩) (fun hHeld => ?_)
                    clear hK K
                    try simp only [Act.put, sA, sZ, sS]
                    refine tk 17 ?_ rfl ?_ ?_; rotate_left; focus (intro w hSw; clear hSw; go_simp; try (with_reducible rfl))
                    try simp only [Act.put, sA, sZ, sS]
                    refine wpAnyH_ready (rs := [18]) (by kernel_rfl) (by simp) ?_
                    refine AllReadyH.cons (List.getElem?_toArray.trans rfl) (fun K hK => ?_) AllReadyH.nil
                    obtain ⟨t0, u0, v0⟩ := V4.out.box_at (i := 2) (j := 1) rfl rfl
                    have V6 := Lib.hid (V4.out.box_set (i := 2) rfl 1 (.slice (some ⟨g4, 0, none⟩) (k + 1) cap4))
                    go_simp
                    refine hK.out _ _ (List.forall_mem_cons.2 ⟨⟨(V6.out.num_get (i := 4) rfl HNF.out).1, (V6.out.num_get (i := 4) rfl HNF.out).2.2⟩, List.forall_mem_cons.2 ⟨⟨(V6.out.num_get (i := 4) rfl HNT.out).1, (V6.out.num_get (i := 4) rfl HNT.out).2.2⟩, List.forall_mem_cons.2 ⟨⟨(V6.out.box_at (i := 0) (j := 0) rfl rfl).1, (V6.out.box_at (i := 0) (j := 0) rfl rfl).2.2⟩, List.forall_mem_cons.2 ⟨⟨(V6.out.box_at (i := 0) (j := 1) rfl rfl).1, (V6.out.box_at (i := 0) (j := 1) rfl rfl).2.2⟩, List.forall_mem_cons.2 ⟨⟨(V6.out.box_at (i := 0) (j := 2) rfl rfl).1, (V6.out.box_at (i := 0) (j := 2) rfl rfl).2.2⟩, fun _ h => by simp at h⟩⟩⟩⟩⟩) (fun hHeld => ?_)
                    clear hK K
                    try simp only [Act.put, sA, sZ, sS]
                    refine wpAnyH_done (by kernel_rfl) ?_ _
                    clear hKp hHeld
                    have V7 := Lib.hid (show Hp w [arow (some ⟨g4, 0, none⟩) (k + 1) cap4 (taK g (i + 1)), box 26 gt [.int .i64 (m : Int), .slice (some ⟨g4, 0, none⟩) (k + 1) cap4], nums B m bc g.tn, nums (some ⟨gm, 0, none⟩) N N NM, flags (some ⟨gr, 0, none⟩) N N g.kp, box 26 (gb + 1) [.int .i64 0, .slice none 0 0], box 26 gb [.int .i64 (N : Int), .slice (some ⟨b, off, none⟩) n c]] _ by rw [HS2.out]; exact V6.out.tail)
                    have HKL2 := Lib.hid (show (taK g (i + 1)).length = k + 1 by rw [HS2.out, List.length_append, HKL.out]; rfl)
                    clear V4 V6
                    go_wp2_with fail
                    go_roundw
                    case rel => exact ⟨i + 1, _, _, _, by go_num, by omega, HKL2.out, V7.out⟩
                    case measure => simp [intOf]; omega
                  refine AllReadyH.cons (List.getElem?_toArray.trans rfl) (fun K hK => ?_) ?_
                  · obtain ⟨w_15, hw_15⟩ : ∃ z, z = (wy.alloc (.cells #[.int .i64 (rF : Int), .int .i64 (rT : Int), .int .i64 q] 40)).drew := ⟨_, rfl⟩
                    have V_15 := Lib.hid (show Hp _ (box 40 wy.heap.size [.int .i64 (rF : Int), .int .i64 (rT : Int), .int .i64 q] :: _) w_15 by rw [hw_15]; exact VYd.out.box_new 40 [.int .i64 (rF : Int), .int .i64 (rT : Int), .int .i64 q])
                    have Bw_15 := Lib.hid (show Below wy.drew.heap.size wy.drew w_15 by rw [hw_15]; exact bnew _ _)
                    go_simp
                    rw [← hw_15]
                    clear hw_15
                    refine hK.out _ _ (hHeld.go Bw_15.out) (fun hHeld => ?_)
                    clear hK K
                    try simp only [Act.put, sA, sZ, sS]
                    refine wpAnyH_ready (rs := [1]) (by kernel_rfl) (by simp) ?_
                    refine AllReadyH.cons (List.getElem?_toArray.trans rfl) (fun K hK => ?_) AllReadyH.nil
                    have yL := (V_15.out.box_at (i := 3) (j := 1) rfl rfl).1
                    go_simp
                    refine hK.out _ _ (hHeld) (fun hHeld => ?_)
                    clear hK K
                    try simp only [Act.put, sA, sZ, sS]
                    refine wpAnyH_ready (rs := [16]) (by kernel_rfl) (by simp) ?_
                    refine AllReadyH.cons (List.getElem?_toArray.trans rfl) (fun K hK => ?_) AllReadyH.nil
                    obtain ⟨z0, z1, z2, z9⟩ := V_15.out.ab (i := 0) (a := ⟨(rF : Int), (rT : Int), q⟩) rfl
                    obtain ⟨g4, cap4, w4, hr4, hv4, _⟩ := run_app_arc V_15.out (i := 2) rfl 24 ⟨(rF : Int), (rT : Int), q⟩ z0 z1 z2 (by omega)
                    have V4 := Lib.hid hv4.tail
                    clear hv4 z0 z1 z2 z9
                    refine step_app_run rfl (.tmp 91) (.tmp 105) 24 rfl hr4 rfl rfl ?_
                    refine hK.out _ _ (List.forall_mem_cons.2 ⟨⟨(V4.out.num_get (i := 4) rfl HNF.out).1, (V4.out.num_get (i := 4) rfl HNF.out).2.2⟩, List.forall_mem_cons.2 ⟨⟨(V4.out.num_get (i := 4) rfl HNT.out).1, (V4.out.num_get (i := 4) rfl HNT.out).2.2⟩, List.forall_mem_cons.2 ⟨⟨(V4.out.box_at (i := 0) (j := 0) rfl rfl).1, (V4.out.box_at (i := 0) (j := 0) rfl rfl).2.2⟩, List.forall_mem_cons.2 ⟨⟨(V4.out.box_at (i := 0) (j := 1) rfl rfl).1, (V4.out.box_at (i := 0) (j := 1) rfl rfl).2.2⟩, List.forall_mem_cons.2 ⟨⟨(V4.out.box_at (i := 0) (j := 2) rfl rfl).1, (V4.out.box_at (i := 0) (j := 2) rfl rfl).2.2⟩, fun _ h => by simp at h⟩⟩⟩⟩⟩) (fun hHeld => ?_)
                    clear hK K
                    try simp only [Act.put, sA, sZ, sS]
                    refine tk 17 ?_ rfl ?_ ?_; rotate_left; focus (intro w hSw; clear hSw; go_simp; try (with_reducible rfl))
                    try simp only [Act.put, sA, sZ, sS]
                    refine wpAnyH_ready (rs := [18]) (by kernel_rfl) (by simp) ?_
                    refine AllReadyH.cons (List.getElem?_toArray.trans rfl) (fun K hK => ?_) AllReadyH.nil
                    obtain ⟨t0, u0, v0⟩ := V4.out.box_at (i := 2) (j := 1) rfl rfl
                    have V6 := Lib.hid (V4.out.box_set (i := 2) rfl 1 (.slice (some ⟨g4, 0, none⟩) (k + 1) cap4))
                    go_simp
                    refine hK.out _ _ (List.forall_mem_cons.2 ⟨⟨(V6.out.num_get (i := 4) rfl HNF.out).1, (V6.out.num_get (i := 4) rfl HNF.out).2.2⟩, List.forall_mem_cons.2 ⟨⟨(V6.out.num_get (i := 4) rfl HNT.out).1, (V6.out.num_get (i := 4) rfl HNT.out).2.2⟩, List.forall_mem_cons.2 ⟨⟨(V6.out.box_at (i := 0) (j := 0) rfl rfl).1, (V6.out.box_at (i := 0) (j := 0) rfl rfl).2.2⟩, List.forall_mem_cons.2 ⟨⟨(V6.out.box_at (i := 0) (j := 1) rfl rfl).1, (V6.out.box_at (i := 0) (j := 1) rfl rfl).2.2⟩, List.forall_mem_cons.2 ⟨⟨(V6.out.box_at (i := 0) (j := 2) rfl rfl).1, (V6.out.box_at (i := 0) (j := 2) rfl rfl).2.2⟩, fun _ h => by simp at h⟩⟩⟩⟩⟩) (fun hHeld => ?_)
                    clear hK K
                    try simp only [Act.put, sA, sZ, sS]
                    refine wpAnyH_done (by kernel_rfl) ?_ _
                    clear hKp hHeld
                    have V7 := Lib.hid (show Hp w [arow (some ⟨g4, 0, none⟩) (k + 1) cap4 (taK g (i + 1)), box 26 gt [.int .i64 (m : Int), .slice (some ⟨g4, 0, none⟩) (k + 1) cap4], nums B m bc g.tn, nums (some ⟨gm, 0, none⟩) N N NM, flags (some ⟨gr, 0, none⟩) N N g.kp, box 26 (gb + 1) [.int .i64 0, .slice none 0 0], box 26 gb [.int .i64 (N : Int), .slice (some ⟨b, off, none⟩) n c]] _ by rw [HS2.out]; exact V6.out.tail)
                    have HKL2 := Lib.hid (show (taK g (i + 1)).length = k + 1 by rw [HS2.out, List.length_append, HKL.out]; rfl)
                    clear V4 V6
                    go_wp2_with fail
                    go_roundw
                    case rel => exact ⟨i + 1, _, _, _, by go_num, by omega, HKL2.out, V7.out⟩
                    case measure => simp [intOf]; omega
                  exact AllReadyH.nil
          obtain ⟨Q, hQ⟩ : ∃ Q, g.tn[i]? = some Q := ⟨_, List.getElem?_eq_getElem (by rw [HM2.out]; exact hilm)⟩
          have hQb := tn_bd hQ
          rw [← HN.out] at hQb
          obtain ⟨q, rfl⟩ := Int.eq_ofNat_of_zero_le hQb.1
          have hqN : q < N := by omega
          have HQ := Lib.hid hQ
          have HST := Lib.hid (HNA.out.step hQ)
          have HNL := Lib.hid (show NM.length = N by rw [HNA.out.1, HN.out])
          obtain ⟨gB, hgB⟩ := V.out.head (i := 1) rfl rfl (show 0 < m by omega)
          subst hgB
          clear hQ hQb
          obtain ⟨x1, _, x3⟩ := V.out.num_get (i := 1) rfl HQ.out
          obtain ⟨y1, y2, y3⟩ := V.out.num_at (i := 0) rfl (j := q) (by rw [HNL.out]; exact hqN)
          have VS := Lib.hid (V.out.num_set (i := 0) rfl q (i : Int))
          go_wp2_with fail
          go_roundw
          case rel => exact ⟨i + 1, _, by go_num, by omega, HST.out, VS.out⟩
          case measure => simp [intOf]; omega
      obtain ⟨x, hx⟩ : ∃ x, x = g.rc.getD k false := ⟨_, rfl⟩
      obtain ⟨y, hy⟩ : ∃ y, y = g.wy (k : Int) := ⟨_, rfl⟩
      have HST := Lib.hid (show (kpK g k).set k (x && decide (0 < y)) = kpK g (k + 1) by rw [hx, hy]; exact kpK_step (by rw [← HN.out]; exact hlt))
      have HL := Lib.hid (show (kpK g k).length = N by rw [kpK_len, HN.out])
      obtain ⟨x1, x2, x3⟩ := V.out.flag_at (i := 1) rfl (j := k) (by rw [HL.out]; exact hlt)
      rw [List.getD_eq_getElem?_getD, kpK_get (by rw [← HN.out]; exact hlt), if_neg (by omega), show (some (g.rc.getD k false)).getD false = x by rw [hx]; rfl] at x1
      obtain ⟨y1, y2, y3⟩ := V.out.unum_at (i := 0) rfl (j := k) (by rw [waysL_len, ← HN.out]; exact hlt)
      rw [waysL_getD (by rw [← HN.out]; exact hlt) 0, ← hy] at y1
      have hyb : 0 ≤ y := by rw [hy]; exact (wy_nonneg HO.out (Int.natCast_nonneg k) (by have := HGN.out; omega)).1
      clear hx hy
      have VS := V.out.flag_set (i := 1) rfl k (x && decide (0 < y))
      rw [HST.out] at VS
      have VS := Lib.hid VS
      cases x with
      | false =>
        rw [Bool.false_and] at VS
        go_wp2_with fail
        go_roundw
        case rel => exact ⟨k + 1, by go_num, by omega, VS.out⟩
        case measure => simp [intOf]; omega
      | true =>
        rw [Bool.true_and] at VS
        by_cases hy0 : 0 < y
        case pos =>
          rw [decide_eq_true hy0] at VS
          go_wp2_with fail
          go_roundw
          case rel => exact ⟨k + 1, by go_num, by omega, VS.out⟩
          case measure => simp [intOf]; omega
        case neg =>
          rw [decide_eq_false hy0] at VS
          go_wp2_with fail
          go_roundw
          case rel => exact ⟨k + 1, by go_num, by omega, VS.out⟩
          case measure => simp [intOf]; omega
end Go.Proofs.Ytgdfjblfpeedjaa
