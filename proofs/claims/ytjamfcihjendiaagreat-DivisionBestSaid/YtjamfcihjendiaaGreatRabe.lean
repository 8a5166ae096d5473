/- Several texts in one: Zg. -/
import Derived.Test.YtjamfcihjendiaaGreatRabd
import Derived.Test.YtjamfcihjendiaaGreatRaax
namespace Go.Proofs.YtjamfcihjendiaaGreat
open Go.RowKit
set_option linter.unusedVariables false
set_option linter.unusedSimpArgs false
set_option maxRecDepth 100000

abbrev EVal (g1 g3 g4 : Nat) : Value := .func (.func 36) #[] #[.pointer (some ⟨g1, 0, none⟩), .pointer (some ⟨g3, 0, none⟩), .pointer (some ⟨g4, 0, none⟩)]
def dvx (g : Nat) (Q : Option Addr) (q e : Nat) : Itm := box 27 g [.slice Q q e]
def exx (g1 g3 g4 : Nat) : Itm := box 73 g4 [EVal g1 g3 g4]
def wol (g : Nat) (L : List Sg) (u : List UInt8) (a b : Nat) (ok : Nat → Bool) : Itm := box 68 g (ints (oL L u a b ok))
theorem wol_at {W w : World} {l : List Itm} {i g : Nat} {L : List Sg} {u : List UInt8} {a b : Nat} {ok : Nat → Bool} (h : Hp W l w) (hi : l[i]? = some (wol g L u a b ok)) {c : Nat} (hc : c < 3) :
    w.cell? ⟨g, c, none⟩ = some (.int .i64 (oA L u a b ok c : Nat)) ∧ w.frozen? ⟨g, c, none⟩ = false ∧ g < w.heap.size := h.box_at hi (by unfold ints; rw [List.getElem?_map, oL_at L u a b ok hc]; rfl)
def ExtPost (W : World) (g1 g3 g4 : Nat) (D : Itm) (KK : List Itm) (R : List (List Nat)) (e : Ending) (w' : World) : Prop :=
  e = .returned (.tuple #[]) ∧ ∃ Q q e ps, ps.length = q ∧ ps.map (·.2) = R ∧ Hp W (dvx g3 Q q e :: hdrP Q q e ps :: exx g1 g3 g4 :: D :: (KK ++ rowP ps)) w'
set_option maxHeartbeats 8000000 in
theorem extend_end (nm : List UInt8) (L : List Sg) (A : Option Addr) (n c : Nat) (u : List UInt8) (g g1 g3 g4 : Nat) (W : World) (hv : (vO nm L).2 = 0) (hl : L.length = n) (hA : SgnIn W A L) (hS : SrAt W g nm A n c u (FB L u 0)) (hg1 : g1 < W.heap.size) (hp1 : W.cell? ⟨g1, 0, none⟩ = some (.pointer (some ⟨g, 0, none⟩))) (hu : u.length ≤ 16) :
    ∀ (at_ b : Nat) (ok : Nat → Bool) (C : Option Addr) (d : Nat) (p : List Nat) (Q : Option Addr) (q e : Nat) (ps : List Prow) (KK : List Itm) (w : World), at_ = u.length → b < 3 → p.length ≤ at_ → ps.length = q → q + (exL L (u.drop at_) b ok).length ≤ 200 →
      Hp W (dvx g3 Q q e :: hdrP Q q e ps :: exx g1 g3 g4 :: nums C p.length d (dI p) :: (KK ++ rowP ps)) w → Calls Tryz.prog 36 #[.slice C p.length d, .int .i64 (at_ : Int), .int .i64 (b : Int), .agg #[.int .i64 (oA L u at_ b ok 0 : Nat), .int .i64 (oA L u at_ b ok 1 : Nat), .int .i64 (oA L u at_ b ok 2 : Nat)], .pointer (some ⟨g1, 0, none⟩), .pointer (some ⟨g3, 0, none⟩), .pointer (some ⟨g4, 0, none⟩)] w (ExtPost W g1 g3 g4 (nums C p.length d (dI p)) KK (ps.map (·.2) ++ (exL L (u.drop at_) b ok).map (p ++ ·))) := by
  have HV := Lib.hid hv
  have HL := Lib.hid hl
  have HA := Lib.hid hA
  have HS := Lib.hid hS
  have HP1 := Lib.hid (And.intro hg1 hp1)
  have HSW := Lib.hid (And.intro hS.1 hS.2.2.2.1)
  have HSN := Lib.hid (And.intro hS.1 hS.2.2.1)
  have HNE := Lib.hid (TxNe.ok hv)
  have HSS := Lib.hid (show ∀ i, i < n → 0 < (sgAt L i).s.length from fun i hi => by have := sgn_bd hv (i := i) (by omega); omega)
  have hn120 : n ≤ 120 := by have := (vO_zero hv).2.2.1; omega
  obtain ⟨ul, hul⟩ : ∃ ul, ul = u.length := ⟨_, rfl⟩
  have HUL := Lib.hid hul
  have hsz : (bs u).size = ul := by rw [bs_size, hul]
  rw [← hul] at hu
  clear hv hl hA hS hg1 hp1 hul
  intro at_ b ok C d p Q q e ps KK w hat hb hpm hpl hq hV
  have HZ := Lib.hid (show (u.drop at_).length = 0 by rw [List.length_drop]; omega)
  have hat2 : at_ = ul := by rw [HUL.out]; exact hat
  have e0 : ((at_ : Int) == (ul : Int)) = true := beq_yes (by omega)
  have hp16 : p.length ≤ 16 := by omega
  have hq200 : q ≤ 200 := by omega
  clear hat hq
  have V0 := Lib.hid hV
  have HPL := Lib.hid hpl
  obtain ⟨g10, hg10⟩ : ∃ z, z = w.heap.size := ⟨_, rfl⟩
  obtain ⟨W1, hW1⟩ : ∃ z, z = w.alloc (.cells #[.int .i64 (oA L u at_ b ok 0 : Nat), .int .i64 (oA L u at_ b ok 1 : Nat), .int .i64 (oA L u at_ b ok 2 : Nat)] 68) := ⟨_, rfl⟩
  have V1 := Lib.hid (show Hp W (wol g10 L u at_ b ok :: dvx g3 Q q e :: hdrP Q q e ps :: exx g1 g3 g4 :: nums C p.length d (dI p) :: (KK ++ rowP ps)) W1 by rw [hW1, hg10]; exact V0.out.box_new _ _)
  have HW1 := Lib.hid hW1
  have HG10 := Lib.hid hg10
  have k1 := (V1.out.below.cell (p := ⟨g1, 0, none⟩) HP1.out.1).trans HP1.out.2
  have k1' := Nat.lt_of_lt_of_le HP1.out.1 V1.out.below.size
  have s2 := (V1.out.below.cell (p := ⟨g, 2, none⟩) HSW.out.1).trans HSW.out.2
  have s1 := (V1.out.below.cell (p := ⟨g, 1, none⟩) HSN.out.1).trans HSN.out.2
  have s2' := Nat.lt_of_lt_of_le HSW.out.1 V1.out.below.size
  clear hV hpl hW1 hg10 V0
  obtain ⟨y0, yf0, yg⟩ := wol_at V1.out (i := 0) rfl (show 0 < 3 by decide)
  have HOE := Lib.hid (oA_end (L := L) HZ.out b ok)
  obtain ⟨o0, ho0⟩ : ∃ z, z = oA L u at_ b ok 0 := ⟨_, rfl⟩
  rw [← ho0] at y0 HOE
  have HO0 := Lib.hid ho0
  clear hat2 ho0
  go_enter Tryz.func36, Tryz.ntmps36
  go_upto_region 1 with fail
  rw [← HW1.out, ← HG10.out]
  cases hok : ok 0 with
  | false =>
    have hz : o0 = 0 := HOE.out.2 hok
    have e1 : decide (0 < (o0 : Int)) = false := decide_eq_false (by omega)
    have e2 : decide (0 < o0) = false := decide_eq_false (by omega)
    have HE := Lib.hid (show exL L (u.drop at_) b ok = [] by rw [exL_end HZ.out, hok]; rfl)
    clear hz hok
    go_wp2_with fail
    refine bodyPost_ret (results_none rfl _ _ _) rfl ⟨rfl, Q, q, e, ps, HPL.out, by rw [HE.out]; simp, V1.out.tail⟩
  | true =>
    have hz : 0 < o0 := Nat.pos_of_ne_zero (fun h => by have := HOE.out.1 h; rw [hok] at this; cases this)
    have e1 : decide (0 < (o0 : Int)) = true := decide_eq_true (by omega)
    have e2 : decide (0 < o0) = true := decide_eq_true (by omega)
    have HE := Lib.hid (show exL L (u.drop at_) b ok = [[]] by rw [exL_end HZ.out, hok]; rfl)
    clear hz hok
    go_upto_region 3 with fail
    clear y0 yf0 yg k1 k1' s2 s2' s1
    have hKp : Keep [] W1 := fun _ h => by simp at h
    refine wp_region_held_drew (S := Keep _) (by kernel_rfl) hKp.drew (fun hHeld => ?_)
    obtain ⟨wf, hwf⟩ : ∃ z, z = W1.drew := ⟨_, rfl⟩
    have Vwf := Lib.hid (show Hp W (wol g10 L u at_ b ok :: dvx g3 Q q e :: hdrP Q q e ps :: exx g1 g3 g4 :: nums C p.length d (dI p) :: (KK ++ rowP ps)) wf by rw [hwf]; exact V1.out.go (bdrew _))
    have Bwf := Lib.hid (show Below W1.heap.size W1 wf by rw [hwf]; exact bdrew _)
    rw [← hwf] at hHeld ⊢
    clear hwf hKp
    refine tk 1 ?_ rfl ?_ ?_; rotate_left; focus (intro w hSw; clear hSw; go_simp; try (with_reducible rfl))
    try simp only [Act.put, sA, sZ, sS]
    refine wpAnyH_ready (rs := [0, 2]) (by kernel_rfl) (by simp) ?_
    refine AllReadyH.cons (List.getElem?_toArray.trans rfl) (fun K hK => ?_) ?_
    · have yL := (Vwf.out.box_at (i := 1) (j := 0) rfl rfl).1
      go_simp
      clear yL
      refine hK.out _ _ (hHeld) (fun hHeld => ?_)
      clear hK K
      try simp only [Act.put, sA, sZ, sS]
      refine wpAnyH_ready (rs := [2]) (by kernel_rfl) (by simp) ?_
      refine AllReadyH.cons (List.getElem?_toArray.trans rfl) (fun K hK => ?_) AllReadyH.nil
      go_simp
      refine (clone_nums (dI p) C p.length d W _ _ Vwf.out (dI_len p) (by omega) (Vwf.out.cells (i := 4) (it := nums C p.length d (dI p)) rfl (A := C) (c := d) rfl)).mono ?_
      rintro r w_0_2 ⟨C2, d2, rfl, hp2, hb⟩
      have V_0_2 := Lib.hid (show Hp W (nums C2 p.length d2 (dI p) :: wol g10 L u at_ b ok :: dvx g3 Q q e :: hdrP Q q e ps :: exx g1 g3 g4 :: nums C p.length d (dI p) :: (KK ++ rowP ps)) w_0_2 from hp2)
      have B_0_2 := Lib.hid hb
      clear hb hp2
      try go_wp2_with fail
      refine hK.out _ _ (hHeld.go B_0_2.out) (fun hHeld => ?_)
      clear hK K
      try simp only [Act.put, sA, sZ, sS]
      refine wpAnyH_ready (rs := [3]) (by kernel_rfl) (by simp) ?_
      refine AllReadyH.cons (List.getElem?_toArray.trans rfl) (fun K hK => ?_) AllReadyH.nil
      obtain ⟨w_0_2_3, hw_0_2_3⟩ : ∃ z, z = w_0_2.alloc (.cells #[.slice C2 p.length d2] 35) := ⟨_, rfl⟩
      obtain ⟨g_0_2_3, hg_0_2_3⟩ : ∃ z, z = w_0_2.heap.size := ⟨_, rfl⟩
      have V_0_2_3 := Lib.hid (show Hp W (hdrP (some ⟨g_0_2_3, 0, none⟩) 1 1 [((C2, d2), p)] :: nums C2 p.length d2 (dI p) :: wol g10 L u at_ b ok :: dvx g3 Q q e :: hdrP Q q e ps :: exx g1 g3 g4 :: nums C p.length d (dI p) :: (KK ++ rowP ps)) w_0_2_3 by rw [hw_0_2_3, hg_0_2_3]; exact V_0_2.out.lit 35 1 1 (rvP [((C2, d2), p)]) rfl (by decide))
      have B_0_2_3 := Lib.hid (show Below w_0_2.heap.size w_0_2 w_0_2_3 by rw [hw_0_2_3]; exact bnew _ _)
      have HW_0_2_3 := Lib.hid hw_0_2_3
      have HG_0_2_3 := Lib.hid hg_0_2_3
      clear hw_0_2_3 hg_0_2_3
      go_simp
      try rw [← HW_0_2_3.out]
      try rw [← HG_0_2_3.out]
      refine hK.out _ _ (hHeld.go B_0_2_3.out) (fun hHeld => ?_)
      clear hK K
      try simp only [Act.put, sA, sZ, sS]
      refine wpAnyH_ready (rs := [4]) (by kernel_rfl) (by simp) ?_
      refine AllReadyH.cons (List.getElem?_toArray.trans rfl) (fun K hK => ?_) AllReadyH.nil
      obtain ⟨A9, c9, w_0_2_3_4, hr_0_2_3_4, hv_0_2_3_4, _⟩ := run_cat_P V_0_2_3.out (i := 4) rfl 27 (B := some ⟨g_0_2_3, 0, none⟩) (m := 1) (d := 1) [((C2, d2), p)] rfl (V_0_2_3.out.cells (i := 0) (it := hdrP (some ⟨g_0_2_3, 0, none⟩) 1 1 [((C2, d2), p)]) rfl (A := some ⟨g_0_2_3, 0, none⟩) (c := 1) rfl) (by omega) (by omega)
      have R_0_2_3_4 := Lib.hid hr_0_2_3_4
      have V_0_2_3_4 := Lib.hid (show Hp W (hdrP (some ⟨g_0_2_3, 0, none⟩) 1 1 [((C2, d2), p)] :: nums C2 p.length d2 (dI p) :: wol g10 L u at_ b ok :: dvx g3 Q q e :: hdrP A9 (q + 1) c9 (ps ++ [((C2, d2), p)]) :: exx g1 g3 g4 :: nums C p.length d (dI p) :: (KK ++ rowP ps)) w_0_2_3_4 from hv_0_2_3_4)
      clear hr_0_2_3_4 hv_0_2_3_4
      refine step_app_run rfl (.tmp 23) (.tmp 26) 27 rfl R_0_2_3_4.out rfl rfl ?_
      refine hK.out _ _ (fun _ h => by simp at h) (fun hHeld => ?_)
      clear hK K
      try simp only [Act.put, sA, sZ, sS]
      refine wpAnyH_ready (rs := [5]) (by kernel_rfl) (by simp) ?_
      refine AllReadyH.cons (List.getElem?_toArray.trans rfl) (fun K hK => ?_) AllReadyH.nil
      obtain ⟨yk, fk, gk⟩ := V_0_2_3_4.out.box_at (i := 3) (j := 0) rfl rfl
      have V_0_2_3_4_5 := Lib.hid (show Hp W (hdrP (some ⟨g_0_2_3, 0, none⟩) 1 1 [((C2, d2), p)] :: nums C2 p.length d2 (dI p) :: wol g10 L u at_ b ok :: dvx g3 A9 (q + 1) c9 :: hdrP A9 (q + 1) c9 (ps ++ [((C2, d2), p)]) :: exx g1 g3 g4 :: nums C p.length d (dI p) :: (KK ++ rowP ps)) (w_0_2_3_4.setCell ⟨g3, 0, none⟩ (.slice A9 (q + 1) c9)) from V_0_2_3_4.out.box_set (i := 3) rfl 0 (.slice A9 (q + 1) c9))
      go_simp
      clear yk fk gk
      refine hK.out _ _ ((fun _ h => by simp at h)) (fun hHeld => ?_)
      clear hK K
      try simp only [Act.put, sA, sZ, sS]
      refine wpAnyH_done (by kernel_rfl) ?_ _
      have VZ := Lib.hid (show Hp W (hdrP (some ⟨g_0_2_3, 0, none⟩) 1 1 [((C2, d2), p)] :: wol g10 L u at_ b ok :: nums C2 p.length d2 (dI p) :: dvx g3 A9 (q + 1) c9 :: hdrP A9 (q + 1) c9 (ps ++ [((C2, d2), p)]) :: exx g1 g3 g4 :: nums C p.length d (dI p) :: (KK ++ rowP ps)) _ from (Hp.front (l := [_, _, _, _, _, _]) ((Hp.front (l := [_, _, _, _, _, _]) ((Hp.front (l := [_, _, _, _, _]) ((Hp.front (l := [_, _, _, _, _, _]) ((Hp.front (l := [_, _, _, _, _, _]) ((Hp.front (l := [_, _, _, _, _, _]) ((Hp.front (l := [_, _, _, _, _, _]) (V_0_2_3_4_5.out)))))))))))))))
      have VY := Lib.hid (show Hp W (dvx g3 A9 (q + 1) c9 :: hdrP A9 (q + 1) c9 (ps ++ [((C2, d2), p)]) :: exx g1 g3 g4 :: nums C p.length d (dI p) :: (KK ++ rowP (ps ++ [((C2, d2), p)]))) _ by rw [rowP_snoc, ← List.append_assoc]; have hz := Hp.sink (l := dvx g3 A9 (q + 1) c9 :: hdrP A9 (q + 1) c9 (ps ++ [((C2, d2), p)]) :: exx g1 g3 g4 :: nums C p.length d (dI p) :: (KK ++ rowP ps)) (l2 := []) (by rw [List.append_nil]; exact VZ.out.tail.tail); exact hz)
      clear hHeld
      go_wp2_with fail
      refine bodyPost_ret (results_none rfl _ _ _) rfl ⟨rfl, A9, q + 1, c9, ps ++ [((C2, d2), p)], by rw [List.length_append, HPL.out]; rfl, by rw [HE.out, List.map_append]; simp, VY.out⟩
    refine AllReadyH.cons (List.getElem?_toArray.trans rfl) (fun K hK => ?_) ?_
    · go_simp
      refine (clone_nums (dI p) C p.length d W _ _ Vwf.out (dI_len p) (by omega) (Vwf.out.cells (i := 4) (it := nums C p.length d (dI p)) rfl (A := C) (c := d) rfl)).mono ?_
      rintro r w_2 ⟨C2, d2, rfl, hp2, hb⟩
      have V_2 := Lib.hid (show Hp W (nums C2 p.length d2 (dI p) :: wol g10 L u at_ b ok :: dvx g3 Q q e :: hdrP Q q e ps :: exx g1 g3 g4 :: nums C p.length d (dI p) :: (KK ++ rowP ps)) w_2 from hp2)
      have B_2 := Lib.hid hb
      clear hb hp2
      try go_wp2_with fail
      refine hK.out _ _ (hHeld.go B_2.out) (fun hHeld => ?_)
      clear hK K
      try simp only [Act.put, sA, sZ, sS]
      refine wpAnyH_ready (rs := [0, 3]) (by kernel_rfl) (by simp) ?_
      refine AllReadyH.cons (List.getElem?_toArray.trans rfl) (fun K hK => ?_) ?_
      · have yL := (V_2.out.box_at (i := 2) (j := 0) rfl rfl).1
        go_simp
        clear yL
        refine hK.out _ _ (hHeld) (fun hHeld => ?_)
        clear hK K
        try simp only [Act.put, sA, sZ, sS]
        refine wpAnyH_ready (rs := [3]) (by kernel_rfl) (by simp) ?_
        refine AllReadyH.cons (List.getElem?_toArray.trans rfl) (fun K hK => ?_) AllReadyH.nil
        obtain ⟨w_2_0_3, hw_2_0_3⟩ : ∃ z, z = w_2.alloc (.cells #[.slice C2 p.length d2] 35) := ⟨_, rfl⟩
        obtain ⟨g_2_0_3, hg_2_0_3⟩ : ∃ z, z = w_2.heap.size := ⟨_, rfl⟩
        have V_2_0_3 := Lib.hid (show Hp W (hdrP (some ⟨g_2_0_3, 0, none⟩) 1 1 [((C2, d2), p)] :: nums C2 p.length d2 (dI p) :: wol g10 L u at_ b ok :: dvx g3 Q q e :: hdrP Q q e ps :: exx g1 g3 g4 :: nums C p.length d (dI p) :: (KK ++ rowP ps)) w_2_0_3 by rw [hw_2_0_3, hg_2_0_3]; exact V_2.out.lit 35 1 1 (rvP [((C2, d2), p)]) rfl (by decide))
        have B_2_0_3 := Lib.hid (show Below w_2.heap.size w_2 w_2_0_3 by rw [hw_2_0_3]; exact bnew _ _)
        have HW_2_0_3 := Lib.hid hw_2_0_3
        have HG_2_0_3 := Lib.hid hg_2_0_3
        clear hw_2_0_3 hg_2_0_3
        go_simp
        try rw [← HW_2_0_3.out]
        try rw [← HG_2_0_3.out]
        refine hK.out _ _ (hHeld.go B_2_0_3.out) (fun hHeld => ?_)
        clear hK K
        try simp only [Act.put, sA, sZ, sS]
        refine wpAnyH_ready (rs := [4]) (by kernel_rfl) (by simp) ?_
        refine AllReadyH.cons (List.getElem?_toArray.trans rfl) (fun K hK => ?_) AllReadyH.nil
        obtain ⟨A9, c9, w_2_0_3_4, hr_2_0_3_4, hv_2_0_3_4, _⟩ := run_cat_P V_2_0_3.out (i := 4) rfl 27 (B := some ⟨g_2_0_3, 0, none⟩) (m := 1) (d := 1) [((C2, d2), p)] rfl (V_2_0_3.out.cells (i := 0) (it := hdrP (some ⟨g_2_0_3, 0, none⟩) 1 1 [((C2, d2), p)]) rfl (A := some ⟨g_2_0_3, 0, none⟩) (c := 1) rfl) (by omega) (by omega)
        have R_2_0_3_4 := Lib.hid hr_2_0_3_4
        have V_2_0_3_4 := Lib.hid (show Hp W (hdrP (some ⟨g_2_0_3, 0, none⟩) 1 1 [((C2, d2), p)] :: nums C2 p.length d2 (dI p) :: wol g10 L u at_ b ok :: dvx g3 Q q e :: hdrP A9 (q + 1) c9 (ps ++ [((C2, d2), p)]) :: exx g1 g3 g4 :: nums C p.length d (dI p) :: (KK ++ rowP ps)) w_2_0_3_4 from hv_2_0_3_4)
        clear hr_2_0_3_4 hv_2_0_3_4
        refine step_app_run rfl (.tmp 23) (.tmp 26) 27 rfl R_2_0_3_4.out rfl rfl ?_
        refine hK.out _ _ (fun _ h => by simp at h) (fun hHeld => ?_)
        clear hK K
        try simp only [Act.put, sA, sZ, sS]
        refine wpAnyH_ready (rs := [5]) (by kernel_rfl) (by simp) ?_
        refine AllReadyH.cons (List.getElem?_toArray.trans rfl) (fun K hK => ?_) AllReadyH.nil
        obtain ⟨yk, fk, gk⟩ := V_2_0_3_4.out.box_at (i := 3) (j := 0) rfl rfl
        have V_2_0_3_4_5 := Lib.hid (show Hp W (hdrP (some ⟨g_2_0_3, 0, none⟩) 1 1 [((C2, d2), p)] :: nums C2 p.length d2 (dI p) :: wol g10 L u at_ b ok :: dvx g3 A9 (q + 1) c9 :: hdrP A9 (q + 1) c9 (ps ++ [((C2, d2), p)]) :: exx g1 g3 g4 :: nums C p.length d (dI p) :: (KK ++ rowP ps)) (w_2_0_3_4.setCell ⟨g3, 0, none⟩ (.slice A9 (q + 1) c9)) from V_2_0_3_4.out.box_set (i := 3) rfl 0 (.slice A9 (q + 1) c9))
        go_simp
        clear yk fk gk
        refine hK.out _ _ ((fun _ h => by simp at h)) (fun hHeld => ?_)
        clear hK K
        try simp only [Act.put, sA, sZ, sS]
        refine wpAnyH_done (by kernel_rfl) ?_ _
        have VZ := Lib.hid (show Hp W (hdrP (some ⟨g_2_0_3, 0, none⟩) 1 1 [((C2, d2), p)] :: wol g10 L u at_ b ok :: nums C2 p.length d2 (dI p) :: dvx g3 A9 (q + 1) c9 :: hdrP A9 (q + 1) c9 (ps ++ [((C2, d2), p)]) :: exx g1 g3 g4 :: nums C p.length d (dI p) :: (KK ++ rowP ps)) _ from (Hp.front (l := [_, _, _, _, _, _]) ((Hp.front (l := [_, _, _, _, _, _]) ((Hp.front (l := [_, _, _, _, _]) ((Hp.front (l := [_, _, _, _, _, _]) ((Hp.front (l := [_, _, _, _, _, _]) ((Hp.front (l := [_, _, _, _, _, _]) ((Hp.front (l := [_, _, _, _, _, _]) (V_2_0_3_4_5.out)))))))))))))))
        have VY := Lib.hid (show Hp W (dvx g3 A9 (q + 1) c9 :: hdrP A9 (q + 1) c9 (ps ++ [((C2, d2), p)]) :: exx g1 g3 g4 :: nums C p.length d (dI p) :: (KK ++ rowP (ps ++ [((C2, d2), p)]))) _ by rw [rowP_snoc, ← List.append_assoc]; have hz := Hp.sink (l := dvx g3 A9 (q + 1) c9 :: hdrP A9 (q + 1) c9 (ps ++ [((C2, d2), p)]) :: exx g1 g3 g4 :: nums C p.length d (dI p) :: (KK ++ rowP ps)) (l2 := []) (by rw [List.append_nil]; exact VZ.out.tail.tail); exact hz)
        clear hHeld
        go_wp2_with fail
        refine bodyPost_ret (results_none rfl _ _ _) rfl ⟨rfl, A9, q + 1, c9, ps ++ [((C2, d2), p)], by rw [List.length_append, HPL.out]; rfl, by rw [HE.out, List.map_append]; simp, VY.out⟩
      refine AllReadyH.cons (List.getElem?_toArray.trans rfl) (fun K hK => ?_) ?_
      · obtain ⟨w_2_3, hw_2_3⟩ : ∃ z, z = w_2.alloc (.cells #[.slice C2 p.length d2] 35) := ⟨_, rfl⟩
        obtain ⟨g_2_3, hg_2_3⟩ : ∃ z, z = w_2.heap.size := ⟨_, rfl⟩
        have V_2_3 := Lib.hid (show Hp W (hdrP (some ⟨g_2_3, 0, none⟩) 1 1 [((C2, d2), p)] :: nums C2 p.length d2 (dI p) :: wol g10 L u at_ b ok :: dvx g3 Q q e :: hdrP Q q e ps :: exx g1 g3 g4 :: nums C p.length d (dI p) :: (KK ++ rowP ps)) w_2_3 by rw [hw_2_3, hg_2_3]; exact V_2.out.lit 35 1 1 (rvP [((C2, d2), p)]) rfl (by decide))
        have B_2_3 := Lib.hid (show Below w_2.heap.size w_2 w_2_3 by rw [hw_2_3]; exact bnew _ _)
        have HW_2_3 := Lib.hid hw_2_3
        have HG_2_3 := Lib.hid hg_2_3
        clear hw_2_3 hg_2_3
        go_simp
        try rw [← HW_2_3.out]
        try rw [← HG_2_3.out]
        refine hK.out _ _ (hHeld.go B_2_3.out) (fun hHeld => ?_)
        clear hK K
        try simp only [Act.put, sA, sZ, sS]
        refine wpAnyH_ready (rs := [0]) (by kernel_rfl) (by simp) ?_
        refine AllReadyH.cons (List.getElem?_toArray.trans rfl) (fun K hK => ?_) AllReadyH.nil
        have yL := (V_2_3.out.box_at (i := 3) (j := 0) rfl rfl).1
        go_simp
        clear yL
        refine hK.out _ _ (hHeld) (fun hHeld => ?_)
        clear hK K
        try simp only [Act.put, sA, sZ, sS]
        refine wpAnyH_ready (rs := [4]) (by kernel_rfl) (by simp) ?_
        refine AllReadyH.cons (List.getElem?_toArray.trans rfl) (fun K hK => ?_) AllReadyH.nil
        obtain ⟨A9, c9, w_2_3_0_4, hr_2_3_0_4, hv_2_3_0_4, _⟩ := run_cat_P V_2_3.out (i := 4) rfl 27 (B := some ⟨g_2_3, 0, none⟩) (m := 1) (d := 1) [((C2, d2), p)] rfl (V_2_3.out.cells (i := 0) (it := hdrP (some ⟨g_2_3, 0, none⟩) 1 1 [((C2, d2), p)]) rfl (A := some ⟨g_2_3, 0, none⟩) (c := 1) rfl) (by omega) (by omega)
        have R_2_3_0_4 := Lib.hid hr_2_3_0_4
        have V_2_3_0_4 := Lib.hid (show Hp W (hdrP (some ⟨g_2_3, 0, none⟩) 1 1 [((C2, d2), p)] :: nums C2 p.length d2 (dI p) :: wol g10 L u at_ b ok :: dvx g3 Q q e :: hdrP A9 (q + 1) c9 (ps ++ [((C2, d2), p)]) :: exx g1 g3 g4 :: nums C p.length d (dI p) :: (KK ++ rowP ps)) w_2_3_0_4 from hv_2_3_0_4)
        clear hr_2_3_0_4 hv_2_3_0_4
        refine step_app_run rfl (.tmp 23) (.tmp 26) 27 rfl R_2_3_0_4.out rfl rfl ?_
        refine hK.out _ _ (fun _ h => by simp at h) (fun hHeld => ?_)
        clear hK K
        try simp only [Act.put, sA, sZ, sS]
        refine wpAnyH_ready (rs := [5]) (by kernel_rfl) (by simp) ?_
        refine AllReadyH.cons (List.getElem?_toArray.trans rfl) (fun K hK => ?_) AllReadyH.nil
        obtain ⟨yk, fk, gk⟩ := V_2_3_0_4.out.box_at (i := 3) (j := 0) rfl rfl
        have V_2_3_0_4_5 := Lib.hid (show Hp W (hdrP (some ⟨g_2_3, 0, none⟩) 1 1 [((C2, d2), p)] :: nums C2 p.length d2 (dI p) :: wol g10 L u at_ b ok :: dvx g3 A9 (q + 1) c9 :: hdrP A9 (q + 1) c9 (ps ++ [((C2, d2), p)]) :: exx g1 g3 g4 :: nums C p.length d (dI p) :: (KK ++ rowP ps)) (w_2_3_0_4.setCell ⟨g3, 0, none⟩ (.slice A9 (q + 1) c9)) from V_2_3_0_4.out.box_set (i := 3) rfl 0 (.slice A9 (q + 1) c9))
        go_simp
        clear yk fk gk
        refine hK.out _ _ ((fun _ h => by simp at h)) (fun hHeld => ?_)
        clear hK K
        try simp only [Act.put, sA, sZ, sS]
        refine wpAnyH_done (by kernel_rfl) ?_ _
        have VZ := Lib.hid (show Hp W (hdrP (some ⟨g_2_3, 0, none⟩) 1 1 [((C2, d2), p)] :: wol g10 L u at_ b ok :: nums C2 p.length d2 (dI p) :: dvx g3 A9 (q + 1) c9 :: hdrP A9 (q + 1) c9 (ps ++ [((C2, d2), p)]) :: exx g1 g3 g4 :: nums C p.length d (dI p) :: (KK ++ rowP ps)) _ from (Hp.front (l := [_, _, _, _, _, _]) ((Hp.front (l := [_, _, _, _, _, _]) ((Hp.front (l := [_, _, _, _, _]) ((Hp.front (l := [_, _, _, _, _, _]) ((Hp.front (l := [_, _, _, _, _, _]) ((Hp.front (l := [_, _, _, _, _, _]) ((Hp.front (l := [_, _, _, _, _, _]) (V_2_3_0_4_5.out)))))))))))))))
        have VY := Lib.hid (show Hp W (dvx g3 A9 (q + 1) c9 :: hdrP A9 (q + 1) c9 (ps ++ [((C2, d2), p)]) :: exx g1 g3 g4 :: nums C p.length d (dI p) :: (KK ++ rowP (ps ++ [((C2, d2), p)]))) _ by rw [rowP_snoc, ← List.append_assoc]; have hz := Hp.sink (l := dvx g3 A9 (q + 1) c9 :: hdrP A9 (q + 1) c9 (ps ++ [((C2, d2), p)]) :: exx g1 g3 g4 :: nums C p.length d (dI p) :: (KK ++ rowP ps)) (l2 := []) (by rw [List.append_nil]; exact VZ.out.tail.tail); exact hz)
        clear hHeld
        go_wp2_with fail
        refine bodyPost_ret (results_none rfl _ _ _) rfl ⟨rfl, A9, q + 1, c9, ps ++ [((C2, d2), p)], by rw [List.length_append, HPL.out]; rfl, by rw [HE.out, List.map_append]; simp, VY.out⟩
      exact AllReadyH.nil
    exact AllReadyH.nil
set_option maxHeartbeats 4000000 in
theorem extend_any (nm : List UInt8) (L : List Sg) (A : Option Addr) (n c : Nat) (u : List UInt8) (g g1 g3 g4 : Nat) (W : World) (hv : (vO nm L).2 = 0) (hl : L.length = n) (hA : SgnIn W A L) (hS : SrAt W g nm A n c u (FB L u 0)) (hg1 : g1 < W.heap.size) (hp1 : W.cell? ⟨g1, 0, none⟩ = some (.pointer (some ⟨g, 0, none⟩))) (hu : u.length ≤ 16) :
    ∀ (fu : Nat) (at_ b : Nat) (ok : Nat → Bool) (C : Option Addr) (d : Nat) (p : List Nat) (Q : Option Addr) (q e : Nat) (ps : List Prow) (KK : List Itm) (w : World), u.length - at_ ≤ fu → at_ ≤ u.length → b < 3 → p.length ≤ at_ → ps.length = q → q + (exL L (u.drop at_) b ok).length ≤ 200 →
      Hp W (dvx g3 Q q e :: hdrP Q q e ps :: exx g1 g3 g4 :: nums C p.length d (dI p) :: (KK ++ rowP ps)) w → Calls Tryz.prog 36 #[.slice C p.length d, .int .i64 (at_ : Int), .int .i64 (b : Int), .agg #[.int .i64 (oA L u at_ b ok 0 : Nat), .int .i64 (oA L u at_ b ok 1 : Nat), .int .i64 (oA L u at_ b ok 2 : Nat)], .pointer (some ⟨g1, 0, none⟩), .pointer (some ⟨g3, 0, none⟩), .pointer (some ⟨g4, 0, none⟩)] w (ExtPost W g1 g3 g4 (nums C p.length d (dI p)) KK (ps.map (·.2) ++ (exL L (u.drop at_) b ok).map (p ++ ·))) := by
  have HEND := Lib.hid (extend_end nm L A n c u g g1 g3 g4 W hv hl hA hS hg1 hp1 hu)
  have HV := Lib.hid hv
  have HL := Lib.hid hl
  have HA := Lib.hid hA
  have HS := Lib.hid hS
  have HP1 := Lib.hid (And.intro hg1 hp1)
  have HSW := Lib.hid (And.intro hS.1 hS.2.2.2.1)
  have HSN := Lib.hid (And.intro hS.1 hS.2.2.1)
  have HNE := Lib.hid (TxNe.ok hv)
  have HSS := Lib.hid (show ∀ i, i < n → 0 < (sgAt L i).s.length from fun i hi => by have := sgn_bd hv (i := i) (by omega); omega)
  have hn120 : n ≤ 120 := by have := (vO_zero hv).2.2.1; omega
  obtain ⟨ul, hul⟩ : ∃ ul, ul = u.length := ⟨_, rfl⟩
  have HUL := Lib.hid hul
  have hsz : (bs u).size = ul := by rw [bs_size, hul]
  rw [← hul] at hu
  clear hv hl hA hS hg1 hp1 hul
  intro fu
  induction fu with
  | zero =>
    intro at_ b ok C d p Q q e ps KK w hfu hat hb hpm hpl hq hV
    exact HEND.out at_ b ok C d p Q q e ps KK w (by have := HUL.out; omega) hb hpm hpl hq hV
  | succ fu ih =>
  intro at_ b ok C d p Q q e ps KK w hfu hat hb hpm hpl hq hV
  by_cases hend : at_ = u.length
  · exact HEND.out at_ b ok C d p Q q e ps KK w hend hb hpm hpl hq hV
  have IH := Lib.hid ih
  have hat2 : at_ < ul := by have := HUL.out; omega
  have hfu2 : ul - at_ ≤ fu + 1 := by have := HUL.out; omega
  have e0 : ((at_ : Int) == (ul : Int)) = false := beq_no (by omega)
  have HNZ := Lib.hid (show ¬ (u.drop at_).length = 0 by rw [List.length_drop]; omega)
  have HX := Lib.hid (exL_on (L := L) (b := b) (ok := ok) HNZ.out)
  have hp16 : p.length ≤ 16 := by omega
  have HQ := Lib.hid (show ps.length + (exI L (u.drop at_) b ok (stL L (u.drop at_))).length ≤ 200 by rw [hpl, ← HX.out]; exact hq)
  clear hend hat hq ih hfu
  have V0 := Lib.hid hV
  have HPL := Lib.hid hpl
  obtain ⟨g10, hg10⟩ : ∃ z, z = w.heap.size := ⟨_, rfl⟩
  obtain ⟨W1, hW1⟩ : ∃ z, z = w.alloc (.cells #[.int .i64 (oA L u at_ b ok 0 : Nat), .int .i64 (oA L u at_ b ok 1 : Nat), .int .i64 (oA L u at_ b ok 2 : Nat)] 68) := ⟨_, rfl⟩
  have V1 := Lib.hid (show Hp W (wol g10 L u at_ b ok :: dvx g3 Q q e :: hdrP Q q e ps :: exx g1 g3 g4 :: nums C p.length d (dI p) :: (KK ++ rowP ps)) W1 by rw [hW1, hg10]; exact V0.out.box_new _ _)
  have HW1 := Lib.hid hW1
  have HG10 := Lib.hid hg10
  have k1 := (V1.out.below.cell (p := ⟨g1, 0, none⟩) HP1.out.1).trans HP1.out.2
  have k1' := Nat.lt_of_lt_of_le HP1.out.1 V1.out.below.size
  have s2 := (V1.out.below.cell (p := ⟨g, 2, none⟩) HSW.out.1).trans HSW.out.2
  have s1 := (V1.out.below.cell (p := ⟨g, 1, none⟩) HSN.out.1).trans HSN.out.2
  have s2' := Nat.lt_of_lt_of_le HSW.out.1 V1.out.below.size
  clear hV hpl hW1 hg10 V0
  have V2 := Lib.hid (show Hp W (dvx g3 Q q e :: hdrP Q q e ps :: exx g1 g3 g4 :: nums C p.length d (dI p) :: ((wol g10 L u at_ b ok :: KK) ++ rowP ps)) W1 from Hp.sink (l := [dvx g3 Q q e, hdrP Q q e ps, exx g1 g3 g4, nums C p.length d (dI p)]) (l2 := KK ++ rowP ps) V1.out)
  clear V1
  go_enter Tryz.func36, Tryz.ntmps36
  go_upto_region 1 with fail
  rw [← HW1.out, ← HG10.out]
  go_wp2_with fail
  clear k1 k1' s1 s2 s2' e0
  obtain ⟨ps0, hps0⟩ : ∃ z, z = ps := ⟨_, rfl⟩
  have HPS0 := Lib.hid hps0
  go_loopw [34] (fun iv wr => ∃ (k : Nat) (Q : Option Addr) (q e : Nat) (ps2 : List Prow), k ≤ n ∧ iv = .int .i64 (k : Int) ∧ ps2.length = q ∧ ps2.map (·.2) = ps.map (·.2) ++ (exI L (u.drop at_) b ok (stK L (u.drop at_) k)).map (p ++ ·) ∧ Hp W (dvx g3 Q q e :: hdrP Q q e ps2 :: exx g1 g3 g4 :: nums C p.length d (dI p) :: ((wol g10 L u at_ b ok :: KK) ++ rowP ps2)) wr) (fun iv _ => n - (intOf iv).toNat)
  case atStart => exact ⟨0, Q, q, e, ps, Nat.zero_le _, rfl, HPL.out, by rw [exI_zero]; simp, V2.out⟩
  case round =>
    clear V2 HPL hps0 HPS0
    obtain ⟨k, Q, q, e, ps2, hk, rfl, hpl2, hpe2, hV⟩ := hrel
    obtain ⟨wi, rfl⟩ : ∃ wi : World, wi = wr := ⟨_, rfl⟩
    have V3 := Lib.hid hV
    have HPL := Lib.hid hpl2
    have HPE := Lib.hid hpe2
    clear hV hpl2 hpe2
    by_cases hkn : k < n
    case neg =>
      have HE := Lib.hid (show ps2.map (·.2) = ps.map (·.2) ++ (exL L (u.drop at_) b ok).map (p ++ ·) by rw [HPE.out, HX.out, show k = L.length by have := HL.out; omega, stK_all])
      have V4 := Lib.hid (show Hp W (dvx g3 Q q e :: hdrP Q q e ps2 :: exx g1 g3 g4 :: nums C p.length d (dI p) :: (KK ++ rowP ps2)) wi from Hp.out1 (a := [dvx g3 Q q e, hdrP Q q e ps2, exx g1 g3 g4, nums C p.length d (dI p)]) V3.out)
      go_wp2_with fail
      exact bodyPost_end (results_none rfl _ _ _) rfl ⟨rfl, Q, q, e, ps2, HPL.out, HE.out, V4.out⟩
    obtain ⟨x, hx⟩ := get_at (L := L) (k := k) (by have := HL.out; omega)
    obtain ⟨b0, off, Aj, cj, hAe, hb0', c0', c1', c2', c3', c4'⟩ := HA.out.at hx
    have HAE := Lib.hid hAe
    have HXS := Lib.hid (sgAt_is hx)
    have HCX := Lib.hid (fun (w' : World) (hb : Below W.heap.size W w') => c4'.below hb)
    have hb0 := Nat.lt_of_lt_of_le hb0' V3.out.below.size
    have c0 := (V3.out.below.cell (p := ⟨b0, off + k * 4, none⟩) hb0').trans c0'
    have c1 := (V3.out.below.cell (p := ⟨b0, off + k * 4 + 1, none⟩) hb0').trans c1'
    have c2 := (V3.out.below.cell (p := ⟨b0, off + k * 4 + 2, none⟩) hb0').trans c2'
    have c3 := (V3.out.below.cell (p := ⟨b0, off + k * 4 + 3, none⟩) hb0').trans c3'
    have hxs : 0 < x.s.length ∧ x.s.length ≤ 2 := by have := sgn_bd HV.out (i := k) (by have := HL.out; omega); rw [sgAt_is hx] at this; omega
    have hxt : 0 < x.t.length := by have := sgn_bd HV.out (i := k) (by have := HL.out; omega); rw [sgAt_is hx] at this; omega
    have hk4 : k * 4 ≤ 480 := by omega
    subst hAe
    obtain ⟨g5, hg5⟩ : ∃ z, z = wi.heap.size := ⟨_, rfl⟩
    obtain ⟨W2, hW2⟩ : ∃ z, z = wi.alloc (.cells #[.string (bs x.t), .slice Aj x.s.length cj, .int .i64 x.c, .int .i64 x.w] 64) := ⟨_, rfl⟩
    have V4 := Lib.hid (show Hp W (sgbox g5 (Aj, cj) x :: dvx g3 Q q e :: hdrP Q q e ps2 :: exx g1 g3 g4 :: nums C p.length d (dI p) :: ((wol g10 L u at_ b ok :: KK) ++ rowP ps2)) W2 by rw [hW2, hg5]; exact V3.out.sgbox_new Aj cj x)
    have HW2 := Lib.hid hW2
    have HG5 := Lib.hid hg5
    clear hW2 hg5 hb0' c0' c1' c2' c3' c4' hx
    obtain ⟨fs, hfs⟩ : ∃ z, z = fsK L k := ⟨_, rfl⟩
    have hfs3 : fs < 3 := by rw [hfs]; exact fsK_lt L k
    have HKF := Lib.hid (show kC (begB x.s) = fs by rw [hfs, ← kC_fs, HXS.out])
    have HFS := Lib.hid hfs
    have hfsI : (fs : Int) < 3 := by omega
    obtain ⟨ov, hov⟩ : ∃ z, z = oA L u at_ b ok fs := ⟨_, rfl⟩
    have HOV := Lib.hid hov
    have HOC := Lib.hid (fun (w' : World) (h' : Hp W (sgbox g5 (Aj, cj) x :: dvx g3 Q q e :: hdrP Q q e ps2 :: exx g1 g3 g4 :: nums C p.length d (dI p) :: ((wol g10 L u at_ b ok :: KK) ++ rowP ps2)) w') => (show w'.cell? ⟨g10, fs, none⟩ = some (.int .i64 (ov : Int)) ∧ g10 < w'.heap.size by rw [hov]; exact ⟨(wol_at h' (i := 5) rfl hfs3).1, (wol_at h' (i := 5) rfl hfs3).2.2⟩))
    clear hfs hov
    go_upto_region 7 with fail
    rw [← HG5.out, ← HW2.out]
    clear hb0 c0 c1 c2 c3 V3
    have hpi0 : (0 : Int) ≤ (at_ : Int) := by omega
    have hpi1 : (at_ : Int) ≤ (ul : Int) := by omega
    have hpi2 : (ul : Int) ≤ (ul : Int) := by omega
    by_cases hz : ov = 0
    · have e1 : decide (0 < (ov : Int)) = false := decide_eq_false (by omega)
      have e2 : decide (0 < ov) = false := decide_eq_false (by omega)
      have HN := Lib.hid (exI_none (L := L) (u := u) (a := at_) (b := b) (ok := ok) (k := k) (by have := HL.out; omega) HNZ.out (by rw [← HFS.out, ← HOV.out]; exact hz))
      clear hz
      have hKp : Keep [(⟨g5, 0, none⟩, .string (bs x.t)), (⟨g5, 1, none⟩, .slice Aj x.s.length cj), (⟨g5, 2, none⟩, .int .i64 x.c), (⟨g5, 3, none⟩, .int .i64 x.w), (⟨g10, fs, none⟩, .int .i64 (ov : Int)), (⟨g1, 0, none⟩, .pointer (some ⟨g, 0, none⟩)), (⟨g, 2, none⟩, .string (bs u))] W2 := List.forall_mem_cons.2 ⟨⟨(V4.out.box_at (i := 0) (j := 0) rfl rfl).1, (V4.out.box_at (i := 0) (j := 0) rfl rfl).2.2⟩, List.forall_mem_cons.2 ⟨⟨(V4.out.box_at (i := 0) (j := 1) rfl rfl).1, (V4.out.box_at (i := 0) (j := 1) rfl rfl).2.2⟩, List.forall_mem_cons.2 ⟨⟨(V4.out.box_at (i := 0) (j := 2) rfl rfl).1, (V4.out.box_at (i := 0) (j := 2) rfl rfl).2.2⟩, List.forall_mem_cons.2 ⟨⟨(V4.out.box_at (i := 0) (j := 3) rfl rfl).1, (V4.out.box_at (i := 0) (j := 3) rfl rfl).2.2⟩, List.forall_mem_cons.2 ⟨⟨(HOC.out _ V4.out).1, (HOC.out _ V4.out).2⟩, List.forall_mem_cons.2 ⟨⟨(V4.out.below.cell (p := ⟨g1, 0, none⟩) HP1.out.1).trans HP1.out.2, Nat.lt_of_lt_of_le HP1.out.1 V4.out.below.size⟩, List.forall_mem_cons.2 ⟨⟨(V4.out.below.cell (p := ⟨g, 2, none⟩) HSW.out.1).trans HSW.out.2, Nat.lt_of_lt_of_le HSW.out.1 V4.out.below.size⟩, fun _ h => by simp at h⟩⟩⟩⟩⟩⟩⟩
      refine wp_region_held_drew (S := Keep _) (by kernel_rfl) hKp.drew (fun hHeld => ?_)
      obtain ⟨wf, hwf⟩ : ∃ z, z = W2.drew := ⟨_, rfl⟩
      have Vwf := Lib.hid (show Hp W (sgbox g5 (Aj, cj) x :: dvx g3 Q q e :: hdrP Q q e ps2 :: exx g1 g3 g4 :: nums C p.length d (dI p) :: ((wol g10 L u at_ b ok :: KK) ++ rowP ps2)) wf by rw [hwf]; exact V4.out.go (bdrew _))
      have Bwf := Lib.hid (show Below W2.heap.size W2 wf by rw [hwf]; exact bdrew _)
      rw [← hwf] at hHeld ⊢
      clear hwf hKp
      refine tk 0 ?_ rfl ?_ ?_; rotate_left
      · intro wl hSw
        have hSw : Keep _ wl := hSw
        have k0 := (hSw _ (.head _)).1
        have k1 := (hSw _ (.tail _ (.head _))).1
        have k2 := (hSw _ (.tail _ (.tail _ (.head _)))).1
        have k3 := (hSw _ (.tail _ (.tail _ (.tail _ (.head _))))).1
        dsimp only at k0 k1 k2 k3
        clear hSw
        go_simp
        try (with_reducible rfl)
      try simp only [Act.put, sA, sZ, sS]
      refine wpAnyH_ready (rs := [1]) (by kernel_rfl) (by simp) ?_
      refine AllReadyH.cons (List.getElem?_toArray.trans rfl) (fun K hK => ?_) AllReadyH.nil
      go_simp
      refine (firstP_any x Aj cj _ hxs.1 (by omega) (HCX.out _ Vwf.out.below)).mono ?_
      rintro r w_1 ⟨rfl, hb⟩
      rw [HKF.out]
      have V_1 := Lib.hid (Vwf.out.go hb)
      have B_1 := Lib.hid hb
      clear hb
      try go_wp2_with fail
      refine hK.out _ _ (hHeld.go B_1.out) (fun hHeld => ?_)
      clear hK K
      try simp only [Act.put, sA, sZ, sS]
      refine tk 2 ?_ rfl ?_ ?_; rotate_left; focus (intro w hSw; clear hSw; go_simp; try (with_reducible rfl))
      try simp only [Act.put, sA, sZ, sS]
      refine tk 3 ?_ rfl ?_ ?_; rotate_left
      · intro wl hSw
        have hSw : Keep _ wl := hSw
        have k0 := (hSw _ (.tail _ (.tail _ (.tail _ (.tail _ (.head _)))))).1
        dsimp only at k0
        clear hSw
        go_simp
        try (with_reducible rfl)
      try simp only [Act.put, sA, sZ, sS]
      refine tk 4 ?_ rfl ?_ ?_; rotate_left; focus (intro w hSw; clear hSw; go_simp; try (with_reducible rfl))
      try simp only [Act.put, sA, sZ, sS]
      refine tk 5 ?_ rfl ?_ ?_; rotate_left; focus (intro w hSw; clear hSw; go_simp; try (with_reducible rfl))
      try simp only [Act.put, sA, sZ, sS]
      refine tu 6 rfl ?_
      try simp only [Act.put, sA, sZ, sS]
      refine tu 7 rfl ?_
      try simp only [Act.put, sA, sZ, sS]
      refine tu 8 rfl ?_
      try simp only [Act.put, sA, sZ, sS]
      refine tu 9 rfl ?_
      try simp only [Act.put, sA, sZ, sS]
      refine tu 10 rfl ?_
      try simp only [Act.put, sA, sZ, sS]
      refine tu 11 rfl ?_
      try simp only [Act.put, sA, sZ, sS]
      refine tu 12 rfl ?_
      try simp only [Act.put, sA, sZ, sS]
      refine tu 13 rfl ?_
      try simp only [Act.put, sA, sZ, sS]
      refine tu 14 rfl ?_
      try simp only [Act.put, sA, sZ, sS]
      refine tk 15 ?_ rfl ?_ ?_; rotate_left; focus (intro w hSw; clear hSw; go_simp; try (with_reducible rfl))
      try simp only [Act.put, sA, sZ, sS]
      refine wpAnyH_done (by kernel_rfl) ?_ _
      clear hHeld
      have VE := Lib.hid (show Hp W (dvx g3 Q q e :: hdrP Q q e ps2 :: exx g1 g3 g4 :: nums C p.length d (dI p) :: ((wol g10 L u at_ b ok :: KK) ++ rowP ps2)) _ from V_1.out.tail)
      go_wp2_with fail
      go_roundw
      case rel => exact ⟨k + 1, Q, q, e, ps2, by omega, by go_num, HPL.out, by rw [HN.out]; exact HPE.out, VE.out⟩
      case measure => simp [intOf]; omega
    have e1 : decide (0 < (ov : Int)) = true := decide_eq_true (by omega)
    have e2 : decide (0 < ov) = true := decide_eq_true (by omega)
    have HOK := Lib.hid (show ok (fsK L k) = true by
      rw [← HFS.out]
      cases h : ok fs with
      | true => rfl
      | false => exact absurd (by rw [HOV.out]; unfold oA; rw [h]; rfl) hz)
    clear hz
    cases hpf : x.t.isPrefixOf (u.drop at_) with
    | false =>
      have HP := Lib.hid (show Lib.hasPrefix ((bs u).extract at_ ul).data.toList (bs x.t).data.toList = false by have h := has_at (a := at_) (t := x.t) (rfl : bs u = bs u); rw [hsz] at h; rw [h]; exact hpf)
      have HN := Lib.hid (exI_skip (L := L) (v := u.drop at_) (b := b) (ok := ok) (k := k) (by rw [HXS.out]; exact hpf))
      clear hpf
      have hKp : Keep [(⟨g5, 0, none⟩, .string (bs x.t)), (⟨g5, 1, none⟩, .slice Aj x.s.length cj), (⟨g5, 2, none⟩, .int .i64 x.c), (⟨g5, 3, none⟩, .int .i64 x.w), (⟨g10, fs, none⟩, .int .i64 (ov : Int)), (⟨g1, 0, none⟩, .pointer (some ⟨g, 0, none⟩)), (⟨g, 2, none⟩, .string (bs u))] W2 := List.forall_mem_cons.2 ⟨⟨(V4.out.box_at (i := 0) (j := 0) rfl rfl).1, (V4.out.box_at (i := 0) (j := 0) rfl rfl).2.2⟩, List.forall_mem_cons.2 ⟨⟨(V4.out.box_at (i := 0) (j := 1) rfl rfl).1, (V4.out.box_at (i := 0) (j := 1) rfl rfl).2.2⟩, List.forall_mem_cons.2 ⟨⟨(V4.out.box_at (i := 0) (j := 2) rfl rfl).1, (V4.out.box_at (i := 0) (j := 2) rfl rfl).2.2⟩, List.forall_mem_cons.2 ⟨⟨(V4.out.box_at (i := 0) (j := 3) rfl rfl).1, (V4.out.box_at (i := 0) (j := 3) rfl rfl).2.2⟩, List.forall_mem_cons.2 ⟨⟨(HOC.out _ V4.out).1, (HOC.out _ V4.out).2⟩, List.forall_mem_cons.2 ⟨⟨(V4.out.below.cell (p := ⟨g1, 0, none⟩) HP1.out.1).trans HP1.out.2, Nat.lt_of_lt_of_le HP1.out.1 V4.out.below.size⟩, List.forall_mem_cons.2 ⟨⟨(V4.out.below.cell (p := ⟨g, 2, none⟩) HSW.out.1).trans HSW.out.2, Nat.lt_of_lt_of_le HSW.out.1 V4.out.below.size⟩, fun _ h => by simp at h⟩⟩⟩⟩⟩⟩⟩
      refine wp_region_held_drew (S := Keep _) (by kernel_rfl) hKp.drew (fun hHeld => ?_)
      obtain ⟨wf, hwf⟩ : ∃ z, z = W2.drew := ⟨_, rfl⟩
      have Vwf := Lib.hid (show Hp W (sgbox g5 (Aj, cj) x :: dvx g3 Q q e :: hdrP Q q e ps2 :: exx g1 g3 g4 :: nums C p.length d (dI p) :: ((wol g10 L u at_ b ok :: KK) ++ rowP ps2)) wf by rw [hwf]; exact V4.out.go (bdrew _))
      have Bwf := Lib.hid (show Below W2.heap.size W2 wf by rw [hwf]; exact bdrew _)
      rw [← hwf] at hHeld ⊢
      clear hwf hKp
      refine tk 0 ?_ rfl ?_ ?_; rotate_left
      · intro wl hSw
        have hSw : Keep _ wl := hSw
        have k0 := (hSw _ (.head _)).1
        have k1 := (hSw _ (.tail _ (.head _))).1
        have k2 := (hSw _ (.tail _ (.tail _ (.head _)))).1
        have k3 := (hSw _ (.tail _ (.tail _ (.tail _ (.head _))))).1
        dsimp only at k0 k1 k2 k3
        clear hSw
        go_simp
        try (with_reducible rfl)
      try simp only [Act.put, sA, sZ, sS]
      refine wpAnyH_ready (rs := [1]) (by kernel_rfl) (by simp) ?_
      refine AllReadyH.cons (List.getElem?_toArray.trans rfl) (fun K hK => ?_) AllReadyH.nil
      go_simp
      refine (firstP_any x Aj cj _ hxs.1 (by omega) (HCX.out _ Vwf.out.below)).mono ?_
      rintro r w_1 ⟨rfl, hb⟩
      rw [HKF.out]
      have V_1 := Lib.hid (Vwf.out.go hb)
      have B_1 := Lib.hid hb
      clear hb
      try go_wp2_with fail
      refine hK.out _ _ (hHeld.go B_1.out) (fun hHeld => ?_)
      clear hK K
      try simp only [Act.put, sA, sZ, sS]
      refine tk 2 ?_ rfl ?_ ?_; rotate_left; focus (intro w hSw; clear hSw; go_simp; try (with_reducible rfl))
      try simp only [Act.put, sA, sZ, sS]
      refine tk 3 ?_ rfl ?_ ?_; rotate_left
      · intro wl hSw
        have hSw : Keep _ wl := hSw
        have k0 := (hSw _ (.tail _ (.tail _ (.tail _ (.tail _ (.head _)))))).1
        dsimp only at k0
        clear hSw
        go_simp
        try (with_reducible rfl)
      try simp only [Act.put, sA, sZ, sS]
      refine tk 4 ?_ rfl ?_ ?_; rotate_left; focus (intro w hSw; clear hSw; go_simp; try (with_reducible rfl))
      try simp only [Act.put, sA, sZ, sS]
      refine tk 5 ?_ rfl ?_ ?_; rotate_left; focus (intro w hSw; clear hSw; go_simp; try (with_reducible rfl))
      try simp only [Act.put, sA, sZ, sS]
      refine tk 6 ?_ rfl ?_ ?_; rotate_left
      · intro wl hSw
        have hSw : Keep _ wl := hSw
        have k0 := (hSw _ (.tail _ (.tail _ (.tail _ (.tail _ (.tail _ (.head _))))))).1
        dsimp only at k0
        clear hSw
        go_simp
        try (with_reducible rfl)
      try simp only [Act.put, sA, sZ, sS]
      refine tk 7 ?_ rfl ?_ ?_; rotate_left; focus (intro w hSw; clear hSw; go_simp; try (with_reducible rfl))
      try simp only [Act.put, sA, sZ, sS]
      refine tk 8 ?_ rfl ?_ ?_; rotate_left; focus (intro w hSw; clear hSw; go_simp; try (with_reducible rfl))
      try simp only [Act.put, sA, sZ, sS]
      refine tk 9 ?_ rfl ?_ ?_; rotate_left
      · intro wl hSw
        have hSw : Keep _ wl := hSw
        have k0 := (hSw _ (.tail _ (.tail _ (.tail _ (.tail _ (.tail _ (.tail _ (.head _)))))))).1
        dsimp only at k0
        clear hSw
        go_simp
        try (with_reducible rfl)
      try simp only [Act.put, sA, sZ, sS]
      refine tk 10 ?_ rfl ?_ ?_; rotate_left; focus (intro w hSw; clear hSw; go_simp; try (with_reducible rfl))
      try simp only [Act.put, sA, sZ, sS]
      refine tk 11 ?_ rfl ?_ ?_; rotate_left; focus (intro w hSw; clear hSw; go_simp; try (with_reducible rfl))
      try simp only [Act.put, sA, sZ, sS]
      refine tk 12 ?_ rfl ?_ ?_; rotate_left; focus (intro w hSw; clear hSw; go_simp; try (with_reducible rfl))
      try simp only [Act.put, sA, sZ, sS]
      refine tk 13 ?_ rfl ?_ ?_; rotate_left
      · intro wl hSw
        have hSw : Keep _ wl := hSw
        have k0 := (hSw _ (.head _)).1
        dsimp only at k0
        clear hSw
        go_simp
        try (with_reducible rfl)
      try simp only [Act.put, sA, sZ, sS]
      refine wpAnyH_ready (rs := [14]) (by kernel_rfl) (by simp) ?_
      refine AllReadyH.cons (List.getElem?_toArray.trans rfl) (fun K hK => ?_) AllReadyH.nil
      go_simp
      refine (Tryz.strings_HasPrefix _ _ _).mono ?_
      rintro r w9 ⟨rfl, hw9⟩
      rw [HP.out]
      subst hw9
      try go_wp2_with fail
      refine hK.out _ _ (hHeld) (fun hHeld => ?_)
      clear hK K
      try simp only [Act.put, sA, sZ, sS]
      refine tk 15 ?_ rfl ?_ ?_; rotate_left; focus (intro w hSw; clear hSw; go_simp; try (with_reducible rfl))
      try simp only [Act.put, sA, sZ, sS]
      refine wpAnyH_done (by kernel_rfl) ?_ _
      clear hHeld
      have VE := Lib.hid (show Hp W (dvx g3 Q q e :: hdrP Q q e ps2 :: exx g1 g3 g4 :: nums C p.length d (dI p) :: ((wol g10 L u at_ b ok :: KK) ++ rowP ps2)) _ from V_1.out.tail)
      go_wp2_with fail
      go_roundw
      case rel => exact ⟨k + 1, Q, q, e, ps2, by omega, by go_num, HPL.out, by rw [HN.out]; exact HPE.out, VE.out⟩
      case measure => simp [intOf]; omega
    | true =>
      have HP := Lib.hid (show Lib.hasPrefix ((bs u).extract at_ ul).data.toList (bs x.t).data.toList = true by have h := has_at (a := at_) (t := x.t) (rfl : bs u = bs u); rw [hsz] at h; rw [h]; exact hpf)
      have HST := Lib.hid (show k ∈ stL L (u.drop at_) from stL_mem.2 ⟨by have := HL.out; omega, by rw [HXS.out]; exact List.isPrefixOf_iff_prefix.1 hpf⟩)
      have htl : at_ + x.t.length ≤ ul := by
        have := (List.isPrefixOf_iff_prefix.1 hpf).length_le
        rw [List.length_drop, ← HUL.out] at this
        omega
      clear hpf
      have hKp : Keep [(⟨g5, 0, none⟩, .string (bs x.t)), (⟨g5, 1, none⟩, .slice Aj x.s.length cj), (⟨g5, 2, none⟩, .int .i64 x.c), (⟨g5, 3, none⟩, .int .i64 x.w), (⟨g10, fs, none⟩, .int .i64 (ov : Int)), (⟨g1, 0, none⟩, .pointer (some ⟨g, 0, none⟩)), (⟨g, 2, none⟩, .string (bs u))] W2 := List.forall_mem_cons.2 ⟨⟨(V4.out.box_at (i := 0) (j := 0) rfl rfl).1, (V4.out.box_at (i := 0) (j := 0) rfl rfl).2.2⟩, List.forall_mem_cons.2 ⟨⟨(V4.out.box_at (i := 0) (j := 1) rfl rfl).1, (V4.out.box_at (i := 0) (j := 1) rfl rfl).2.2⟩, List.forall_mem_cons.2 ⟨⟨(V4.out.box_at (i := 0) (j := 2) rfl rfl).1, (V4.out.box_at (i := 0) (j := 2) rfl rfl).2.2⟩, List.forall_mem_cons.2 ⟨⟨(V4.out.box_at (i := 0) (j := 3) rfl rfl).1, (V4.out.box_at (i := 0) (j := 3) rfl rfl).2.2⟩, List.forall_mem_cons.2 ⟨⟨(HOC.out _ V4.out).1, (HOC.out _ V4.out).2⟩, List.forall_mem_cons.2 ⟨⟨(V4.out.below.cell (p := ⟨g1, 0, none⟩) HP1.out.1).trans HP1.out.2, Nat.lt_of_lt_of_le HP1.out.1 V4.out.below.size⟩, List.forall_mem_cons.2 ⟨⟨(V4.out.below.cell (p := ⟨g, 2, none⟩) HSW.out.1).trans HSW.out.2, Nat.lt_of_lt_of_le HSW.out.1 V4.out.below.size⟩, fun _ h => by simp at h⟩⟩⟩⟩⟩⟩⟩
      refine wp_region_held_drew (S := Keep _) (by kernel_rfl) hKp.drew (fun hHeld => ?_)
      obtain ⟨wf, hwf⟩ : ∃ z, z = W2.drew := ⟨_, rfl⟩
      have Vwf := Lib.hid (show Hp W (sgbox g5 (Aj, cj) x :: dvx g3 Q q e :: hdrP Q q e ps2 :: exx g1 g3 g4 :: nums C p.length d (dI p) :: ((wol g10 L u at_ b ok :: KK) ++ rowP ps2)) wf by rw [hwf]; exact V4.out.go (bdrew _))
      have Bwf := Lib.hid (show Below W2.heap.size W2 wf by rw [hwf]; exact bdrew _)
      rw [← hwf] at hHeld ⊢
      clear hwf hKp
      refine tk 0 ?_ rfl ?_ ?_; rotate_left
      · intro wl hSw
        have hSw : Keep _ wl := hSw
        have k0 := (hSw _ (.head _)).1
        have k1 := (hSw _ (.tail _ (.head _))).1
        have k2 := (hSw _ (.tail _ (.tail _ (.head _)))).1
        have k3 := (hSw _ (.tail _ (.tail _ (.tail _ (.head _))))).1
        dsimp only at k0 k1 k2 k3
        clear hSw
        go_simp
        try (with_reducible rfl)
      try simp only [Act.put, sA, sZ, sS]
      refine wpAnyH_ready (rs := [1]) (by kernel_rfl) (by simp) ?_
      refine AllReadyH.cons (List.getElem?_toArray.trans rfl) (fun K hK => ?_) AllReadyH.nil
      go_simp
      refine (firstP_any x Aj cj _ hxs.1 (by omega) (HCX.out _ Vwf.out.below)).mono ?_
      rintro r w_1 ⟨rfl, hb⟩
      rw [HKF.out]
      have V_1 := Lib.hid (Vwf.out.go hb)
      have B_1 := Lib.hid hb
      clear hb
      try go_wp2_with fail
      refine hK.out _ _ (hHeld.go B_1.out) (fun hHeld => ?_)
      clear hK K
      try simp only [Act.put, sA, sZ, sS]
      refine tk 2 ?_ rfl ?_ ?_; rotate_left; focus (intro w hSw; clear hSw; go_simp; try (with_reducible rfl))
      try simp only [Act.put, sA, sZ, sS]
      refine tk 3 ?_ rfl ?_ ?_; rotate_left
      · intro wl hSw
        have hSw : Keep _ wl := hSw
        have k0 := (hSw _ (.tail _ (.tail _ (.tail _ (.tail _ (.head _)))))).1
        dsimp only at k0
        clear hSw
        go_simp
        try (with_reducible rfl)
      try simp only [Act.put, sA, sZ, sS]
      refine tk 4 ?_ rfl ?_ ?_; rotate_left; focus (intro w hSw; clear hSw; go_simp; try (with_reducible rfl))
      try simp only [Act.put, sA, sZ, sS]
      refine tk 5 ?_ rfl ?_ ?_; rotate_left; focus (intro w hSw; clear hSw; go_simp; try (with_reducible rfl))
      try simp only [Act.put, sA, sZ, sS]
      refine tk 6 ?_ rfl ?_ ?_; rotate_left
      · intro wl hSw
        have hSw : Keep _ wl := hSw
        have k0 := (hSw _ (.tail _ (.tail _ (.tail _ (.tail _ (.tail _ (.head _))))))).1
        dsimp only at k0
        clear hSw
        go_simp
        try (with_reducible rfl)
      try simp only [Act.put, sA, sZ, sS]
      refine tk 7 ?_ rfl ?_ ?_; rotate_left; focus (intro w hSw; clear hSw; go_simp; try (with_reducible rfl))
      try simp only [Act.put, sA, sZ, sS]
      refine tk 8 ?_ rfl ?_ ?_; rotate_left; focus (intro w hSw; clear hSw; go_simp; try (with_reducible rfl))
      try simp only [Act.put, sA, sZ, sS]
      refine tk 9 ?_ rfl ?_ ?_; rotate_left
      · intro wl hSw
        have hSw : Keep _ wl := hSw
        have k0 := (hSw _ (.tail _ (.tail _ (.tail _ (.tail _ (.tail _ (.tail _ (.head _)))))))).1
        dsimp only at k0
        clear hSw
        go_simp
        try (with_reducible rfl)
      try simp only [Act.put, sA, sZ, sS]
      refine tk 10 ?_ rfl ?_ ?_; rotate_left; focus (intro w hSw; clear hSw; go_simp; try (with_reducible rfl))
      try simp only [Act.put, sA, sZ, sS]
      refine tk 11 ?_ rfl ?_ ?_; rotate_left; focus (intro w hSw; clear hSw; go_simp; try (with_reducible rfl))
      try simp only [Act.put, sA, sZ, sS]
      refine tk 12 ?_ rfl ?_ ?_; rotate_left; focus (intro w hSw; clear hSw; go_simp; try (with_reducible rfl))
      try simp only [Act.put, sA, sZ, sS]
      refine tk 13 ?_ rfl ?_ ?_; rotate_left
      · intro wl hSw
        have hSw : Keep _ wl := hSw
        have k0 := (hSw _ (.head _)).1
        dsimp only at k0
        clear hSw
        go_simp
        try (with_reducible rfl)
      try simp only [Act.put, sA, sZ, sS]
      refine wpAnyH_ready (rs := [14]) (by kernel_rfl) (by simp) ?_
      refine AllReadyH.cons (List.getElem?_toArray.trans rfl) (fun K hK => ?_) AllReadyH.nil
      go_simp
      refine (Tryz.strings_HasPrefix _ _ _).mono ?_
      rintro r w9 ⟨rfl, hw9⟩
      rw [HP.out]
      subst hw9
      try go_wp2_with fail
      refine hK.out _ _ (hHeld) (fun hHeld => ?_)
      clear hK K
      try simp only [Act.put, sA, sZ, sS]
      refine tk 15 ?_ rfl ?_ ?_; rotate_left; focus (intro w hSw; clear hSw; go_simp; try (with_reducible rfl))
      try simp only [Act.put, sA, sZ, sS]
      refine wpAnyH_done (by kernel_rfl) ?_ _
      clear hHeld
      obtain ⟨wq, hwq⟩ : ∃ z : World, z = w9 := ⟨_, rfl⟩
      have V5 := Lib.hid (show Hp W (sgbox g5 (Aj, cj) x :: dvx g3 Q q e :: hdrP Q q e ps2 :: exx g1 g3 g4 :: nums C p.length d (dI p) :: ((wol g10 L u at_ b ok :: KK) ++ rowP ps2)) wq by rw [hwq]; exact V_1.out)
      rw [← hwq]
      clear hwq V4
      obtain ⟨nx, hnx⟩ : ∃ z, z = at_ + x.t.length := ⟨_, rfl⟩
      obtain ⟨ls, hls⟩ : ∃ z, z = lsK L k := ⟨_, rfl⟩
      obtain ⟨tl, htl2⟩ : ∃ tl, tl = x.t.length := ⟨_, rfl⟩
      have hzx : (bs x.t).size = tl := by rw [bs_size, htl2]
      have hls3 : ls < 3 := by rw [hls]; exact lsK_lt L k
      have HKL := Lib.hid (show kC (endB x.s) = ls by rw [hls, ← kC_ls, HXS.out])
      have HDN := Lib.hid (show (u.drop at_).drop x.t.length = u.drop nx by rw [List.drop_drop, hnx])
      obtain ⟨ok2, hok2⟩ : ∃ z : Nat → Bool, z = fun q => whB (sgAt L k).w (exP b) (exP q) := ⟨_, rfl⟩
      have HBP := Lib.hid (fun (w' : World) (h' : Below W.heap.size W w') => behindP_any nm L (some ⟨b0, off, none⟩) n c u (FB L u 0) g k at_ nx b w' HV.out HL.out (HA.out.below h') (HS.out.below h') hkn (by rw [hnx, HXS.out]) (by omega) (fun q => FB_le _ _ _ _ _ _) hb)
      have HOQ := Lib.hid (show ∀ q, opF L (FB L u 0) k nx b q = oA L u nx ls ok2 q from fun q => by
        unfold opF oA
        rw [hok2, hls, FB_on (Nat.zero_le _) (by rw [← HUL.out]; omega)])
      have HSI := Lib.hid (exI_sign (b := b) (ok := ok) HNE.out (fun i hi => HSS.out i (by rw [← HL.out]; exact hi)) HST.out HOK.out)
      rw [HXS.out, HDN.out, ← hls, show (fun c => whB x.w (exP b) (exP c)) = ok2 by rw [hok2, HXS.out]] at HSI
      have HBD := Lib.hid (show q + (exL L (u.drop nx) ls ok2).length ≤ 200 by
        have h1 := congrArg List.length HSI.out
        rw [List.length_append, List.length_map] at h1
        have h2 := exI_le (v := u.drop at_) (b := b) (ok := ok) (k := k + 1) (L := L) (by have := HL.out; omega)
        have h3 := congrArg List.length HPE.out
        rw [List.length_append, List.length_map, List.length_map, List.length_map] at h3
        have h4 := HQ.out
        have h5 := HPL.out
        omega)
      have hql : q ≤ 200 := by have := HBD.out; omega
      have hnxa : nx ≤ at_ + tl := by omega
      have hnxb : at_ + tl ≤ nx := by omega
      have hnx16 : nx ≤ ul := by omega
      have hxt0 : 0 < tl := by omega
      have hwn : IntKind.i64.wrap ((at_ : Int) + (tl : Int)) = (nx : Int) := by rw [IntWalk.i64_in _ (by omega)]; omega
      have HPP := Lib.hid (show (p ++ [k]).length = p.length + 1 by rw [List.length_append]; rfl)
      have HDI := Lib.hid (show dI (p ++ [k]) = dI p ++ [(k : Int)] from dI_snoc p k)
      clear hnx hls htl2 hok2 htl
      go_wp2_with fail
      go_upto_region 8 with fail
      have hKp : Keep [(⟨g5, 0, none⟩, .string (bs x.t)), (⟨g5, 1, none⟩, .slice Aj x.s.length cj), (⟨g5, 2, none⟩, .int .i64 x.c), (⟨g5, 3, none⟩, .int .i64 x.w), (⟨g4, 0, none⟩, EVal g1 g3 g4), (⟨g1, 0, none⟩, .pointer (some ⟨g, 0, none⟩))] wq := List.forall_mem_cons.2 ⟨⟨(V5.out.box_at (i := 0) (j := 0) rfl rfl).1, (V5.out.box_at (i := 0) (j := 0) rfl rfl).2.2⟩, List.forall_mem_cons.2 ⟨⟨(V5.out.box_at (i := 0) (j := 1) rfl rfl).1, (V5.out.box_at (i := 0) (j := 1) rfl rfl).2.2⟩, List.forall_mem_cons.2 ⟨⟨(V5.out.box_at (i := 0) (j := 2) rfl rfl).1, (V5.out.box_at (i := 0) (j := 2) rfl rfl).2.2⟩, List.forall_mem_cons.2 ⟨⟨(V5.out.box_at (i := 0) (j := 3) rfl rfl).1, (V5.out.box_at (i := 0) (j := 3) rfl rfl).2.2⟩, List.forall_mem_cons.2 ⟨⟨(V5.out.box_at (i := 3) (j := 0) rfl rfl).1, (V5.out.box_at (i := 3) (j := 0) rfl rfl).2.2⟩, List.forall_mem_cons.2 ⟨⟨(V5.out.below.cell (p := ⟨g1, 0, none⟩) HP1.out.1).trans HP1.out.2, Nat.lt_of_lt_of_le HP1.out.1 V5.out.below.size⟩, fun _ h => by simp at h⟩⟩⟩⟩⟩⟩
      refine wp_region_held_drew (S := Keep _) (by kernel_rfl) hKp.drew (fun hHeld => ?_)
      obtain ⟨wk, hwk⟩ : ∃ z, z = wq.drew := ⟨_, rfl⟩
      have Vwk := Lib.hid (show Hp W (sgbox g5 (Aj, cj) x :: dvx g3 Q q e :: hdrP Q q e ps2 :: exx g1 g3 g4 :: nums C p.length d (dI p) :: ((wol g10 L u at_ b ok :: KK) ++ rowP ps2)) wk by rw [hwk]; exact V5.out.go (bdrew _))
      have Bwk := Lib.hid (show Below wq.heap.size wq wk by rw [hwk]; exact bdrew _)
      rw [← hwk] at hHeld ⊢
      clear hwk hKp
      refine tk 0 ?_ rfl ?_ ?_; rotate_left
      · intro wl hSw
        have hSw : Keep _ wl := hSw
        have k0 := (hSw _ (.tail _ (.tail _ (.tail _ (.tail _ (.head _)))))).1
        dsimp only at k0
        clear hSw
        go_simp
        try (with_reducible rfl)
      try simp only [Act.put, sA, sZ, sS]
      refine tk 1 ?_ rfl ?_ ?_; rotate_left; focus (intro w hSw; clear hSw; go_simp; try (with_reducible rfl))
      try simp only [Act.put, sA, sZ, sS]
      refine tk 2 ?_ rfl ?_ ?_; rotate_left; focus (intro w hSw; clear hSw; go_simp; try (with_reducible rfl))
      try simp only [Act.put, sA, sZ, sS]
      refine tk 5 ?_ rfl ?_ ?_; rotate_left; focus (intro w hSw; clear hSw; go_simp; try (with_reducible rfl))
      try simp only [Act.put, sA, sZ, sS]
      refine tk 6 ?_ rfl ?_ ?_; rotate_left; focus (intro w hSw; clear hSw; go_simp; try (with_reducible rfl))
      try simp only [Act.put, sA, sZ, sS]
      refine tk 7 ?_ rfl ?_ ?_; rotate_left
      · intro wl hSw
        have hSw : Keep _ wl := hSw
        have k0 := (hSw _ (.head _)).1
        dsimp only at k0
        clear hSw
        go_simp
        try (with_reducible rfl)
      try simp only [Act.put, sA, sZ, sS]
      refine tk 8 ?_ rfl ?_ ?_; rotate_left; focus (intro w hSw; clear hSw; go_simp; try (with_reducible rfl))
      try simp only [Act.put, sA, sZ, sS]
      refine tk 9 ?_ rfl ?_ ?_; rotate_left; focus (intro w hSw; clear hSw; go_simp; try (with_reducible rfl))
      try simp only [Act.put, sA, sZ, sS]
      refine tk 10 ?_ rfl ?_ ?_; rotate_left
      · intro wl hSw
        have hSw : Keep _ wl := hSw
        have k0 := (hSw _ (.head _)).1
        have k1 := (hSw _ (.tail _ (.head _))).1
        have k2 := (hSw _ (.tail _ (.tail _ (.head _)))).1
        have k3 := (hSw _ (.tail _ (.tail _ (.tail _ (.head _))))).1
        dsimp only at k0 k1 k2 k3
        clear hSw
        go_simp
        try (with_reducible rfl)
      try simp only [Act.put, sA, sZ, sS]
      refine tk 12 ?_ rfl ?_ ?_; rotate_left
      · intro wl hSw
        have hSw : Keep _ wl := hSw
        have k0 := (hSw _ (.tail _ (.tail _ (.tail _ (.tail _ (.tail _ (.head _))))))).1
        dsimp only at k0
        clear hSw
        go_simp
        try (with_reducible rfl)
      try simp only [Act.put, sA, sZ, sS]
      refine tk 13 ?_ rfl ?_ ?_; rotate_left; focus (intro w hSw; clear hSw; go_simp; try (with_reducible rfl))
      try simp only [Act.put, sA, sZ, sS]
      refine tk 14 ?_ rfl ?_ ?_; rotate_left; focus (intro w hSw; clear hSw; go_simp; try (with_reducible rfl))
      try simp only [Act.put, sA, sZ, sS]
      refine tk 15 ?_ rfl ?_ ?_; rotate_left; focus (intro w hSw; clear hSw; go_simp; try (with_reducible rfl))
      try simp only [Act.put, sA, sZ, sS]
      refine wpAnyH_ready (rs := [3]) (by kernel_rfl) (by simp) ?_
      refine AllReadyH.cons (List.getElem?_toArray.trans rfl) (fun K hK => ?_) AllReadyH.nil
      obtain ⟨w_3, hw_3⟩ : ∃ z, z = wk.alloc (.cells #[.int .i64 (k : Int)] 3) := ⟨_, rfl⟩
      obtain ⟨g_3, hg_3⟩ : ∃ z, z = wk.heap.size := ⟨_, rfl⟩
      have V_3 := Lib.hid (show Hp W (nums (some ⟨g_3, 0, none⟩) 1 1 (dI [k]) :: sgbox g5 (Aj, cj) x :: dvx g3 Q q e :: hdrP Q q e ps2 :: exx g1 g3 g4 :: nums C p.length d (dI p) :: ((wol g10 L u at_ b ok :: KK) ++ rowP ps2)) w_3 by rw [hw_3, hg_3]; exact Vwk.out.lit 3 1 1 (ints (dI [k])) rfl (by decide))
      have B_3 := Lib.hid (show Below wk.heap.size wk w_3 by rw [hw_3]; exact bnew _ _)
      have HW_3 := Lib.hid hw_3
      have HG_3 := Lib.hid hg_3
      clear hw_3 hg_3
      go_simp
      try rw [← HW_3.out]
      try rw [← HG_3.out]
      refine hK.out _ _ (hHeld.go B_3.out) (fun hHeld => ?_)
      clear hK K
      try simp only [Act.put, sA, sZ, sS]
      refine wpAnyH_ready (rs := [4]) (by kernel_rfl) (by simp) ?_
      refine AllReadyH.cons (List.getElem?_toArray.trans rfl) (fun K hK => ?_) AllReadyH.nil
      obtain ⟨gA, cA, wA, KA, hrA, hvA, hresA⟩ := run_app_two (pre := [nums (some ⟨g_3, 0, none⟩) 1 1 (dI [k]), sgbox g5 (Aj, cj) x, dvx g3 Q q e, hdrP Q q e ps2, exx g1 g3 g4]) (l := ((wol g10 L u at_ b ok :: KK) ++ rowP ps2)) V_3.out 35 (b := g_3) (k : Int) (V_3.out.num_at (i := 0) rfl (j := 0) (by decide : 0 < 1)).1 (by omega)
      have HRA := Lib.hid hrA
      have HRES := Lib.hid hresA
      have VA := Lib.hid (show Hp W (nums (some ⟨g_3, 0, none⟩) 1 1 (dI [k]) :: sgbox g5 (Aj, cj) x :: dvx g3 Q q e :: hdrP Q q e ps2 :: exx g1 g3 g4 :: nums (some ⟨gA, 0, none⟩) (p.length + 1) cA (dI p ++ [(k : Int)]) :: (KA ++ ((wol g10 L u at_ b ok :: KK) ++ rowP ps2))) wA from hvA)
      clear hrA hvA hresA
      refine step_app_run rfl (.tmp 56) (.tmp 58) 35 rfl HRA.out rfl rfl ?_
      refine hK.out _ _ (List.forall_mem_cons.2 ⟨⟨(VA.out.box_at (i := 1) (j := 0) rfl rfl).1, (VA.out.box_at (i := 1) (j := 0) rfl rfl).2.2⟩, List.forall_mem_cons.2 ⟨⟨(VA.out.box_at (i := 1) (j := 1) rfl rfl).1, (VA.out.box_at (i := 1) (j := 1) rfl rfl).2.2⟩, List.forall_mem_cons.2 ⟨⟨(VA.out.box_at (i := 1) (j := 2) rfl rfl).1, (VA.out.box_at (i := 1) (j := 2) rfl rfl).2.2⟩, List.forall_mem_cons.2 ⟨⟨(VA.out.box_at (i := 1) (j := 3) rfl rfl).1, (VA.out.box_at (i := 1) (j := 3) rfl rfl).2.2⟩, List.forall_mem_cons.2 ⟨⟨(VA.out.box_at (i := 4) (j := 0) rfl rfl).1, (VA.out.box_at (i := 4) (j := 0) rfl rfl).2.2⟩, List.forall_mem_cons.2 ⟨⟨(VA.out.below.cell (p := ⟨g1, 0, none⟩) HP1.out.1).trans HP1.out.2, Nat.lt_of_lt_of_le HP1.out.1 VA.out.below.size⟩, fun _ h => by simp at h⟩⟩⟩⟩⟩⟩) (fun hHeld => ?_)
      clear hK K
      try simp only [Act.put, sA, sZ, sS]
      refine wpAnyH_ready (rs := [11]) (by kernel_rfl) (by simp) ?_
      refine AllReadyH.cons (List.getElem?_toArray.trans rfl) (fun K hK => ?_) AllReadyH.nil
      go_simp
      refine (lastP_any x Aj cj _ hxs.1 (by omega) (HCX.out _ VA.out.below)).mono ?_
      rintro r w_3_4_11 ⟨rfl, hb⟩
      rw [HKL.out]
      have V_3_4_11 := Lib.hid (VA.out.go hb)
      have B_3_4_11 := Lib.hid hb
      clear hb
      try go_wp2_with fail
      refine hK.out _ _ (hHeld.go B_3_4_11.out) (fun hHeld => ?_)
      clear hK K
      try simp only [Act.put, sA, sZ, sS]
      refine wpAnyH_ready (rs := [16]) (by kernel_rfl) (by simp) ?_
      refine AllReadyH.cons (List.getElem?_toArray.trans rfl) (fun K hK => ?_) AllReadyH.nil
      go_simp
      refine (HBP.out _ V_3_4_11.out.below).mono ?_
      rintro r w_3_4_11_16 ⟨rfl, hb⟩
      rw [HOQ.out, HOQ.out, HOQ.out]
      have V_3_4_11_16 := Lib.hid (V_3_4_11.out.go hb)
      have B_3_4_11_16 := Lib.hid hb
      clear hb
      try go_wp2_with fail
      refine hK.out _ _ (hHeld.go B_3_4_11_16.out) (fun hHeld => ?_)
      clear hK K
      try simp only [Act.put, sA, sZ, sS]
      refine wpAnyH_ready (rs := [17]) (by kernel_rfl) (by simp) ?_
      refine AllReadyH.cons (List.getElem?_toArray.trans rfl) (fun K hK => ?_) AllReadyH.nil
      have VC := Lib.hid (show Hp W (dvx g3 Q q e :: hdrP Q q e ps2 :: exx g1 g3 g4 :: nums (some ⟨gA, 0, none⟩) (p ++ [k]).length cA (dI (p ++ [k])) :: ((KA ++ (sgbox g5 (Aj, cj) x :: wol g10 L u at_ b ok :: KK)) ++ rowP ps2)) _ by
        rw [HPP.out, HDI.out, List.append_assoc]
        exact Hp.sink (l := dvx g3 Q q e :: hdrP Q q e ps2 :: exx g1 g3 g4 :: nums (some ⟨gA, 0, none⟩) (p.length + 1) cA (dI p ++ [(k : Int)]) :: KA) (l2 := ((wol g10 L u at_ b ok :: KK) ++ rowP ps2)) V_3_4_11_16.out.tail)
      have HIH := Lib.hid (IH.out nx ls ok2 (some ⟨gA, 0, none⟩) cA (p ++ [k]) Q q e ps2 (KA ++ (sgbox g5 (Aj, cj) x :: wol g10 L u at_ b ok :: KK)) _ (by have := HUL.out; omega) (by have := HUL.out; omega) hls3 (by rw [HPP.out]; omega) HPL.out HBD.out VC.out)
      rw [HPP.out] at HIH
      go_simp
      refine HIH.out.mono ?_
      rintro r w20 ⟨rfl, Q3, q3, e3, ps3, hpl3, hpe3, hp3⟩
      have V20 := Lib.hid (show Hp W (dvx g3 Q3 q3 e3 :: hdrP Q3 q3 e3 ps3 :: exx g1 g3 g4 :: nums C p.length d (dI p) :: ((sgbox g5 (Aj, cj) x :: wol g10 L u at_ b ok :: KK) ++ rowP ps3)) w20 by
        rw [HDI.out, List.append_assoc] at hp3
        exact HRES.out [dvx g3 Q3 q3 e3, hdrP Q3 q3 e3 ps3, exx g1 g3 g4] ((sgbox g5 (Aj, cj) x :: wol g10 L u at_ b ok :: KK) ++ rowP ps3) w20 hp3)
      have HPL3 := Lib.hid hpl3
      have HPE3 := Lib.hid (show ps3.map (·.2) = ps.map (·.2) ++ (exI L (u.drop at_) b ok (stK L (u.drop at_) (k + 1))).map (p ++ ·) by rw [hpe3, HPE.out, HSI.out, List.map_append, map_pre, List.append_assoc])
      clear hpl3 hpe3 hp3
      try go_wp2_with fail
      refine hK.out _ _ (List.forall_mem_cons.2 ⟨⟨(V20.out.box_at (i := 4) (j := 0) rfl rfl).1, (V20.out.box_at (i := 4) (j := 0) rfl rfl).2.2⟩, List.forall_mem_cons.2 ⟨⟨(V20.out.box_at (i := 4) (j := 1) rfl rfl).1, (V20.out.box_at (i := 4) (j := 1) rfl rfl).2.2⟩, List.forall_mem_cons.2 ⟨⟨(V20.out.box_at (i := 4) (j := 2) rfl rfl).1, (V20.out.box_at (i := 4) (j := 2) rfl rfl).2.2⟩, List.forall_mem_cons.2 ⟨⟨(V20.out.box_at (i := 4) (j := 3) rfl rfl).1, (V20.out.box_at (i := 4) (j := 3) rfl rfl).2.2⟩, List.forall_mem_cons.2 ⟨⟨(V20.out.box_at (i := 2) (j := 0) rfl rfl).1, (V20.out.box_at (i := 2) (j := 0) rfl rfl).2.2⟩, List.forall_mem_cons.2 ⟨⟨(V20.out.below.cell (p := ⟨g1, 0, none⟩) HP1.out.1).trans HP1.out.2, Nat.lt_of_lt_of_le HP1.out.1 V20.out.below.size⟩, fun _ h => by simp at h⟩⟩⟩⟩⟩⟩) (fun hHeld => ?_)
      clear hK K
      try simp only [Act.put, sA, sZ, sS]
      refine wpAnyH_done (by kernel_rfl) ?_ _
      clear hHeld
      have VE := Lib.hid (show Hp W (dvx g3 Q3 q3 e3 :: hdrP Q3 q3 e3 ps3 :: exx g1 g3 g4 :: nums C p.length d (dI p) :: ((wol g10 L u at_ b ok :: KK) ++ rowP ps3)) w20 from Hp.out1 (a := [dvx g3 Q3 q3 e3, hdrP Q3 q3 e3 ps3, exx g1 g3 g4, nums C p.length d (dI p)]) V20.out)
      go_wp2_with fail
      go_roundw
      case rel => exact ⟨k + 1, Q3, q3, e3, ps3, by omega, by go_num, HPL3.out, HPE3.out, VE.out⟩
      case measure => simp [intOf]; omega
end Go.Proofs.YtjamfcihjendiaaGreat
