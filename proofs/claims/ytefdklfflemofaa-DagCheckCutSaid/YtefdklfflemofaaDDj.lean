/- Contract of the reference: a check of a cut. -/
import Derived.Test.YtefdklfflemofaaDDg
import Derived.Test.YtefdklfflemofaaDCc
import Derived.Deep.RegionLaw
namespace Go.Proofs.Ytefdklfflemofaa
open Go.RowKit
set_option linter.unusedVariables false
set_option linter.unusedSimpArgs false
set_option maxRecDepth 100000

/-! ### What the reference's check of a cut looks at -/
theorem asc_le {l : List Int} (h : l.Pairwise (· < ·)) {i j : Nat} {x y : Int} (hx : l[i]? = some x) (hy : l[j]? = some y) (hij : i ≤ j) : x ≤ y := by
  by_cases e : i = j
  · subst e
    have := hx.symm.trans hy
    injection this with this
    omega
  · have h1 := List.pairwise_iff_getElem.1 h i j (List.getElem?_eq_some_iff.1 hx).1 (List.getElem?_eq_some_iff.1 hy).1 (by omega)
    have e1 := (List.getElem?_eq_some_iff.1 hx).2
    have e2 := (List.getElem?_eq_some_iff.1 hy).2
    rw [e1, e2] at h1
    omega
theorem cc_nil {g : Gr} : g.ccV [] = false := decide_eq_false fun e => by have := e.2.2.1; cases this
theorem cc_first {g : Gr} {l : List Int} {x : Int} (hx : l[0]? = some x) (h : ¬ x = 0) : g.ccV l = false := decide_eq_false fun e => by
  obtain ⟨j, hj⟩ := List.mem_iff_getElem?.1 e.2.2.1
  have hn := of_decide_eq_true e.2.1
  have h1 := asc_le hn.2 hx hj (Nat.zero_le _)
  have h2 := (hn.1 x (List.mem_of_getElem? hx)).1
  omega
theorem cc_last {g : Gr} {l : List Int} {q : Nat} {x : Int} (hx : l[q]? = some x) (h : g.n - 1 ≤ x) : g.ccV l = false := decide_eq_false fun e => by
  have hn := of_decide_eq_true e.2.1
  have h2 := (hn.1 x (List.mem_of_getElem? hx)).2
  have e2 : x = g.n - 1 := by omega
  exact e.2.2.2.1 (by rw [← e2]; exact List.mem_of_getElem? hx)
theorem cc_in {g : Gr} {l : List Int} {q : Nat} {x : Int} (hl : l.length = q + 1) (h0 : l[0]? = some 0) (hx : l[q]? = some x) (h : ¬ g.n - 1 ≤ x) (h1 : ∀ (i : Nat) x, l[i]? = some x → x < g.n) (h2 : ∀ (i : Nat) x y, l[i]? = some x → l[i + 1]? = some y → x < y) :
    nlB g.n l = true ∧ decide ((0 : Int) ∈ l) = true ∧ decide ((g.n - 1) ∈ l) = false := by
  have ha := asc_pair h2
  refine ⟨nlB_ok (fun i y hy => ⟨asc_le ha h0 hy (Nat.zero_le _), h1 i y hy⟩) h2, decide_eq_true (List.mem_of_getElem? h0), decide_eq_false fun hm => ?_⟩
  obtain ⟨j, hj⟩ := List.mem_iff_getElem?.1 hm
  have := asc_le ha hj hx (by have := (List.getElem?_eq_some_iff.1 hj).1; omega)
  omega
set_option maxHeartbeats 32000000 in
theorem rcheckCut_any (g : Gr) (A B : Option Addr) (n c m d : Nat) (L : List Int) (w : World) (h : GrIn w A n c g) (hL : L.length = m) (hb : m ≤ 17592186044416) (hB : CellsIn w B (ints L)) :
    Calls Try.prog 32 #[gval g A n c, .slice B m d] w fun e w' => e = .returned (.bool (g.ccV L)) ∧ Below w.heap.size w w' := by
  have H := Lib.hid h
  have HB := Lib.hid hB
  have HL := Lib.hid hL
  clear h hB hL
  obtain ⟨wz, hwz⟩ : ∃ z, z = w.alloc (.cells #[.int .i64 g.n, .slice A n c] 24) := ⟨_, rfl⟩
  have HZ := Lib.hid hwz
  have V := Lib.hid (show Hp w [gbox w.heap.size g A n c] wz by rw [hwz]; exact (Hp.start w).gnew g A n c)
  clear hwz
  go_enter Try.func32, Try.ntmps32
  go_upto_region 1 with fail
  rw [← HZ.out]
  clear HZ
  obtain ⟨r0, r1, r9⟩ := V.out.gb (i := 0) rfl
  by_cases hv : g.vE = 0
  case neg =>
    have HE := Lib.hid (cc_bad (l := L) hv)
    have g1 : (g.vE != 0) = true := bne_yes hv
    have g2 : (g.vE == 0) = false := beq_no hv
    clear hv
    have hKp : Keep [(⟨w.heap.size, 0, none⟩, .int .i64 g.n), (⟨w.heap.size, 1, none⟩, .slice A n c)] wz := List.forall_mem_cons.2 ⟨⟨r0, r9⟩, List.forall_mem_cons.2 ⟨⟨r1, r9⟩, fun _ h => by simp at h⟩⟩
    refine wp_region_held_drew (S := Keep _) (by kernel_rfl) hKp.drew (fun hHeld => ?_)
    have Vd := Lib.hid (V.out.go (bdrew _))
    refine tk 0 ?_ rfl ?_ ?_; rotate_left
    · intro wl hSw
      have hSw : Keep _ wl := hSw
      have k0 : wl.cell? ⟨w.heap.size, 0, none⟩ = some (.int .i64 g.n) := (hSw _ (.head _)).1
      have k1 : wl.cell? ⟨w.heap.size, 1, none⟩ = some (.slice A n c) := (hSw _ (.tail _ (.head _))).1
      clear hSw
      go_simp
      try (with_reducible rfl)
    try simp only [Act.put, sA, sZ, sS]
    refine wpAnyH_ready (rs := [1]) (by kernel_rfl) (by simp) ?_
    refine AllReadyH.cons (List.getElem?_toArray.trans rfl) (fun K hK => ?_) AllReadyH.nil
    go_simp
    refine (rvalid_any g A n c _ (H.out.below Vd.out.below)).mono ?_
    rintro e w_1 ⟨rfl, b_1⟩
    try go_wp2_with fail
    have V_1 := Lib.hid (Vd.out.go b_1)
    refine hK.out _ _ (hHeld.go b_1) (fun hHeld => ?_)
    clear hK K
    try simp only [Act.put, sA, sZ, sS]
    refine tk 2 ?_ rfl ?_ ?_; rotate_left; focus (intro w hSw; clear hSw; go_simp; try (with_reducible rfl))
    try simp only [Act.put, sA, sZ, sS]
    refine tk 3 ?_ rfl ?_ ?_; rotate_left; focus (intro w hSw; clear hSw; go_simp; try (with_reducible rfl))
    try simp only [Act.put, sA, sZ, sS]
    refine tu 4 rfl ?_
    try simp only [Act.put, sA, sZ, sS]
    refine tu 5 rfl ?_
    try simp only [Act.put, sA, sZ, sS]
    refine tu 6 rfl ?_
    try simp only [Act.put, sA, sZ, sS]
    refine tk 7 ?_ rfl ?_ ?_; rotate_left; focus (intro w hSw; clear hSw; go_simp; try (with_reducible rfl))
    try simp only [Act.put, sA, sZ, sS]
    refine tk 8 ?_ rfl ?_ ?_; rotate_left; focus (intro w hSw; clear hSw; go_simp; try (with_reducible rfl))
    try simp only [Act.put, sA, sZ, sS]
    refine tu 9 rfl ?_
    try simp only [Act.put, sA, sZ, sS]
    refine tu 10 rfl ?_
    try simp only [Act.put, sA, sZ, sS]
    refine tu 11 rfl ?_
    try simp only [Act.put, sA, sZ, sS]
    refine tu 12 rfl ?_
    try simp only [Act.put, sA, sZ, sS]
    refine tk 13 ?_ rfl ?_ ?_; rotate_left; focus (intro w hSw; clear hSw; go_simp; try (with_reducible rfl))
    try simp only [Act.put, sA, sZ, sS]
    refine tk 14 ?_ rfl ?_ ?_; rotate_left; focus (intro w hSw; clear hSw; go_simp; try (with_reducible rfl))
    try simp only [Act.put, sA, sZ, sS]
    refine tu 15 rfl ?_
    try simp only [Act.put, sA, sZ, sS]
    refine tu 16 rfl ?_
    try simp only [Act.put, sA, sZ, sS]
    refine tu 17 rfl ?_
    try simp only [Act.put, sA, sZ, sS]
    refine tu 18 rfl ?_
    try simp only [Act.put, sA, sZ, sS]
    refine tu 19 rfl ?_
    try simp only [Act.put, sA, sZ, sS]
    refine tu 20 rfl ?_
    try simp only [Act.put, sA, sZ, sS]
    refine tu 21 rfl ?_
    try simp only [Act.put, sA, sZ, sS]
    refine tu 22 rfl ?_
    try simp only [Act.put, sA, sZ, sS]
    refine tu 23 rfl ?_
    try simp only [Act.put, sA, sZ, sS]
    refine tu 24 rfl ?_
    try simp only [Act.put, sA, sZ, sS]
    refine tk 25 ?_ rfl ?_ ?_; rotate_left; focus (intro w hSw; clear hSw; go_simp; try (with_reducible rfl))
    try simp only [Act.put, sA, sZ, sS]
    refine wpAnyH_done (by kernel_rfl) ?_ _
    go_wp2_with fail
    go_ret
    exact ⟨ret_bool HE.out.symm, V_1.out.below⟩
  have HV := Lib.hid hv
  have HO := Lib.hid (Gr.ok hv)
  have HRV := Lib.hid (show ∀ W, GrIn W A n c g → Calls Try.prog 16 #[gval g A n c] W fun e w' => e = .returned (.int .i64 0) ∧ Below W.heap.size W w' from fun W hW => by
    have := rvalid_any g A n c W hW
    rwa [hv] at this)
  clear hv
  by_cases hm0 : m = 0
  · subst hm0
    have HE := Lib.hid (show g.ccV L = false by rw [List.eq_nil_of_length_eq_zero HL.out]; exact cc_nil)
    have hKp : Keep [(⟨w.heap.size, 0, none⟩, .int .i64 g.n), (⟨w.heap.size, 1, none⟩, .slice A n c)] wz := List.forall_mem_cons.2 ⟨⟨r0, r9⟩, List.forall_mem_cons.2 ⟨⟨r1, r9⟩, fun _ h => by simp at h⟩⟩
    refine wp_region_held_drew (S := Keep _) (by kernel_rfl) hKp.drew (fun hHeld => ?_)
    have Vd := Lib.hid (V.out.go (bdrew _))
    refine tk 0 ?_ rfl ?_ ?_; rotate_left
    · intro wl hSw
      have hSw : Keep _ wl := hSw
      have k0 : wl.cell? ⟨w.heap.size, 0, none⟩ = some (.int .i64 g.n) := (hSw _ (.head _)).1
      have k1 : wl.cell? ⟨w.heap.size, 1, none⟩ = some (.slice A n c) := (hSw _ (.tail _ (.head _))).1
      clear hSw
      go_simp
      try (with_reducible rfl)
    try simp only [Act.put, sA, sZ, sS]
    refine wpAnyH_ready (rs := [1]) (by kernel_rfl) (by simp) ?_
    refine AllReadyH.cons (List.getElem?_toArray.trans rfl) (fun K hK => ?_) AllReadyH.nil
    go_simp
    refine (HRV.out _ (H.out.below Vd.out.below)).mono ?_
    rintro e w_1 ⟨rfl, b_1⟩
    try go_wp2_with fail
    have V_1 := Lib.hid (Vd.out.go b_1)
    refine hK.out _ _ (hHeld.go b_1) (fun hHeld => ?_)
    clear hK K
    try simp only [Act.put, sA, sZ, sS]
    refine tk 2 ?_ rfl ?_ ?_; rotate_left; focus (intro w hSw; clear hSw; go_simp; try (with_reducible rfl))
    try simp only [Act.put, sA, sZ, sS]
    refine tk 3 ?_ rfl ?_ ?_; rotate_left; focus (intro w hSw; clear hSw; go_simp; try (with_reducible rfl))
    try simp only [Act.put, sA, sZ, sS]
    refine tk 4 ?_ rfl ?_ ?_; rotate_left; focus (intro w hSw; clear hSw; go_simp; try (with_reducible rfl))
    try simp only [Act.put, sA, sZ, sS]
    refine tk 5 ?_ rfl ?_ ?_; rotate_left; focus (intro w hSw; clear hSw; go_simp; try (with_reducible rfl))
    try simp only [Act.put, sA, sZ, sS]
    refine tk 6 ?_ rfl ?_ ?_; rotate_left; focus (intro w hSw; clear hSw; go_simp; try (with_reducible rfl))
    try simp only [Act.put, sA, sZ, sS]
    refine tk 7 ?_ rfl ?_ ?_; rotate_left; focus (intro w hSw; clear hSw; go_simp; try (with_reducible rfl))
    try simp only [Act.put, sA, sZ, sS]
    refine tk 8 ?_ rfl ?_ ?_; rotate_left; focus (intro w hSw; clear hSw; go_simp; try (with_reducible rfl))
    try simp only [Act.put, sA, sZ, sS]
    refine tu 9 rfl ?_
    try simp only [Act.put, sA, sZ, sS]
    refine tu 10 rfl ?_
    try simp only [Act.put, sA, sZ, sS]
    refine tu 11 rfl ?_
    try simp only [Act.put, sA, sZ, sS]
    refine tu 12 rfl ?_
    try simp only [Act.put, sA, sZ, sS]
    refine tk 13 ?_ rfl ?_ ?_; rotate_left; focus (intro w hSw; clear hSw; go_simp; try (with_reducible rfl))
    try simp only [Act.put, sA, sZ, sS]
    refine tk 14 ?_ rfl ?_ ?_; rotate_left; focus (intro w hSw; clear hSw; go_simp; try (with_reducible rfl))
    try simp only [Act.put, sA, sZ, sS]
    refine tu 15 rfl ?_
    try simp only [Act.put, sA, sZ, sS]
    refine tu 16 rfl ?_
    try simp only [Act.put, sA, sZ, sS]
    refine tu 17 rfl ?_
    try simp only [Act.put, sA, sZ, sS]
    refine tu 18 rfl ?_
    try simp only [Act.put, sA, sZ, sS]
    refine tu 19 rfl ?_
    try simp only [Act.put, sA, sZ, sS]
    refine tu 20 rfl ?_
    try simp only [Act.put, sA, sZ, sS]
    refine tu 21 rfl ?_
    try simp only [Act.put, sA, sZ, sS]
    refine tu 22 rfl ?_
    try simp only [Act.put, sA, sZ, sS]
    refine tu 23 rfl ?_
    try simp only [Act.put, sA, sZ, sS]
    refine tu 24 rfl ?_
    try simp only [Act.put, sA, sZ, sS]
    refine tk 25 ?_ rfl ?_ ?_; rotate_left; focus (intro w hSw; clear hSw; go_simp; try (with_reducible rfl))
    try simp only [Act.put, sA, sZ, sS]
    refine wpAnyH_done (by kernel_rfl) ?_ _
    go_wp2_with fail
    go_ret
    exact ⟨ret_bool HE.out.symm, V_1.out.below⟩
  obtain ⟨q, hq⟩ : ∃ q, m = q + 1 := ⟨m - 1, by omega⟩
  have hqm : q < m := by omega
  have hm1 : 0 < m := by omega
  have gm0 : ((m : Int) == 0) = false := beq_no (by omega)
  have hw1 : IntKind.i64.wrap ((m : Int) - 1) = (q : Int) := by rw [IntWalk.i64_in _ (by omega)]; omega
  have n1 := HO.out.n1
  have n2 := HO.out.n2
  have hw2 : IntKind.i64.wrap (g.n - 1) = g.n - 1 := IntWalk.i64_in _ (by omega)
  have HQ := Lib.hid hq
  obtain ⟨x0, hx0⟩ : ∃ x0, x0 = L.getD 0 0 := ⟨_, rfl⟩
  obtain ⟨xq, hxq⟩ : ∃ xq, xq = L.getD q 0 := ⟨_, rfl⟩
  obtain ⟨b, off, rfl, hbl, c0⟩ := (HB.out.below V.out.below).int (j := 0) (by rw [HL.out]; exact hm1)
  obtain ⟨b', off', he, _, cq⟩ := (HB.out.below V.out.below).int (j := q) (by rw [HL.out]; exact hqm)
  injection he with he
  injection he with he1 he2
  subst he1; subst he2
  rw [← hx0] at c0
  rw [← hxq] at cq
  rw [Nat.add_zero] at c0
  have HX0 := Lib.hid (show L[0]? = some x0 by rw [hx0, List.getD_eq_getElem?_getD, List.getElem?_eq_getElem (by rw [HL.out]; exact hm1)]; rfl)
  have HXQ := Lib.hid (show L[q]? = some xq by rw [hxq, List.getD_eq_getElem?_getD, List.getElem?_eq_getElem (by rw [HL.out]; exact hqm)]; rfl)
  clear hq hx0 hxq hm0
  by_cases hz0 : x0 = 0
  case neg =>
    have HE := Lib.hid (cc_first (g := g) HX0.out hz0)
    have g1 : (x0 != 0) = true := bne_yes hz0
    have g2 : (x0 == 0) = false := beq_no hz0
    clear hz0
    have hKp : Keep [(⟨w.heap.size, 0, none⟩, .int .i64 g.n), (⟨w.heap.size, 1, none⟩, .slice A n c), (⟨b, off, none⟩, .int .i64 x0)] wz := List.forall_mem_cons.2 ⟨⟨r0, r9⟩, List.forall_mem_cons.2 ⟨⟨r1, r9⟩, List.forall_mem_cons.2 ⟨⟨c0, hbl⟩, fun _ h => by simp at h⟩⟩⟩
    refine wp_region_held_drew (S := Keep _) (by kernel_rfl) hKp.drew (fun hHeld => ?_)
    have Vd := Lib.hid (V.out.go (bdrew _))
    refine tk 0 ?_ rfl ?_ ?_; rotate_left
    · intro wl hSw
      have hSw : Keep _ wl := hSw
      have k0 : wl.cell? ⟨w.heap.size, 0, none⟩ = some (.int .i64 g.n) := (hSw _ (.head _)).1
      have k1 : wl.cell? ⟨w.heap.size, 1, none⟩ = some (.slice A n c) := (hSw _ (.tail _ (.head _))).1
      clear hSw
      go_simp
      try (with_reducible rfl)
    try simp only [Act.put, sA, sZ, sS]
    refine wpAnyH_ready (rs := [1]) (by kernel_rfl) (by simp) ?_
    refine AllReadyH.cons (List.getElem?_toArray.trans rfl) (fun K hK => ?_) AllReadyH.nil
    go_simp
    refine (HRV.out _ (H.out.below Vd.out.below)).mono ?_
    rintro e w_1 ⟨rfl, b_1⟩
    try go_wp2_with fail
    have V_1 := Lib.hid (Vd.out.go b_1)
    refine hK.out _ _ (hHeld.go b_1) (fun hHeld => ?_)
    clear hK K
    try simp only [Act.put, sA, sZ, sS]
    refine tk 2 ?_ rfl ?_ ?_; rotate_left; focus (intro w hSw; clear hSw; go_simp; try (with_reducible rfl))
    try simp only [Act.put, sA, sZ, sS]
    refine tk 3 ?_ rfl ?_ ?_; rotate_left; focus (intro w hSw; clear hSw; go_simp; try (with_reducible rfl))
    try simp only [Act.put, sA, sZ, sS]
    refine tk 4 ?_ rfl ?_ ?_; rotate_left; focus (intro w hSw; clear hSw; go_simp; try (with_reducible rfl))
    try simp only [Act.put, sA, sZ, sS]
    refine tk 5 ?_ rfl ?_ ?_; rotate_left; focus (intro w hSw; clear hSw; go_simp; try (with_reducible rfl))
    try simp only [Act.put, sA, sZ, sS]
    refine tk 6 ?_ rfl ?_ ?_; rotate_left; focus (intro w hSw; clear hSw; go_simp; try (with_reducible rfl))
    try simp only [Act.put, sA, sZ, sS]
    refine tk 7 ?_ rfl ?_ ?_; rotate_left; focus (intro w hSw; clear hSw; go_simp; try (with_reducible rfl))
    try simp only [Act.put, sA, sZ, sS]
    refine tk 8 ?_ rfl ?_ ?_; rotate_left; focus (intro w hSw; clear hSw; go_simp; try (with_reducible rfl))
    try simp only [Act.put, sA, sZ, sS]
    refine tk 9 ?_ rfl ?_ ?_; rotate_left; focus (intro w hSw; clear hSw; go_simp; try (with_reducible rfl))
    try simp only [Act.put, sA, sZ, sS]
    refine tk 10 ?_ rfl ?_ ?_; rotate_left; focus (intro w hSw; clear hSw; go_simp; try (with_reducible rfl))
    try simp only [Act.put, sA, sZ, sS]
    refine tk 11 ?_ rfl ?_ ?_; rotate_left
    · intro wl hSw
      have hSw : Keep _ wl := hSw
      have k0 : wl.cell? ⟨b, off, none⟩ = some (.int .i64 x0) := (hSw _ (.tail _ (.tail _ (.head _)))).1
      clear hSw
      go_simp
      try (with_reducible rfl)
    try simp only [Act.put, sA, sZ, sS]
    refine tk 12 ?_ rfl ?_ ?_; rotate_left; focus (intro w hSw; clear hSw; go_simp; try (with_reducible rfl))
    try simp only [Act.put, sA, sZ, sS]
    refine tk 13 ?_ rfl ?_ ?_; rotate_left; focus (intro w hSw; clear hSw; go_simp; try (with_reducible rfl))
    try simp only [Act.put, sA, sZ, sS]
    refine tk 14 ?_ rfl ?_ ?_; rotate_left; focus (intro w hSw; clear hSw; go_simp; try (with_reducible rfl))
    try simp only [Act.put, sA, sZ, sS]
    refine tu 15 rfl ?_
    try simp only [Act.put, sA, sZ, sS]
    refine tu 16 rfl ?_
    try simp only [Act.put, sA, sZ, sS]
    refine tu 17 rfl ?_
    try simp only [Act.put, sA, sZ, sS]
    refine tu 18 rfl ?_
    try simp only [Act.put, sA, sZ, sS]
    refine tu 19 rfl ?_
    try simp only [Act.put, sA, sZ, sS]
    refine tu 20 rfl ?_
    try simp only [Act.put, sA, sZ, sS]
    refine tu 21 rfl ?_
    try simp only [Act.put, sA, sZ, sS]
    refine tu 22 rfl ?_
    try simp only [Act.put, sA, sZ, sS]
    refine tu 23 rfl ?_
    try simp only [Act.put, sA, sZ, sS]
    refine tu 24 rfl ?_
    try simp only [Act.put, sA, sZ, sS]
    refine tk 25 ?_ rfl ?_ ?_; rotate_left; focus (intro w hSw; clear hSw; go_simp; try (with_reducible rfl))
    try simp only [Act.put, sA, sZ, sS]
    refine wpAnyH_done (by kernel_rfl) ?_ _
    go_wp2_with fail
    go_ret
    exact ⟨ret_bool HE.out.symm, V_1.out.below⟩
  subst hz0
  by_cases hle : g.n - 1 ≤ xq
  case pos =>
    have HE := Lib.hid (cc_last (g := g) HXQ.out hle)
    have hKp : Keep [(⟨w.heap.size, 0, none⟩, .int .i64 g.n), (⟨w.heap.size, 1, none⟩, .slice A n c), (⟨b, off, none⟩, .int .i64 0), (⟨b, off + q, none⟩, .int .i64 xq)] wz := List.forall_mem_cons.2 ⟨⟨r0, r9⟩, List.forall_mem_cons.2 ⟨⟨r1, r9⟩, List.forall_mem_cons.2 ⟨⟨c0, hbl⟩, List.forall_mem_cons.2 ⟨⟨cq, hbl⟩, fun _ h => by simp at h⟩⟩⟩⟩
    refine wp_region_held_drew (S := Keep _) (by kernel_rfl) hKp.drew (fun hHeld => ?_)
    have Vd := Lib.hid (V.out.go (bdrew _))
    refine tk 0 ?_ rfl ?_ ?_; rotate_left
    · intro wl hSw
      have hSw : Keep _ wl := hSw
      have k0 : wl.cell? ⟨w.heap.size, 0, none⟩ = some (.int .i64 g.n) := (hSw _ (.head _)).1
      have k1 : wl.cell? ⟨w.heap.size, 1, none⟩ = some (.slice A n c) := (hSw _ (.tail _ (.head _))).1
      clear hSw
      go_simp
      try (with_reducible rfl)
    try simp only [Act.put, sA, sZ, sS]
    refine wpAnyH_ready (rs := [1]) (by kernel_rfl) (by simp) ?_
    refine AllReadyH.cons (List.getElem?_toArray.trans rfl) (fun K hK => ?_) AllReadyH.nil
    go_simp
    refine (HRV.out _ (H.out.below Vd.out.below)).mono ?_
    rintro e w_1 ⟨rfl, b_1⟩
    try go_wp2_with fail
    have V_1 := Lib.hid (Vd.out.go b_1)
    refine hK.out _ _ (hHeld.go b_1) (fun hHeld => ?_)
    clear hK K
    try simp only [Act.put, sA, sZ, sS]
    refine tk 2 ?_ rfl ?_ ?_; rotate_left; focus (intro w hSw; clear hSw; go_simp; try (with_reducible rfl))
    try simp only [Act.put, sA, sZ, sS]
    refine tk 3 ?_ rfl ?_ ?_; rotate_left; focus (intro w hSw; clear hSw; go_simp; try (with_reducible rfl))
    try simp only [Act.put, sA, sZ, sS]
    refine tk 4 ?_ rfl ?_ ?_; rotate_left; focus (intro w hSw; clear hSw; go_simp; try (with_reducible rfl))
    try simp only [Act.put, sA, sZ, sS]
    refine tk 5 ?_ rfl ?_ ?_; rotate_left; focus (intro w hSw; clear hSw; go_simp; try (with_reducible rfl))
    try simp only [Act.put, sA, sZ, sS]
    refine tk 6 ?_ rfl ?_ ?_; rotate_left; focus (intro w hSw; clear hSw; go_simp; try (with_reducible rfl))
    try simp only [Act.put, sA, sZ, sS]
    refine tk 7 ?_ rfl ?_ ?_; rotate_left; focus (intro w hSw; clear hSw; go_simp; try (with_reducible rfl))
    try simp only [Act.put, sA, sZ, sS]
    refine tk 8 ?_ rfl ?_ ?_; rotate_left; focus (intro w hSw; clear hSw; go_simp; try (with_reducible rfl))
    try simp only [Act.put, sA, sZ, sS]
    refine tk 9 ?_ rfl ?_ ?_; rotate_left; focus (intro w hSw; clear hSw; go_simp; try (with_reducible rfl))
    try simp only [Act.put, sA, sZ, sS]
    refine tk 10 ?_ rfl ?_ ?_; rotate_left; focus (intro w hSw; clear hSw; go_simp; try (with_reducible rfl))
    try simp only [Act.put, sA, sZ, sS]
    refine tk 11 ?_ rfl ?_ ?_; rotate_left
    · intro wl hSw
      have hSw : Keep _ wl := hSw
      have k0 : wl.cell? ⟨b, off, none⟩ = some (.int .i64 0) := (hSw _ (.tail _ (.tail _ (.head _)))).1
      clear hSw
      go_simp
      try (with_reducible rfl)
    try simp only [Act.put, sA, sZ, sS]
    refine tk 12 ?_ rfl ?_ ?_; rotate_left; focus (intro w hSw; clear hSw; go_simp; try (with_reducible rfl))
    try simp only [Act.put, sA, sZ, sS]
    refine tk 13 ?_ rfl ?_ ?_; rotate_left; focus (intro w hSw; clear hSw; go_simp; try (with_reducible rfl))
    try simp only [Act.put, sA, sZ, sS]
    refine tk 14 ?_ rfl ?_ ?_; rotate_left; focus (intro w hSw; clear hSw; go_simp; try (with_reducible rfl))
    try simp only [Act.put, sA, sZ, sS]
    refine tk 15 ?_ rfl ?_ ?_; rotate_left; focus (intro w hSw; clear hSw; go_simp; try (with_reducible rfl))
    try simp only [Act.put, sA, sZ, sS]
    refine tk 16 ?_ rfl ?_ ?_; rotate_left; focus (intro w hSw; clear hSw; go_simp; try (with_reducible rfl))
    try simp only [Act.put, sA, sZ, sS]
    refine tk 17 ?_ rfl ?_ ?_; rotate_left; focus (intro w hSw; clear hSw; go_simp; try (with_reducible rfl))
    try simp only [Act.put, sA, sZ, sS]
    refine tk 18 ?_ rfl ?_ ?_; rotate_left; focus (intro w hSw; clear hSw; go_simp; try (with_reducible rfl))
    try simp only [Act.put, sA, sZ, sS]
    refine tk 19 ?_ rfl ?_ ?_; rotate_left; focus (intro w hSw; clear hSw; go_simp; try (with_reducible rfl))
    try simp only [Act.put, sA, sZ, sS]
    refine tk 20 ?_ rfl ?_ ?_; rotate_left
    · intro wl hSw
      have hSw : Keep _ wl := hSw
      have k0 : wl.cell? ⟨b, off + q, none⟩ = some (.int .i64 xq) := (hSw _ (.tail _ (.tail _ (.tail _ (.head _))))).1
      clear hSw
      go_simp
      try (with_reducible rfl)
    try simp only [Act.put, sA, sZ, sS]
    refine tk 21 ?_ rfl ?_ ?_; rotate_left; focus (intro w hSw; clear hSw; go_simp; try (with_reducible rfl))
    try simp only [Act.put, sA, sZ, sS]
    refine tk 22 ?_ rfl ?_ ?_; rotate_left
    · intro wl hSw
      have hSw : Keep _ wl := hSw
      have k0 : wl.cell? ⟨w.heap.size, 0, none⟩ = some (.int .i64 g.n) := (hSw _ (.head _)).1
      clear hSw
      go_simp
      try (with_reducible rfl)
    try simp only [Act.put, sA, sZ, sS]
    refine tk 23 ?_ rfl ?_ ?_; rotate_left; focus (intro w hSw; clear hSw; go_simp; try (with_reducible rfl))
    try simp only [Act.put, sA, sZ, sS]
    refine tk 24 ?_ rfl ?_ ?_; rotate_left; focus (intro w hSw; clear hSw; go_simp; try (with_reducible rfl))
    try simp only [Act.put, sA, sZ, sS]
    refine tk 25 ?_ rfl ?_ ?_; rotate_left; focus (intro w hSw; clear hSw; go_simp; try (with_reducible rfl))
    try simp only [Act.put, sA, sZ, sS]
    refine wpAnyH_done (by kernel_rfl) ?_ _
    go_wp2_with fail
    go_ret
    exact ⟨ret_bool HE.out.symm, V_1.out.below⟩
  have hKp : Keep [(⟨w.heap.size, 0, none⟩, .int .i64 g.n), (⟨w.heap.size, 1, none⟩, .slice A n c), (⟨b, off, none⟩, .int .i64 0), (⟨b, off + q, none⟩, .int .i64 xq)] wz := List.forall_mem_cons.2 ⟨⟨r0, r9⟩, List.forall_mem_cons.2 ⟨⟨r1, r9⟩, List.forall_mem_cons.2 ⟨⟨c0, hbl⟩, List.forall_mem_cons.2 ⟨⟨cq, hbl⟩, fun _ h => by simp at h⟩⟩⟩⟩
  refine wp_region_held_drew (S := Keep _) (by kernel_rfl) hKp.drew (fun hHeld => ?_)
  have Vd := Lib.hid (V.out.go (bdrew _))
  refine tk 0 ?_ rfl ?_ ?_; rotate_left
  · intro wl hSw
    have hSw : Keep _ wl := hSw
    have k0 : wl.cell? ⟨w.heap.size, 0, none⟩ = some (.int .i64 g.n) := (hSw _ (.head _)).1
    have k1 : wl.cell? ⟨w.heap.size, 1, none⟩ = some (.slice A n c) := (hSw _ (.tail _ (.head _))).1
    clear hSw
    go_simp
    try (with_reducible rfl)
  try simp only [Act.put, sA, sZ, sS]
  refine wpAnyH_ready (rs := [1]) (by kernel_rfl) (by simp) ?_
  refine AllReadyH.cons (List.getElem?_toArray.trans rfl) (fun K hK => ?_) AllReadyH.nil
  go_simp
  refine (HRV.out _ (H.out.below Vd.out.below)).mono ?_
  rintro e w_1 ⟨rfl, b_1⟩
  try go_wp2_with fail
  have V_1 := Lib.hid (Vd.out.go b_1)
  refine hK.out _ _ (hHeld.go b_1) (fun hHeld => ?_)
  clear hK K
  try simp only [Act.put, sA, sZ, sS]
  refine tk 2 ?_ rfl ?_ ?_; rotate_left; focus (intro w hSw; clear hSw; go_simp; try (with_reducible rfl))
  try simp only [Act.put, sA, sZ, sS]
  refine tk 3 ?_ rfl ?_ ?_; rotate_left; focus (intro w hSw; clear hSw; go_simp; try (with_reducible rfl))
  try simp only [Act.put, sA, sZ, sS]
  refine tk 4 ?_ rfl ?_ ?_; rotate_left; focus (intro w hSw; clear hSw; go_simp; try (with_reducible rfl))
  try simp only [Act.put, sA, sZ, sS]
  refine tk 5 ?_ rfl ?_ ?_; rotate_left; focus (intro w hSw; clear hSw; go_simp; try (with_reducible rfl))
  try simp only [Act.put, sA, sZ, sS]
  refine tk 6 ?_ rfl ?_ ?_; rotate_left; focus (intro w hSw; clear hSw; go_simp; try (with_reducible rfl))
  try simp only [Act.put, sA, sZ, sS]
  refine tk 7 ?_ rfl ?_ ?_; rotate_left; focus (intro w hSw; clear hSw; go_simp; try (with_reducible rfl))
  try simp only [Act.put, sA, sZ, sS]
  refine tk 8 ?_ rfl ?_ ?_; rotate_left; focus (intro w hSw; clear hSw; go_simp; try (with_reducible rfl))
  try simp only [Act.put, sA, sZ, sS]
  refine tk 9 ?_ rfl ?_ ?_; rotate_left; focus (intro w hSw; clear hSw; go_simp; try (with_reducible rfl))
  try simp only [Act.put, sA, sZ, sS]
  refine tk 10 ?_ rfl ?_ ?_; rotate_left; focus (intro w hSw; clear hSw; go_simp; try (with_reducible rfl))
  try simp only [Act.put, sA, sZ, sS]
  refine tk 11 ?_ rfl ?_ ?_; rotate_left
  · intro wl hSw
    have hSw : Keep _ wl := hSw
    have k0 : wl.cell? ⟨b, off, none⟩ = some (.int .i64 0) := (hSw _ (.tail _ (.tail _ (.head _)))).1
    clear hSw
    go_simp
    try (with_reducible rfl)
  try simp only [Act.put, sA, sZ, sS]
  refine tk 12 ?_ rfl ?_ ?_; rotate_left; focus (intro w hSw; clear hSw; go_simp; try (with_reducible rfl))
  try simp only [Act.put, sA, sZ, sS]
  refine tk 13 ?_ rfl ?_ ?_; rotate_left; focus (intro w hSw; clear hSw; go_simp; try (with_reducible rfl))
  try simp only [Act.put, sA, sZ, sS]
  refine tk 14 ?_ rfl ?_ ?_; rotate_left; focus (intro w hSw; clear hSw; go_simp; try (with_reducible rfl))
  try simp only [Act.put, sA, sZ, sS]
  refine tk 15 ?_ rfl ?_ ?_; rotate_left; focus (intro w hSw; clear hSw; go_simp; try (with_reducible rfl))
  try simp only [Act.put, sA, sZ, sS]
  refine tk 16 ?_ rfl ?_ ?_; rotate_left; focus (intro w hSw; clear hSw; go_simp; try (with_reducible rfl))
  try simp only [Act.put, sA, sZ, sS]
  refine tk 17 ?_ rfl ?_ ?_; rotate_left; focus (intro w hSw; clear hSw; go_simp; try (with_reducible rfl))
  try simp only [Act.put, sA, sZ, sS]
  refine tk 18 ?_ rfl ?_ ?_; rotate_left; focus (intro w hSw; clear hSw; go_simp; try (with_reducible rfl))
  try simp only [Act.put, sA, sZ, sS]
  refine tk 19 ?_ rfl ?_ ?_; rotate_left; focus (intro w hSw; clear hSw; go_simp; try (with_reducible rfl))
  try simp only [Act.put, sA, sZ, sS]
  refine tk 20 ?_ rfl ?_ ?_; rotate_left
  · intro wl hSw
    have hSw : Keep _ wl := hSw
    have k0 : wl.cell? ⟨b, off + q, none⟩ = some (.int .i64 xq) := (hSw _ (.tail _ (.tail _ (.tail _ (.head _))))).1
    clear hSw
    go_simp
    try (with_reducible rfl)
  try simp only [Act.put, sA, sZ, sS]
  refine tk 21 ?_ rfl ?_ ?_; rotate_left; focus (intro w hSw; clear hSw; go_simp; try (with_reducible rfl))
  try simp only [Act.put, sA, sZ, sS]
  refine tk 22 ?_ rfl ?_ ?_; rotate_left
  · intro wl hSw
    have hSw : Keep _ wl := hSw
    have k0 : wl.cell? ⟨w.heap.size, 0, none⟩ = some (.int .i64 g.n) := (hSw _ (.head _)).1
    clear hSw
    go_simp
    try (with_reducible rfl)
  try simp only [Act.put, sA, sZ, sS]
  refine tk 23 ?_ rfl ?_ ?_; rotate_left; focus (intro w hSw; clear hSw; go_simp; try (with_reducible rfl))
  try simp only [Act.put, sA, sZ, sS]
  refine tk 24 ?_ rfl ?_ ?_; rotate_left; focus (intro w hSw; clear hSw; go_simp; try (with_reducible rfl))
  try simp only [Act.put, sA, sZ, sS]
  refine tk 25 ?_ rfl ?_ ?_; rotate_left; focus (intro w hSw; clear hSw; go_simp; try (with_reducible rfl))
  try simp only [Act.put, sA, sZ, sS]
  refine wpAnyH_done (by kernel_rfl) ?_ _
  clear hKp hHeld Vd c0 cq hbl r0 r1 r9
  obtain ⟨N, hN⟩ : ∃ N, N = g.n.toNat := ⟨_, rfl⟩
  have hN1 : 1 ≤ N := by omega
  have hN0 : 0 < N := by omega
  have hN2 : N ≤ 2000 := by omega
  have hnl : n ≤ 6000 := by have := HO.out.len; have := H.out.len; omega
  have hgN : g.n = (N : Int) := by omega
  have HGN := Lib.hid hgN
  have HN := Lib.hid hN
  obtain ⟨r0, r1, r9⟩ := V_1.out.gb (i := 0) rfl
  have hmk := fun w => make_bools g.n N hgN (by omega) w
  obtain ⟨wy, hwy⟩ : ∃ z, z = w_1.alloc (.cells (Array.replicate N (.bool false)) 4) := ⟨_, rfl⟩
  have HY := Lib.hid hwy
  have VY := Lib.hid (show Hp w [flags (some ⟨w_1.heap.size, 0, none⟩) N N (marks N (L.take 0)), gbox w.heap.size g (A) n c] wy by
    rw [hwy]; exact V_1.out.made_flagsA N (by omega))
  obtain ⟨gm, hgm⟩ : ∃ gm, gm = w_1.heap.size := ⟨_, rfl⟩
  rw [← hgm] at VY
  clear hN hgN hwy n1 n2 hw2
  go_upto_region 4 with fail
  rw [← HY.out, ← hgm]
  clear HY hmk r0 r1 r9 hgm V_1
  have HLE := Lib.hid hle
  clear hle hw1 gm0
  go_wp2_with fail
  have HR1 := Lib.hid (show ∀ (i : Nat) x, i < 0 → L[i]? = some x → 0 ≤ x ∧ x < g.n from fun i x h => absurd h (Nat.not_lt_zero _))
  have HR2 := Lib.hid (show ∀ (i : Nat) x y, i + 1 < 0 → L[i]? = some x → L[i + 1]? = some y → x < y from fun i x y h => absurd h (Nat.not_lt_zero _))
  go_loopw [6] (fun cv wr => ∃ k : Nat, cv = .int .i64 (k : Int) ∧ k ≤ m ∧ (∀ (i : Nat) x, i < k → L[i]? = some x → 0 ≤ x ∧ x < g.n) ∧ (∀ (i : Nat) x y, i + 1 < k → L[i]? = some x → L[i + 1]? = some y → x < y) ∧ Hp w [flags (some ⟨gm, 0, none⟩) N N (marks N (L.take k)), gbox w.heap.size g A n c] wr) (fun cv _ => m - (intOf cv).toNat)
  case atStart => exact ⟨0, rfl, Nat.zero_le _, HR1.out, HR2.out, VY.out⟩
  case round =>
    clear HR1 HR2 VY
    obtain ⟨k, rfl, hkm, hr1, hr2, hV⟩ := hrel
    obtain ⟨wi, rfl⟩ : ∃ wi : World, wi = wr := ⟨_, rfl⟩
    have V := Lib.hid hV
    have HR1 := Lib.hid hr1
    have HR2 := Lib.hid hr2
    clear hV hr1 hr2
    by_cases hlt : k < m
    case neg =>
      obtain rfl : k = m := by omega
      clear hlt hkm hqm
      obtain ⟨F, hF⟩ : ∃ F, F = marks N L := ⟨_, rfl⟩
      have HFL := Lib.hid (show F.length = N by rw [hF, marks_len])
      have V3 := Lib.hid (show Hp w [flags (some ⟨gm, 0, none⟩) N N F, gbox w.heap.size g A n c] wi by
        have := V.out
        rwa [List.take_of_length_le (by rw [HL.out]; exact Nat.le_refl _), ← hF] at this)
      have HCC := Lib.hid (show g.ccV L = !(g.rs.any (leaves F)) by
        obtain ⟨h1, h2, h3⟩ := cc_in (g := g) (by rw [HL.out]; exact HQ.out) HX0.out HXQ.out (by have := HLE.out; omega) (fun i x hx => (HR1.out i x (by have := (List.getElem?_eq_some_iff.1 hx).1; have := HL.out; omega) hx).2) (fun i x y hx hy => HR2.out i x y (by have := (List.getElem?_eq_some_iff.1 hy).1; have := HL.out; omega) hx hy)
        rw [hF]
        exact cc_all HV.out HN.out h1 h2 h3)
      clear hF V HR1 HR2
      go_wp2_with fail
      go_loopw [7] (fun cv wr => ∃ i : Nat, cv = .int .i64 (i : Int) ∧ i ≤ n ∧ (∀ (j : Nat) a, j < i → g.rs[j]? = some a → leaves F a = false) ∧ Hp w [flags (some ⟨gm, 0, none⟩) N N F, gbox w.heap.size g A n c] wr) (fun cv _ => n - (intOf cv).toNat)
      case atStart => exact ⟨0, rfl, Nat.zero_le _, fun j a h => absurd h (Nat.not_lt_zero _), V3.out⟩
      case round =>
        clear V3
        obtain ⟨i, rfl, hin, hr, hV⟩ := hrel
        obtain ⟨wj, rfl⟩ : ∃ wj : World, wj = wr := ⟨_, rfl⟩
        have V := Lib.hid hV
        have HR := Lib.hid hr
        clear hV hr
        obtain ⟨r0, r1, r9⟩ := V.out.gb (i := 1) rfl
        by_cases hilt : i < n
        case neg =>
          have HE := Lib.hid (show g.ccV L = true by
            rw [HCC.out]
            cases h4 : g.rs.any (leaves F) with
            | false => rfl
            | true =>
              obtain ⟨a, ha, h5⟩ := List.any_eq_true.1 h4
              obtain ⟨j, hj⟩ := List.mem_iff_getElem?.1 ha
              rw [HR.out j a (by have := (List.getElem?_eq_some_iff.1 hj).1; have := H.out.len; omega) hj] at h5
              cases h5)
          go_wp2_with fail
          go_ret
          exact ⟨ret_bool HE.out.symm, V.out.below⟩
        obtain ⟨⟨f, t, ct⟩, ba, oa, ha, hae, rfl, hbw, c0', c1', c2'⟩ := H.out.at hilt
        have har := HO.out.arc _ (List.mem_of_getElem? ha)
        dsimp only at har c0' c1'
        have hgn := HGN.out
        obtain ⟨f, rfl⟩ := Int.eq_ofNat_of_zero_le (show 0 ≤ f by omega)
        obtain ⟨t, rfl⟩ := Int.eq_ofNat_of_zero_le (show 0 ≤ t by omega)
        have hfN : f < N := by omega
        have htN : t < N := by omega
        have a0 := (V.out.below.cell (p := ⟨ba, oa + i * 3, none⟩) hbw).trans c0'
        have a1 := (V.out.below.cell (p := ⟨ba, oa + i * 3 + 1, none⟩) hbw).trans c1'
        have hbb := Nat.lt_of_lt_of_le hbw V.out.below.size
        have hi3 : i * 3 ≤ 18000 := by omega
        obtain ⟨y1, _, y3⟩ := V.out.flag_at (i := 0) rfl (j := f) (by rw [HFL.out]; exact hfN)
        obtain ⟨z1, _, _⟩ := V.out.flag_at (i := 0) rfl (j := t) (by rw [HFL.out]; exact htN)
        obtain ⟨y, hy⟩ : ∃ y, y = F.getD f false := ⟨_, rfl⟩
        obtain ⟨z, hz⟩ : ∃ z, z = F.getD t false := ⟨_, rfl⟩
        rw [← hy] at y1
        rw [← hz] at z1
        have HLV := Lib.hid (show leaves F ⟨f, t, ct⟩ = (y && !z) by rw [hy, hz]; rfl)
        have HA := Lib.hid ha
        have HST := Lib.hid (show leaves F ⟨f, t, ct⟩ = false → ∀ (j : Nat) a, j < i + 1 → g.rs[j]? = some a → leaves F a = false from fun h j a hj hja => by
          by_cases e : j = i
          · subst e
            have := HA.out.symm.trans hja
            injection this with this
            rw [← this]; exact h
          · exact HR.out j a (by omega) hja)
        clear ha hae har hgn c0' c1' c2' hy hz
        rcases y with _ | _
        · have H5 := Lib.hid (HST.out HLV.out)
          go_wp2_with fail
          go_roundw
          case rel => exact ⟨i + 1, by go_num, by omega, H5.out, V.out⟩
          case measure => simp [intOf]; omega
        · rcases z with _ | _
          · have HE := Lib.hid (show g.ccV L = false by
              rw [HCC.out, List.any_eq_true.2 ⟨_, List.mem_of_getElem? HA.out, HLV.out⟩]; rfl)
            go_wp2_with fail
            go_ret
            exact ⟨ret_bool HE.out.symm, V.out.below⟩
          · have H5 := Lib.hid (HST.out HLV.out)
            go_wp2_with fail
            go_roundw
            case rel => exact ⟨i + 1, by go_num, by omega, H5.out, V.out⟩
            case measure => simp [intOf]; omega
    obtain ⟨bb, oo, he, hbl, c0⟩ := (HB.out.below V.out.below).int (j := k) (by rw [HL.out]; exact hlt)
    injection he with he
    injection he with he1 he2
    subst he1; subst he2
    obtain ⟨x, hx⟩ : ∃ x, x = L.getD k 0 := ⟨_, rfl⟩
    rw [← hx] at c0
    have HX := Lib.hid (show L[k]? = some x by rw [hx, List.getD_eq_getElem?_getD, List.getElem?_eq_getElem (by rw [HL.out]; exact hlt)]; rfl)
    have HR3 := Lib.hid (show 0 ≤ x ∧ x < g.n → ∀ (i : Nat) y, i < k + 1 → L[i]? = some y → 0 ≤ y ∧ y < g.n from fun e1 i y hi hy => by
      by_cases e : i = k
      · subst e
        have := HX.out.symm.trans hy
        injection this with this
        rw [← this]; exact e1
      · exact HR1.out i y (by omega) hy)
    clear hx
    obtain ⟨r0, r1, r9⟩ := V.out.gb (i := 1) rfl
    by_cases hk0 : k = 0
    · subst hk0
      obtain rfl : x = 0 := by have := HX.out.symm.trans HX0.out; injection this
      have hx0 : (0 : Int) < g.n := by have := HGN.out; omega
      have hx1 : ¬ g.n ≤ (0 : Int) := by omega
      have H5 := Lib.hid (HR3.out ⟨Int.le_refl 0, hx0⟩)
      have HR4 := Lib.hid (show ∀ (i : Nat) x y, i + 1 < 0 + 1 → L[i]? = some x → L[i + 1]? = some y → x < y from fun i x y hi => absurd hi (by omega))
      obtain ⟨y1, y2, y3⟩ := V.out.flag_at (i := 0) rfl (j := 0) (by rw [marks_len]; exact hN0)
      have V6 := Lib.hid (show ∀ nq, Hp w [flags (some ⟨gm, 0, none⟩) N N (marks N (L.take (0 + 1))), gbox w.heap.size g A n c] ((wi.drewN nq).setCell ⟨gm, 0, none⟩ (.bool true)) from fun nq => by
        have := (V.out.go (bdrewN wi nq)).flag_set (i := 0) rfl 0 true
        rw [show (marks N (L.take 0)).set 0 true = marks N (L.take (0 + 1)) from marks_take HX.out] at this
        exact this)
      rw [Nat.add_zero] at c0
      go_wp2_with fail
      go_quiet (fail)
      go_wp2_with fail
      go_roundw
      case rel => exact ⟨0 + 1, by go_num, by omega, H5.out, HR4.out, V6.out _⟩
      case measure => simp [intOf]; omega
    · obtain ⟨p, hp⟩ : ∃ p, k = p + 1 := ⟨k - 1, by omega⟩
      have hk1 : (0 : Int) < (k : Int) := by omega
      have hk2 : 0 < k := by omega
      have hw : IntKind.i64.wrap ((k : Int) - 1) = (p : Int) := by rw [IntWalk.i64_in _ (by omega)]; omega
      obtain ⟨bb, oo, he, hbl, c1⟩ := (HB.out.below V.out.below).int (j := p) (by rw [HL.out]; omega)
      injection he with he
      injection he with he1 he2
      subst he1; subst he2
      obtain ⟨y, hy⟩ : ∃ y, y = L.getD p 0 := ⟨_, rfl⟩
      rw [← hy] at c1
      have HY := Lib.hid (show L[p]? = some y by rw [hy, List.getD_eq_getElem?_getD, List.getElem?_eq_getElem (by rw [HL.out]; omega)]; rfl)
      have HX2 := Lib.hid (show L[p + 1]? = some x by rw [← hp]; exact HX.out)
      have hpm : p < m := by omega
      have hkm1 : k + 1 ≤ m := by omega
      have hy0 : 0 ≤ y := (HR1.out p y (by omega) HY.out).1
      have HP := Lib.hid hp
      clear hy hp
      by_cases hxy : x ≤ y
      · have HE := Lib.hid (show g.ccV L = false from cc_nl (nlB_no2 HY.out HX2.out hxy))
        go_wp2_with fail
        go_quiet (fail)
        go_wp2_with fail
        go_ret
        exact ⟨ret_bool HE.out.symm, (V.out.go (bdrewN _ _)).below⟩
      by_cases hxn : g.n ≤ x
      · have HE := Lib.hid (show g.ccV L = false from cc_nl (nlB_no HX.out (by omega)))
        go_wp2_with fail
        go_quiet (fail)
        go_wp2_with fail
        go_ret
        exact ⟨ret_bool HE.out.symm, (V.out.go (bdrewN _ _)).below⟩
      have HR4 := Lib.hid (show ∀ (i : Nat) x y, i + 1 < k + 1 → L[i]? = some x → L[i + 1]? = some y → x < y from fun i x' y' hi hx' hy' => by
        by_cases e : i = p
        · subst e
          have e2 := HY.out.symm.trans hx'
          have e3 := HX2.out.symm.trans hy'
          injection e2 with e2
          injection e3 with e3
          omega
        · exact HR2.out i x' y' (by have := HP.out; omega) hx' hy')
      have H5 := Lib.hid (HR3.out ⟨by omega, by omega⟩)
      obtain ⟨X, rfl⟩ := Int.eq_ofNat_of_zero_le (show 0 ≤ x by omega)
      have hXN : X < N := by have := HGN.out; omega
      obtain ⟨y1, y2, y3⟩ := V.out.flag_at (i := 0) rfl (j := X) (by rw [marks_len]; exact hXN)
      have V6 := Lib.hid (show ∀ nq, Hp w [flags (some ⟨gm, 0, none⟩) N N (marks N (L.take (k + 1))), gbox w.heap.size g A n c] ((wi.drewN nq).setCell ⟨gm, X, none⟩ (.bool true)) from fun nq => by
        have := (V.out.go (bdrewN wi nq)).flag_set (i := 0) rfl X true
        rw [show (marks N (L.take k)).set X true = marks N (L.take (k + 1)) from marks_take HX.out] at this
        exact this)
      go_wp2_with fail
      go_quiet (fail)
      go_wp2_with fail
      go_roundw
      case rel => exact ⟨k + 1, by go_num, hkm1, H5.out, HR4.out, V6.out _⟩
      case measure => simp [intOf]; omega
end Go.Proofs.Ytefdklfflemofaa
