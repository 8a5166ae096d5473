/- The chapter's example. -/
import Derived.Test.YtdoobdfanalnbaaDCo
import Derived.Test.YtdoobdfanalnbaaDCn
import Derived.Test.YtdoobdfanalnbaaDCb
namespace Go.Proofs.Ytdoobdfanalnbaa
open Go.RowKit
set_option linter.unusedVariables false
set_option linter.unusedSimpArgs false
set_option maxRecDepth 100000

/-- A row of arcs. -/
def arow (A : Option Addr) (n c : Nat) (rs : List Ar) : Itm := ⟨60, 3, .slice A n c, n, acells rs⟩
/-- The graph of the chapter, and what is left of it. -/
def exG : Gr := ⟨4, [⟨0, 1, 1⟩, ⟨0, 2, 2⟩, ⟨1, 3, 3⟩, ⟨2, 3, 4⟩, ⟨0, 3, 9⟩]⟩
def exL : Gr := ⟨4, [⟨0, 1, 1⟩, ⟨0, 2, 2⟩]⟩
theorem exG_ok : exG.vE = 0 := by decide
theorem exL_ok : exL.vE = 0 := by decide
theorem exG_pth : exG.pth = ([[0, 2], [1, 3], [4]], 0) := by decide
theorem exG_cst : exG.cst [1, 3] = (6, 0) := by decide
theorem exL_cut : exL.cutV = ([0, 1, 2], 0) := by decide
theorem example_any (w : World) : Calls Try.prog 59 #[] w fun e w' => ∃ b : Nat, e = .returned (.agg #[.int .i64 4, .slice (some ⟨b, 0, none⟩) 5 5]) ∧ Hp w [arow (some ⟨b, 0, none⟩) 5 5 exG.rs] w' := by
  obtain ⟨wz, hwz⟩ : ∃ z, z = w.alloc (.cells #[.int .i64 0, .slice none 0 0] 24) := ⟨_, rfl⟩
  have HZ := Lib.hid hwz
  have V := Lib.hid (show Hp w [box 24 w.heap.size [.int .i64 0, .slice none 0 0]] wz by rw [hwz]; exact (Hp.start w).box_new _ _)
  clear hwz
  go_enter Try.func59, Try.ntmps59
  go_upto_region 1 with fail
  rw [← HZ.out]
  clear HZ
  obtain ⟨wy, hwy⟩ : ∃ z, z = wz.alloc (.cells (acells exG.rs).toArray 60) := ⟨_, rfl⟩
  have VY := Lib.hid (show Hp w [arow (some ⟨wz.heap.size, 0, none⟩) 5 5 exG.rs, box 24 w.heap.size [.int .i64 0, .slice none 0 0]] wy by rw [hwy]; exact V.out.lit 60 3 5 (acells exG.rs) rfl (by omega))
  have HY := Lib.hid (show wy = wz.alloc (.cells #[.int .i64 0, .int .i64 1, .int .i64 1, .int .i64 0, .int .i64 2, .int .i64 2, .int .i64 1, .int .i64 3, .int .i64 3, .int .i64 2, .int .i64 3, .int .i64 4, .int .i64 0, .int .i64 3, .int .i64 9] 60) from hwy)
  clear hwy
  obtain ⟨gb, hgb⟩ : ∃ gb, gb = w.heap.size := ⟨_, rfl⟩
  rw [← hgb] at VY ⊢
  obtain ⟨ab, hab⟩ : ∃ ab, ab = wz.heap.size := ⟨_, rfl⟩
  have hlt : gb < ab := by rw [hgb, hab]; exact (V.out.box_at (i := 0) (j := 0) rfl rfl).2.2
  obtain ⟨r0, f0, l0⟩ := VY.out.box_at (i := 1) (j := 0) rfl rfl
  obtain ⟨r1, f1, l1⟩ := VY.out.box_at (i := 1) (j := 1) rfl rfl
  have VF := ((VY.out.box_set (i := 1) rfl 0 (.int .i64 4)).box_set (i := 1) rfl 1 (.slice (some ⟨wz.heap.size, 0, none⟩) 5 5))
  obtain ⟨q0, _, _⟩ := VF.box_at (i := 1) (j := 0) rfl rfl
  obtain ⟨q1, _, _⟩ := VF.box_at (i := 1) (j := 1) rfl rfl
  have VG := Lib.hid (VF.front (l1 := [arow (some ⟨wz.heap.size, 0, none⟩) 5 5 exG.rs]))
  rw [HY.out] at r0 f0 l0 r1 f1 l1 q0 q1 VG
  clear VF hab hgb V VY
  go_wp2_with fail
  exact bodyPost_ret (v := .agg #[.int .i64 4, .slice (some ⟨wz.heap.size, 0, none⟩) 5 5]) (by simp [results, Try.results59, go_sem, q0, q1]) rfl ⟨_, rfl, VG.out⟩
theorem arow_in {W w : World} {l : List Itm} {i b n c : Nat} {rs : List Ar} (h : Hp W l w) (hi : l[i]? = some (arow (some ⟨b, 0, none⟩) n c rs)) : CellsIn w (some ⟨b, 0, none⟩) (acells rs) := h.cells hi (A := some ⟨b, 0, none⟩) (c := c) rfl
theorem awake_any (w : World) : Calls Try.prog 15 #[] w fun e w' => e = .returned (.bool true) ∧ Below w.heap.size w w' := by
  go_enter Try.func15, Try.ntmps15
  go_wp2_with fail
  refine (example_any _).mono ?_
  rintro e w1 ⟨b1, rfl, hp1⟩
  have V1 := Lib.hid hp1
  clear hp1
  go_wp2_with fail
  refine (example_any _).mono ?_
  rintro e w2 ⟨b2, rfl, hp2⟩
  have V2 := Lib.hid (V1.out.join hp2)
  clear hp2 V1
  obtain ⟨g1, hg1⟩ : ∃ g1, g1 = w2.heap.size := ⟨_, rfl⟩
  obtain ⟨w3, hw3⟩ : ∃ z, z = (w2.alloc (.cells #[.int .i64 4, .slice (some ⟨b1, 0, none⟩) 5 5] 24)).alloc (.cells #[.int .i64 4, .slice (some ⟨b2, 0, none⟩) 5 5] 24) := ⟨_, rfl⟩
  have H3 := Lib.hid hw3
  have V3 := Lib.hid (show Hp w [box 24 (g1 + 1) [.int .i64 4, .slice (some ⟨b2, 0, none⟩) 5 5], box 24 g1 [.int .i64 4, .slice (some ⟨b1, 0, none⟩) 5 5], arow (some ⟨b2, 0, none⟩) 5 5 exG.rs, arow (some ⟨b1, 0, none⟩) 5 5 exG.rs] w3 by
    rw [hw3]
    have h1 := V2.out.box_new 24 [.int .i64 4, .slice (some ⟨b1, 0, none⟩) 5 5]
    have h2 := h1.box_new 24 [.int .i64 4, .slice (some ⟨b2, 0, none⟩) 5 5]
    rw [World.size_alloc, ← hg1] at h2
    exact h2)
  clear hw3 V2
  go_upto_region 2 with fail
  rw [← H3.out, ← hg1]
  clear H3 hg1
  obtain ⟨r0, f0, l0⟩ := V3.out.box_at (i := 0) (j := 1) rfl rfl
  have V4' := V3.out.box_set (i := 0) rfl 1 (.slice (some ⟨b2, 0, none⟩) 2 5)
  obtain ⟨w4, hw4⟩ : ∃ z, z = w3.setCell ⟨g1 + 1, 1, none⟩ (.slice (some ⟨b2, 0, none⟩) 2 5) := ⟨_, rfl⟩
  have H4 := Lib.hid hw4
  have V4 := Lib.hid (show Hp w [box 24 (g1 + 1) [.int .i64 4, .slice (some ⟨b2, 0, none⟩) 2 5], box 24 g1 [.int .i64 4, .slice (some ⟨b1, 0, none⟩) 5 5], arow (some ⟨b2, 0, none⟩) 5 5 exG.rs, arow (some ⟨b1, 0, none⟩) 5 5 exG.rs] w4 by rw [hw4]; exact V4')
  clear hw4 V4'
  go_upto_region 3 with fail
  rw [← H4.out]
  clear H4 V3 r0 f0 l0
  have HG : ∀ w', Below w4.heap.size w4 w' → GrIn w' (some ⟨b1, 0, none⟩) 5 5 exG := fun w' hb => ⟨rfl, Nat.le_refl _, by omega, (arow_in V4.out (i := 3) rfl).below hb⟩
  have HL : ∀ w', Below w4.heap.size w4 w' → GrIn w' (some ⟨b2, 0, none⟩) 2 5 exL := fun w' hb => ⟨rfl, by omega, by omega, CellsIn.below (fun h0 => by
    obtain ⟨b, off, e, hlt, hc⟩ := arow_in V4.out (i := 2) rfl (by rw [acells_len]; decide)
    refine ⟨b, off, e, hlt, fun j u hu => hc j u ?_⟩
    have hj := (List.getElem?_eq_some_iff.1 hu).1
    have hj6 : j < 6 := hj
    rw [← hu]
    match j, hj6 with
    | 0, _ => rfl
    | 1, _ => rfl
    | 2, _ => rfl
    | 3, _ => rfl
    | 4, _ => rfl
    | 5, _ => rfl) hb⟩
  have HG' := Lib.hid HG
  have HL' := Lib.hid HL
  clear HG HL
  obtain ⟨r0, _, r9⟩ := V4.out.box_at (i := 1) (j := 0) rfl rfl
  obtain ⟨r1, _, _⟩ := V4.out.box_at (i := 1) (j := 1) rfl rfl
  go_wp2_with fail
  refine (paths_any exG (some ⟨b1, 0, none⟩) 5 5 _ (HG'.out _ (Below.refl _ _))).mono ?_
  rintro e w5 ⟨Q, qn, qc, us, rfl, hqn, hus, hp5⟩
  rw [exG_pth] at hqn hp5 ⊢
  dsimp only at hqn hp5 ⊢
  have hqn3 : qn = 3 := hqn
  subst hqn3
  have HRI := Lib.hid (show RowsIn w5 Q [[0, 2], [1, 3], [4]] from rowsG_in (l := [rvals Q 3 qc us [[0, 2], [1, 3], [4]]]) (i := 0) hp5 rfl hus (fun row hr => by
    have : row.length ≤ 2 := by
      simp only [List.mem_cons, List.not_mem_nil, or_false] at hr
      rcases hr with rfl | rfl | rfl <;> decide
    omega))
  have B5 := Lib.hid hp5.below
  have V5 := Lib.hid (V4.out.go hp5.below)
  clear hp5 hqn hus r0 r1 r9
  obtain ⟨r0, _, r9⟩ := V5.out.box_at (i := 1) (j := 0) rfl rfl
  obtain ⟨r1, _, _⟩ := V5.out.box_at (i := 1) (j := 1) rfl rfl
  obtain ⟨w6, hw6⟩ : ∃ z, z = w5.alloc (.cells #[.int .i64 1, .int .i64 3] 3) := ⟨_, rfl⟩
  have H6 := Lib.hid hw6
  have V6 := Lib.hid (show Hp w [nums (some ⟨w5.heap.size, 0, none⟩) 2 2 [1, 3], box 24 (g1 + 1) [.int .i64 4, .slice (some ⟨b2, 0, none⟩) 2 5], box 24 g1 [.int .i64 4, .slice (some ⟨b1, 0, none⟩) 5 5], arow (some ⟨b2, 0, none⟩) 5 5 exG.rs, arow (some ⟨b1, 0, none⟩) 5 5 exG.rs] w6 by
    rw [hw6]; exact V5.out.lit 3 1 2 [.int .i64 1, .int .i64 3] rfl (by omega))
  have B6 := Lib.hid (show Below w5.heap.size w5 w6 by rw [hw6]; exact bnew _ _)
  clear hw6
  go_wp2_with fail
  rw [← H6.out]
  refine (cost_any exG (some ⟨b1, 0, none⟩) 5 5 _ 2 2 [1, 3] _ (HG'.out _ (btwo B5.out B6.out)) rfl (by omega) (V6.out.cells (i := 0) rfl rfl)).mono ?_
  rintro e w7 ⟨rfl, b7⟩
  rw [exG_cst]
  dsimp only
  have V7 := Lib.hid (V6.out.tail.go b7)
  have B7 := Lib.hid (btwo B6.out b7)
  clear b7 H6 V6 V5 r0 r1 r9
  obtain ⟨r0, _, r9⟩ := V7.out.box_at (i := 0) (j := 0) rfl rfl
  obtain ⟨r1, _, _⟩ := V7.out.box_at (i := 0) (j := 1) rfl rfl
  go_wp2_with fail
  refine (cut_any exL (some ⟨b2, 0, none⟩) 2 5 _ (HL'.out _ (btwo B5.out B7.out))).mono ?_
  rintro e w8 ⟨C, cn, cc, rfl, hcn, hp8⟩
  rw [exL_cut] at hcn hp8 ⊢
  dsimp only at hcn hp8 ⊢
  have hcn3 : cn = 3 := hcn.symm
  subst hcn3
  have B8 := Lib.hid (btwo B7.out hp8.below)
  have V8' := Lib.hid (show Hp w [nums C 3 cc [0, 1, 2]] w8 from (V7.out.join hp8).front (l1 := [nums C 3 cc [0, 1, 2]]))
  clear hp8 hcn r0 r1 r9 V7
  obtain ⟨w9, hw9⟩ : ∃ z, z = (((w8.alloc (.cells #[.int .i64 0, .int .i64 2] 3)).alloc (.cells #[.int .i64 1, .int .i64 3] 3)).alloc (.cells #[.int .i64 4] 3)).alloc (.cells #[.slice (some ⟨w8.heap.size, 0, none⟩) 2 2, .slice (some ⟨w8.heap.size + 1, 0, none⟩) 2 2, .slice (some ⟨w8.heap.size + 1 + 1, 0, none⟩) 1 1] 27) := ⟨_, rfl⟩
  have H9 := Lib.hid hw9
  have V9 := Lib.hid (show Hp w [rvals (some ⟨w8.heap.size + 1 + 1 + 1, 0, none⟩) 3 3 [(some ⟨w8.heap.size, 0, none⟩, 2), (some ⟨w8.heap.size + 1, 0, none⟩, 2), (some ⟨w8.heap.size + 1 + 1, 0, none⟩, 1)] [[0, 2], [1, 3], [4]], nums (some ⟨w8.heap.size + 1 + 1, 0, none⟩) 1 1 [4], nums (some ⟨w8.heap.size + 1, 0, none⟩) 2 2 [1, 3], nums (some ⟨w8.heap.size, 0, none⟩) 2 2 [0, 2], nums C 3 cc [0, 1, 2]] w9 by
    have h1 := V8'.out.lit 3 1 2 [.int .i64 0, .int .i64 2] rfl (by omega)
    have h2 := h1.lit 3 1 2 [.int .i64 1, .int .i64 3] rfl (by omega)
    have h3 := h2.lit 3 1 1 [.int .i64 4] rfl (by omega)
    have h4 := h3.lit 27 1 3 [.slice (some ⟨w8.heap.size, 0, none⟩) 2 2, .slice (some ⟨w8.heap.size + 1, 0, none⟩) 2 2, .slice (some ⟨w8.heap.size + 1 + 1, 0, none⟩) 1 1] rfl (by omega)
    simp only [World.size_alloc] at h4
    rw [hw9]
    exact h4)
  have B9 := Lib.hid (show Below w5.heap.size w5 w9 by
    rw [hw9]
    exact btwo B8.out (btwo (bnew _ _) (btwo (bnew _ _) (btwo (bnew _ _) (bnew _ _)))))
  have HR9 := Lib.hid (show RowsIn w9 (some ⟨w8.heap.size + 1 + 1 + 1, 0, none⟩) [[0, 2], [1, 3], [4]] from
    rowsG_in (l := [rvals (some ⟨w8.heap.size + 1 + 1 + 1, 0, none⟩) 3 3 [(some ⟨w8.heap.size, 0, none⟩, 2), (some ⟨w8.heap.size + 1, 0, none⟩, 2), (some ⟨w8.heap.size + 1 + 1, 0, none⟩, 1)] [[0, 2], [1, 3], [4]]]) (i := 0) (V9.out.pick [0, 3, 2, 1] (by decide) rfl) rfl rfl (fun row hr => by
    have : row.length ≤ 2 := by
      simp only [List.mem_cons, List.not_mem_nil, or_false] at hr
      rcases hr with rfl | rfl | rfl <;> decide
    omega))
  clear hw9
  go_wp2_with fail
  rw [← H9.out]
  refine (rlists_any Q _ 3 qc 3 3 [[0, 2], [1, 3], [4]] [[0, 2], [1, 3], [4]] _ rfl rfl (by omega) (by omega) (HRI.out.below B9.out) HR9.out).mono ?_
  rintro e w10 ⟨rfl, b10⟩
  rw [decide_eq_true rfl]
  have V10 := Lib.hid (show Hp w [nums C 3 cc [0, 1, 2]] w10 from (V9.out.pick (l' := [nums C 3 cc [0, 1, 2]]) [4] (by decide) rfl).go b10)
  clear b10 H9 V9 HR9 HRI
  obtain ⟨w11, hw11⟩ : ∃ z, z = w10.alloc (.cells #[.int .i64 0, .int .i64 1, .int .i64 2] 3) := ⟨_, rfl⟩
  have H11 := Lib.hid hw11
  have V11 := Lib.hid (show Hp w [nums (some ⟨w10.heap.size, 0, none⟩) 3 3 [0, 1, 2], nums C 3 cc [0, 1, 2]] w11 by
    rw [hw11]; exact V10.out.lit 3 1 3 [.int .i64 0, .int .i64 1, .int .i64 2] rfl (by omega))
  clear hw11
  go_wp2_with fail
  rw [← H11.out]
  refine (equal_nums C _ 3 cc 3 3 [0, 1, 2] [0, 1, 2] _ rfl rfl (by omega) (by omega) (V11.out.cells (i := 1) rfl rfl) (V11.out.cells (i := 0) rfl rfl)).mono ?_
  rintro e w12 ⟨rfl, b12⟩
  rw [decide_eq_true rfl]
  have V12 := Lib.hid (V11.out.go b12)
  clear b12 H11
  go_wp2_with fail
  go_ret
  exact ⟨rfl, V12.out.below⟩
end Go.Proofs.Ytdoobdfanalnbaa
