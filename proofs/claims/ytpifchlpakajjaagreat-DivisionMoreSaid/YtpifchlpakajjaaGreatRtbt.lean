/- Several texts in one: Zn. -/
import Derived.Test.YtpifchlpakajjaaGreatRtbl
import Derived.Test.YtpifchlpakajjaaGreatRtbo
import Derived.Test.YtpifchlpakajjaaGreatRtbp
import Derived.Test.YtpifchlpakajjaaGreatRtbc
import Derived.Test.YtpifchlpakajjaaGreatRtbs
namespace Go.Proofs.YtpifchlpakajjaaGreat
open Go.RowKit
set_option linter.unusedVariables false
set_option linter.unusedSimpArgs false
set_option maxRecDepth 100000

theorem rows_in {W w : World} {Q : Option Addr} {q e : Nat} {ps : List Prow} {pool : List Itm} (h : Hp W (hdrP Q q e ps :: pool) w) (hb : ∀ p ∈ ps, p.2.length ≤ 1000000) (hp : ∀ p ∈ ps, ∃ k : Nat, pool[k]? = some (nums p.1.1 p.2.length p.1.2 (dI p.2))) : RowsIn w Q (ps.map fun p => dI p.2) := by
  intro h0
  rw [List.length_map] at h0
  obtain ⟨b, off, e1, hlt, hc⟩ := (h.cells (i := 0) (it := hdrP Q q e ps) rfl (A := Q) (c := e) rfl) (by show 0 < (rvP ps).length; rw [rvP_len]; exact h0)
  refine ⟨b, off, e1, hlt, fun j row hr => ?_⟩
  rw [List.getElem?_map] at hr
  obtain ⟨p, hpj, hpr⟩ := Option.map_eq_some_iff.1 hr
  subst hpr
  obtain ⟨k, hk⟩ := hp p (List.mem_of_getElem? hpj)
  have hcap := h.cap (i := k + 1) (it := nums p.1.1 p.2.length p.1.2 (dI p.2)) hk (A := p.1.1) (c := p.1.2) rfl
  refine ⟨p.1.1, p.1.2, ?_, ?_, ?_, h.cells (i := k + 1) (it := nums p.1.1 p.2.length p.1.2 (dI p.2)) hk (A := p.1.1) (c := p.1.2) rfl⟩
  · rw [dI_len]; exact hc j _ (rvP_get hpj)
  · rw [dI_len]; exact hcap.1
  · rw [dI_len]; have := hb p (List.mem_of_getElem? hpj); omega
theorem rows_map {ps : List Prow} {R : List (List Nat)} (h : ps.map (·.2) = R) : (ps.map fun p => dI p.2) = R.map dI := by rw [← h, List.map_map]; rfl
theorem armq_top : RMax latL [97, 114, 109, 113] 3 := by
  have hne : TxNe latL := TxNe.ok lat_ok
  refine ⟨⟨by decide, [0, 40, 41], by decide, by kernel_rfl⟩, fun j hj => ?_⟩
  by_cases h : j ≤ 3
  · exact h
  · have hj4 : j = 4 := by have := hj.1; simp at this; omega
    subst hj4
    obtain ⟨k, i, h1, _, h3, h4⟩ := hj.last hne (by decide)
    have key : ∀ k : Fin 4, ((stL latL (List.drop k.val [97, 114, 109, 113])).all fun i => decide (4 ≠ k.val + (sgAt latL i).t.length)) = true := by decide
    have := List.all_eq_true.1 (key ⟨k, h1⟩) i h3
    exact absurd h4 (of_decide_eq_true this)
set_option maxHeartbeats 8000000 in
theorem awake13_any (w : World) : Calls Tryz.prog 10 #[] w fun e w' => e = .returned (.bool true) ∧ Below w.heap.size w w' := by
  obtain ⟨nm, L, hLT, hv, hnm, a1, a2, t1, t2, i1, i2, i3, o1, o2, r1, r2⟩ : ∃ nm L, (∀ w, Calls Tryz.prog 36 #[] w (OnlyO nm L w)) ∧ (vO nm L).2 = 0 ∧ nm.length ≤ 140737488355328 ∧
      bgE nm L [97, 114, 109, 97] = 0 ∧ srtD L (dvs L [97, 114, 109, 97]) = [[0, 40, 41, 0]] ∧ bgE nm L [116, 114, 111, 105, 97, 101] = 0 ∧ srtD L (dvs L [116, 114, 111, 105, 97, 101]) = [[38, 40, 3, 23, 18], [38, 40, 3, 2, 18], [38, 40, 3, 23, 0, 1], [38, 40, 3, 2, 0, 1]] ∧ bgE nm L [105, 97, 109] = 0 ∧ srtD L (dvs L [105, 97, 109]) = [22, 0, 41] :: [[2, 0, 41]] ∧ cD L [22, 0, 41] = 1 ∧
      lsE nm L [38, 40, 3, 23, 18] = 0 ∧ ofR nm L [38, 40, 3, 23, 18] = [0, 1, 2, 3, 3, 4] ∧ gvE nm L [97, 114, 109, 113] = 0 ∧ RMax L [97, 114, 109, 113] 3 :=
    ⟨latN, latL, rlatin_any, lat_ok, by decide, by kernel_rfl, by kernel_rfl, by kernel_rfl, by kernel_rfl, by kernel_rfl, by kernel_rfl, by kernel_rfl, by kernel_rfl, by kernel_rfl, by kernel_rfl, armq_top⟩
  have HLT := Lib.hid (hLT w)
  have HV := Lib.hid hv
  have HNM := Lib.hid hnm
  have HA1 := Lib.hid a1
  have HA2 := Lib.hid a2
  have HT1 := Lib.hid t1
  have HT2 := Lib.hid t2
  have HI1 := Lib.hid i1
  have HI2 := Lib.hid i2
  have HI3 := Lib.hid i3
  have HO1 := Lib.hid o1
  have HO2 := Lib.hid o2
  have HR1 := Lib.hid r1
  have HR2 := Lib.hid r2
  clear hLT hv hnm a1 a2 t1 t2 i1 i2 i3 o1 o2 r1 r2
  go_enter Tryz.func10, Tryz.ntmps10
  go_wp2_with fail
  refine HLT.out.mono ?_
  rintro e w1 ⟨A, n, c, vs, pool, rfl, hl, hvs, hpo, hp⟩
  have B1 := Lib.hid hp.below
  have HL := Lib.hid hl
  have hn120 : n ≤ 120 := by have := (vO_zero HV.out).2.2.1; omega
  have hnc : n ≤ c := (hp.cap (i := 0) (it := sgv A n c vs L) rfl (A := A) (c := c) rfl).1
  have HA := Lib.hid (sg_pool hp hvs hpo)
  have HSB := Lib.hid (SgBd.ok HV.out)
  clear hp hl hvs hpo
  obtain ⟨g1, hg1⟩ : ∃ z, z = w1.heap.size := ⟨_, rfl⟩
  obtain ⟨w2, hw2⟩ : ∃ z, z = w1.alloc (.cells #[.string (bs nm), .slice A n c] 24) := ⟨_, rfl⟩
  have V2 := Lib.hid (show Hp w1 [obox g1 nm A n c] w2 by rw [hw2, hg1]; exact (Hp.start w1).obox_new nm A n c)
  have HW2 := Lib.hid hw2
  have HG1 := Lib.hid hg1
  clear hw2 hg1
  obtain ⟨o0, o1, o2⟩ := V2.out.obox_at (i := 0) rfl
  go_upto_region 2 with fail
  rw [← HG1.out, ← HW2.out]
  go_wp2_with fail
  refine (all_any nm L A n c [97, 114, 109, 97] w2 HNM.out HL.out (by omega) hnc HSB.out (HA.out.below V2.out.below) (by decide)).mono ?_
  rintro e w3 (⟨hne, _⟩ | ⟨_, Q1, q1, e1, ps1, pool1, rfl, hpl1, hpe1, hp1, hpo1⟩)
  · exact absurd HA1.out hne
  have hb := hp1.below
  have V3 := Lib.hid (V2.out.go hb)
  have hq1 : q1 = 1 := by have h := congrArg List.length hpe1; rw [List.length_map, HA2.out] at h; rw [← hpl1, h]; rfl
  have HROW1 := Lib.hid (show RowsIn w3 Q1 (List.map dI [[0, 40, 41, 0]]) by
    rw [HA2.out] at hpe1
    have h := rows_in hp1 (fun p hp => by
      have : p.2 ∈ ps1.map (·.2) := List.mem_map_of_mem hp
      rw [hpe1] at this
      have h2 : ∀ x ∈ ([[0, 40, 41, 0]] : List (List Nat)), x.length ≤ 1000000 := by decide
      exact h2 _ this) hpo1
    rwa [rows_map hpe1] at h)
  subst hq1
  clear hb hp1 hpo1 hpe1 hpl1 o0 o1 o2
  obtain ⟨o0, o1, o2⟩ := V3.out.obox_at (i := 0) rfl
  go_wp2_with fail
  refine (all_any nm L A n c [116, 114, 111, 105, 97, 101] w3 HNM.out HL.out (by omega) hnc HSB.out (HA.out.below V3.out.below) (by decide)).mono ?_
  rintro e w4 (⟨hne, _⟩ | ⟨_, Q2, q2, e2, ps2, pool2, rfl, hpl2, hpe2, hp2, hpo2⟩)
  · exact absurd HT1.out hne
  have hb := hp2.below
  have V4 := Lib.hid (V3.out.go hb)
  have hq2 : q2 = 4 := by have h := congrArg List.length hpe2; rw [List.length_map, HT2.out] at h; rw [← hpl2, h]; rfl
  have HROW2 := Lib.hid (show RowsIn w4 Q2 (List.map dI [[38, 40, 3, 23, 18], [38, 40, 3, 2, 18], [38, 40, 3, 23, 0, 1], [38, 40, 3, 2, 0, 1]]) by
    rw [HT2.out] at hpe2
    have h := rows_in hp2 (fun p hp => by
      have : p.2 ∈ ps2.map (·.2) := List.mem_map_of_mem hp
      rw [hpe2] at this
      have h2 : ∀ x ∈ ([[38, 40, 3, 23, 18], [38, 40, 3, 2, 18], [38, 40, 3, 23, 0, 1], [38, 40, 3, 2, 0, 1]] : List (List Nat)), x.length ≤ 1000000 := by decide
      exact h2 _ this) hpo2
    rwa [rows_map hpe2] at h)
  have HROW1b := Lib.hid (HROW1.out.below hb)
  subst hq2
  clear hb hp2 hpo2 hpe2 hpl2 o0 o1 o2 HROW1 V3 V2
  obtain ⟨o0, o1, o2⟩ := V4.out.obox_at (i := 0) rfl
  go_wp2_with fail
  refine (bestD_any nm L A n c [105, 97, 109] w4 HNM.out HL.out (by omega) hnc HSB.out (HA.out.below V4.out.below) (by decide)).mono ?_
  rintro e w5 (⟨hne, _⟩ | ⟨_, C, dC, x, r, rfl, hx, hp5⟩)
  · exact absurd HI1.out hne
  rw [HI2.out] at hx
  injection hx with hx1 hx2
  subst hx1
  have hb := hp5.below
  have V5 := Lib.hid (V4.out.go hb)
  have HROW1 := Lib.hid (HROW1b.out.below hb)
  have HROW2b := Lib.hid (HROW2.out.below hb)
  have HCX := Lib.hid (hp5.cells (i := 0) (it := nums C [22, 0, 41].length dC (dI [22, 0, 41])) rfl (A := C) (c := dC) rfl)
  rw [HI3.out]
  clear hb hp5 hx2 o0 o1 o2 HROW1b HROW2 V4
  obtain ⟨o0, o1, o2⟩ := V5.out.obox_at (i := 0) rfl
  obtain ⟨g6, hg6⟩ : ∃ z, z = w5.heap.size := ⟨_, rfl⟩
  obtain ⟨w6, hw6⟩ : ∃ z, z = w5.alloc (.cells #[.int .i64 38, .int .i64 40, .int .i64 3, .int .i64 23, .int .i64 18] 3) := ⟨_, rfl⟩
  have V6 := Lib.hid (show Hp w1 (nums (some ⟨g6, 0, none⟩) 5 5 [38, 40, 3, 23, 18] :: [obox g1 nm A n c]) w6 by rw [hw6, hg6]; exact V5.out.lit 3 1 5 (ints [38, 40, 3, 23, 18]) rfl (by decide))
  have HW6 := Lib.hid hw6
  have HG6 := Lib.hid hg6
  have hb : Below w5.heap.size w5 w6 := by rw [hw6]; exact bnew _ _
  have HROW1b := Lib.hid (HROW1.out.below hb)
  have HROW2 := Lib.hid (HROW2b.out.below hb)
  have HCXb := Lib.hid (HCX.out.below hb)
  clear hg6 hw6 hb HROW1 HROW2b HCX
  go_wp2_with fail
  rw [← HG6.out, ← HW6.out]
  refine (offsetsD_any nm L A n c [38, 40, 3, 23, 18] (some ⟨g6, 0, none⟩) 5 5 w6 HNM.out HL.out (by omega) hnc HSB.out (HA.out.below V6.out.below) rfl (by decide) (V6.out.cells (i := 0) (it := nums (some ⟨g6, 0, none⟩) 5 5 [38, 40, 3, 23, 18]) rfl (A := some ⟨g6, 0, none⟩) (c := 5) rfl)).mono ?_
  rintro e w7 ⟨C7, q7, e7, rfl, hq7, hp7⟩
  rw [HO2.out] at hq7 hp7
  rw [HO1.out]
  have hb := hp7.below
  have V7 := Lib.hid (V6.out.go hb)
  have HROW1 := Lib.hid (HROW1b.out.below hb)
  have HROW2b := Lib.hid (HROW2.out.below hb)
  have HCX := Lib.hid (HCXb.out.below hb)
  have HC7 := Lib.hid (hp7.cells (i := 0) (it := nums C7 q7 e7 [0, 1, 2, 3, 3, 4]) rfl (A := C7) (c := e7) rfl)
  have hq7' : q7 = 6 := hq7.symm
  subst hq7'
  clear hb hp7 hq7 HROW1b HROW2 HCXb o0 o1 o2
  obtain ⟨o0, o1, o2⟩ := V7.out.obox_at (i := 1) rfl
  go_wp2_with fail
  refine (reachedD_any nm L A n c [97, 114, 109, 113] w7 HNM.out HL.out (by omega) hnc HSB.out (HA.out.below V7.out.below) (by decide)).mono ?_
  rintro e w8 ⟨z, rfl, hz, _, hb⟩
  obtain ⟨q, rfl, hq⟩ := hz HR1.out
  have hq3 : q = 3 := hq.uniq HR2.out
  subst hq3
  rw [HR1.out]
  have V8 := Lib.hid (V7.out.go hb)
  have HROW1b := Lib.hid (HROW1.out.below hb)
  have HROW2 := Lib.hid (HROW2b.out.below hb)
  have HCXb := Lib.hid (HCX.out.below hb)
  have HC7b := Lib.hid (HC7.out.below hb)
  clear hb hz hq HROW1 HROW2b HCX HC7 o0 o1 o2
  go_upto_region 9 with fail
  obtain ⟨w9, hw9⟩ : ∃ z, z = (w8.alloc (.cells #[.int .i64 0, .int .i64 40, .int .i64 41, .int .i64 0] 3)).alloc (.cells #[.slice (some ⟨w8.heap.size, 0, none⟩) 4 4] 35) := ⟨_, rfl⟩
  have HW9 := Lib.hid hw9
  have hp : Hp w8 (hdrP (some ⟨w8.heap.size + 1, 0, none⟩) 1 1 [((some ⟨w8.heap.size, 0, none⟩, 4), [0, 40, 41, 0])] :: [nums (some ⟨w8.heap.size, 0, none⟩) 4 4 (dI [0, 40, 41, 0])]) w9 := by
    have h0 := Hp.start w8
    have h1 := h0.lit 3 1 4 [.int .i64 0, .int .i64 40, .int .i64 41, .int .i64 0] rfl (by decide)
    have h2 := h1.lit 35 1 1 [.slice (some ⟨w8.heap.size, 0, none⟩) 4 4] rfl (by decide)
    simp only [World.size_alloc] at h2
    rw [hw9]
    exact h2
  have HR := Lib.hid (show RowsIn w9 (some ⟨w8.heap.size + 1, 0, none⟩) (List.map dI [[0, 40, 41, 0]]) from rows_in hp (fun p hp => by
    simp only [List.mem_cons, List.not_mem_nil, or_false] at hp
    rcases hp with rfl <;> (dsimp only; decide)) (fun p hp => by
    simp only [List.mem_cons, List.not_mem_nil, or_false] at hp
    rcases hp with rfl
    · exact ⟨0, rfl⟩))
  have hb := hp.below
  have HRL := Lib.hid (HROW1b.out.below hb)
  have RR := Lib.hid (HROW2.out.below hb)
  have CX := Lib.hid (HCXb.out.below hb)
  have C7 := Lib.hid (HC7b.out.below hb)
  have V9 := Lib.hid (V8.out.go hb)
  clear hw9 hp hb
  go_wp2_with fail
  rw [← HW9.out]
  refine (rlists_any Q1 (some ⟨w8.heap.size + 1, 0, none⟩) 1 e1 1 1 (List.map dI [[0, 40, 41, 0]]) (List.map dI [[0, 40, 41, 0]]) w9 rfl rfl (by decide) (by decide) HRL.out HR.out).mono ?_
  rintro e w10 ⟨rfl, hb⟩
  rw [decide_eq_true rfl]
  have V10 := Lib.hid (V9.out.go hb)
  have RRc := Lib.hid (RR.out.below hb)
  have CXc := Lib.hid (CX.out.below hb)
  have C7c := Lib.hid (C7.out.below hb)
  clear hb HR HRL HW9 V8 HROW2 RR HCXb CX HC7b C7
  obtain ⟨w11, hw11⟩ : ∃ z, z = ((((w10.alloc (.cells #[.int .i64 38, .int .i64 40, .int .i64 3, .int .i64 23, .int .i64 18] 3)).alloc (.cells #[.int .i64 38, .int .i64 40, .int .i64 3, .int .i64 2, .int .i64 18] 3)).alloc (.cells #[.int .i64 38, .int .i64 40, .int .i64 3, .int .i64 23, .int .i64 0, .int .i64 1] 3)).alloc (.cells #[.int .i64 38, .int .i64 40, .int .i64 3, .int .i64 2, .int .i64 0, .int .i64 1] 3)).alloc (.cells #[.slice (some ⟨w10.heap.size, 0, none⟩) 5 5, .slice (some ⟨w10.heap.size + 1, 0, none⟩) 5 5, .slice (some ⟨w10.heap.size + 1 + 1, 0, none⟩) 6 6, .slice (some ⟨w10.heap.size + 1 + 1 + 1, 0, none⟩) 6 6] 35) := ⟨_, rfl⟩
  have HW11 := Lib.hid hw11
  have hp : Hp w10 (hdrP (some ⟨w10.heap.size + 1 + 1 + 1 + 1, 0, none⟩) 4 4 [((some ⟨w10.heap.size, 0, none⟩, 5), [38, 40, 3, 23, 18]), ((some ⟨w10.heap.size + 1, 0, none⟩, 5), [38, 40, 3, 2, 18]), ((some ⟨w10.heap.size + 1 + 1, 0, none⟩, 6), [38, 40, 3, 23, 0, 1]), ((some ⟨w10.heap.size + 1 + 1 + 1, 0, none⟩, 6), [38, 40, 3, 2, 0, 1])] :: [nums (some ⟨w10.heap.size + 1 + 1 + 1, 0, none⟩) 6 6 (dI [38, 40, 3, 2, 0, 1]), nums (some ⟨w10.heap.size + 1 + 1, 0, none⟩) 6 6 (dI [38, 40, 3, 23, 0, 1]), nums (some ⟨w10.heap.size + 1, 0, none⟩) 5 5 (dI [38, 40, 3, 2, 18]), nums (some ⟨w10.heap.size, 0, none⟩) 5 5 (dI [38, 40, 3, 23, 18])]) w11 := by
    have h0 := Hp.start w10
    have h1 := h0.lit 3 1 5 [.int .i64 38, .int .i64 40, .int .i64 3, .int .i64 23, .int .i64 18] rfl (by decide)
    have h2 := h1.lit 3 1 5 [.int .i64 38, .int .i64 40, .int .i64 3, .int .i64 2, .int .i64 18] rfl (by decide)
    have h3 := h2.lit 3 1 6 [.int .i64 38, .int .i64 40, .int .i64 3, .int .i64 23, .int .i64 0, .int .i64 1] rfl (by decide)
    have h4 := h3.lit 3 1 6 [.int .i64 38, .int .i64 40, .int .i64 3, .int .i64 2, .int .i64 0, .int .i64 1] rfl (by decide)
    have h5 := h4.lit 35 1 4 [.slice (some ⟨w10.heap.size, 0, none⟩) 5 5, .slice (some ⟨w10.heap.size + 1, 0, none⟩) 5 5, .slice (some ⟨w10.heap.size + 1 + 1, 0, none⟩) 6 6, .slice (some ⟨w10.heap.size + 1 + 1 + 1, 0, none⟩) 6 6] rfl (by decide)
    simp only [World.size_alloc] at h5
    rw [hw11]
    exact h5
  have HR := Lib.hid (show RowsIn w11 (some ⟨w10.heap.size + 1 + 1 + 1 + 1, 0, none⟩) (List.map dI [[38, 40, 3, 23, 18], [38, 40, 3, 2, 18], [38, 40, 3, 23, 0, 1], [38, 40, 3, 2, 0, 1]]) from rows_in hp (fun p hp => by
    simp only [List.mem_cons, List.not_mem_nil, or_false] at hp
    rcases hp with rfl | rfl | rfl | rfl <;> (dsimp only; decide)) (fun p hp => by
    simp only [List.mem_cons, List.not_mem_nil, or_false] at hp
    rcases hp with rfl | rfl | rfl | rfl
    · exact ⟨3, rfl⟩
    · exact ⟨2, rfl⟩
    · exact ⟨1, rfl⟩
    · exact ⟨0, rfl⟩))
  have hb := hp.below
  have HRL := Lib.hid (RRc.out.below hb)
  have CXb := Lib.hid (CXc.out.below hb)
  have C7b := Lib.hid (C7c.out.below hb)
  have V11 := Lib.hid (V10.out.go hb)
  clear hw11 hp hb
  go_wp2_with fail
  rw [← HW11.out]
  refine (rlists_any Q2 (some ⟨w10.heap.size + 1 + 1 + 1 + 1, 0, none⟩) 4 e2 4 4 (List.map dI [[38, 40, 3, 23, 18], [38, 40, 3, 2, 18], [38, 40, 3, 23, 0, 1], [38, 40, 3, 2, 0, 1]]) (List.map dI [[38, 40, 3, 23, 18], [38, 40, 3, 2, 18], [38, 40, 3, 23, 0, 1], [38, 40, 3, 2, 0, 1]]) w11 rfl rfl (by decide) (by decide) HRL.out HR.out).mono ?_
  rintro e w12 ⟨rfl, hb⟩
  rw [decide_eq_true rfl]
  have V12 := Lib.hid (V11.out.go hb)
  have CXd := Lib.hid (CXb.out.below hb)
  have C7d := Lib.hid (C7b.out.below hb)
  clear hb HR HRL HW11 V10 CXb CXc C7b C7c
  obtain ⟨w13, hw13⟩ : ∃ z, z = w12.alloc (.cells #[.int .i64 22, .int .i64 0, .int .i64 41] 3) := ⟨_, rfl⟩
  have HW13 := Lib.hid hw13
  have hp : Hp w12 (nums (some ⟨w12.heap.size, 0, none⟩) 3 3 (dI [22, 0, 41]) :: []) w13 := by rw [hw13]; exact (Hp.start w12).lit 3 1 3 [.int .i64 22, .int .i64 0, .int .i64 41] rfl (by decide)
  have hb := hp.below
  have h2 := CXd.out.below hb
  have C7e := Lib.hid (C7d.out.below hb)
  have V13 := Lib.hid (V12.out.go hb)
  have hc := hp.cells (i := 0) (it := nums (some ⟨w12.heap.size, 0, none⟩) 3 3 (dI [22, 0, 41])) rfl (A := some ⟨w12.heap.size, 0, none⟩) (c := 3) rfl
  have H2 := Lib.hid h2
  have HC := Lib.hid hc
  clear hw13 hp hb h2 hc
  go_wp2_with fail
  rw [← HW13.out]
  refine (equal_nums C (some ⟨w12.heap.size, 0, none⟩) 3 dC 3 3 (dI [22, 0, 41]) (dI [22, 0, 41]) w13 rfl rfl (by decide) (by decide) H2.out HC.out).mono ?_
  rintro e w14 ⟨rfl, hb⟩
  rw [decide_eq_true rfl]
  have V14 := Lib.hid (V13.out.go hb)
  have C7f := Lib.hid (C7e.out.below hb)
  clear hb H2 HC HW13 V12 C7d C7e CXd
  obtain ⟨w15, hw15⟩ : ∃ z, z = w14.alloc (.cells #[.int .i64 0, .int .i64 1, .int .i64 2, .int .i64 3, .int .i64 3, .int .i64 4] 3) := ⟨_, rfl⟩
  have HW15 := Lib.hid hw15
  have hp : Hp w14 (nums (some ⟨w14.heap.size, 0, none⟩) 6 6 (dI [0, 1, 2, 3, 3, 4]) :: []) w15 := by rw [hw15]; exact (Hp.start w14).lit 3 1 6 [.int .i64 0, .int .i64 1, .int .i64 2, .int .i64 3, .int .i64 3, .int .i64 4] rfl (by decide)
  have hb := hp.below
  have h2 := C7f.out.below hb
  have V15 := Lib.hid (V14.out.go hb)
  have hc := hp.cells (i := 0) (it := nums (some ⟨w14.heap.size, 0, none⟩) 6 6 (dI [0, 1, 2, 3, 3, 4])) rfl (A := some ⟨w14.heap.size, 0, none⟩) (c := 6) rfl
  have H2 := Lib.hid h2
  have HC := Lib.hid hc
  clear hw15 hp hb h2 hc
  go_wp2_with fail
  rw [← HW15.out]
  refine (equal_nums C7 (some ⟨w14.heap.size, 0, none⟩) 6 e7 6 6 ([0, 1, 2, 3, 3, 4]) (dI [0, 1, 2, 3, 3, 4]) w15 rfl rfl (by decide) (by decide) H2.out HC.out).mono ?_
  rintro e w16 ⟨rfl, hb⟩
  rw [decide_eq_true (show ([0, 1, 2, 3, 3, 4] : List Int) = dI [0, 1, 2, 3, 3, 4] from rfl)]
  have V16 := Lib.hid (V15.out.go hb)
  clear hb H2 HC HW15 V14 
  go_wp2_with fail
  go_ret
  exact ⟨rfl, btwo B1.out V16.out.below⟩
end Go.Proofs.YtpifchlpakajjaaGreat
