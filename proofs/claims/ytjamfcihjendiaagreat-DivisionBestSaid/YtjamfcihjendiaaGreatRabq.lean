/- Several texts in one: Zn, Zo, Jn. -/
import Derived.Test.YtjamfcihjendiaaGreatRabl
import Derived.Test.YtjamfcihjendiaaGreatRabm
import Derived.Test.YtjamfcihjendiaaGreatRabn
import Derived.Test.YtjamfcihjendiaaGreatRaat
import Derived.Test.YtjamfcihjendiaaGreatRabp
import Derived.Test.YtjamfcihjendiaaGreatRaaq
import Derived.Test.YtjamfcihjendiaaGreatRaak
import Derived.Test.YtjamfcihjendiaaGreatRaan
import Derived.Test.YtjamfcihjendiaaGreatRaal
import Derived.Test.YtjamfcihjendiaaGreatRaav
import Derived.Test.YtjamfcihjendiaaGreatRaax
namespace Go.Proofs.YtjamfcihjendiaaGreat
open Go.RowKit
set_option linter.unusedVariables false
set_option linter.unusedSimpArgs false
set_option maxRecDepth 100000

theorem rows_in {W w : World} {Q : Option Addr} {q e : Nat} {ps : List Prow} {pool : List Itm} (h : Hp W (hdrP Q q e ps :: pool) w) (hb : ∀ p ∈ ps, p.2.length ≤ 1000000) (hp : ∀ p ∈ ps, ∃ k : Nat, pool[k]? = some (nums p.1.1 p.2.length p.1.2 (dI p.2))) : RowsIn w Q (ps.map fun p => dI p.2) := by
  intro h0
  rw [List.length_map] at h0
  obtain ⟨b, off, e1, hlt, hc⟩ := (h.cells (i := 0) (it := hdrP Q q e ps) rfl (A := Q) (c := e) rfl) (by show 0 < (rvP ps).length; rw [rvP_len]; exact h0)
  refine ⟨b, off, e1, hlt, fun j row hr => ?_⟩
  rw [List.getElem?_map] at hr
  obtain ⟨p, hpj, hpr⟩ := Option.map_eq_some_iff.1 hr
  subst hpr
  obtain ⟨k, hk⟩ := hp p (List.mem_of_getElem? hpj)
  have hcap := h.cap (i := k + 1) (it := nums p.1.1 p.2.length p.1.2 (dI p.2)) hk (A := p.1.1) (c := p.1.2) rfl
  refine ⟨p.1.1, p.1.2, ?_, ?_, ?_, h.cells (i := k + 1) (it := nums p.1.1 p.2.length p.1.2 (dI p.2)) hk (A := p.1.1) (c := p.1.2) rfl⟩
  · rw [dI_len]; exact hc j _ (rvP_get hpj)
  · rw [dI_len]; exact hcap.1
  · rw [dI_len]; have := hb p (List.mem_of_getElem? hpj); omega
theorem rows_map {ps : List Prow} {R : List (List Nat)} (h : ps.map (·.2) = R) : (ps.map fun p => dI p.2) = R.map dI := by rw [← h, List.map_map]; rfl
theorem armq_top : RMax latL [97, 114, 109, 113] 3 := by
  have hne : TxNe latL := TxNe.ok lat_ok
  refine ⟨⟨by decide, [0, 40, 41], by decide, by kernel_rfl⟩, fun j hj => ?_⟩
  by_cases h : j ≤ 3
  · exact h
  · have hj4 : j = 4 := by have := hj.1; simp at this; omega
    subst hj4
    obtain ⟨k, i, h1, _, h3, h4⟩ := hj.last hne (by decide)
    have key : ∀ k : Fin 4, ((stL latL (List.drop k.val [97, 114, 109, 113])).all fun i => decide (4 ≠ k.val + (sgAt latL i).t.length)) = true := by decide
    have := List.all_eq_true.1 (key ⟨k, h1⟩) i h3
    exact absurd h4 (of_decide_eq_true this)
set_option maxHeartbeats 8000000 in
theorem awake13_any (w : World) : Calls Tryz.prog 5 #[] w fun e w' => e = .returned (.bool true) ∧ Below w.heap.size w w' := by
  obtain ⟨nm, L, hLT, hv, hnm, a1, a2, t1, t2, i1, i2, i3, o1, o2, r1, r2⟩ : ∃ nm L, (∀ w, Calls Tryz.prog 14 #[] w (OnlyO nm L w)) ∧ (vO nm L).2 = 0 ∧ nm.length ≤ 140737488355328 ∧
      bgE nm L [97, 114, 109, 97] = 0 ∧ srtD L (dvs L [97, 114, 109, 97]) = [[0, 40, 41, 0]] ∧ bgE nm L [116, 114, 111, 105, 97, 101] = 0 ∧ srtD L (dvs L [116, 114, 111, 105, 97, 101]) = [[38, 40, 3, 23, 18], [38, 40, 3, 2, 18], [38, 40, 3, 23, 0, 1], [38, 40, 3, 2, 0, 1]] ∧ bgE nm L [105, 97, 109] = 0 ∧ srtD L (dvs L [105, 97, 109]) = [22, 0, 41] :: [[2, 0, 41]] ∧ cD L [22, 0, 41] = 1 ∧
      lsE nm L [38, 40, 3, 23, 18] = 0 ∧ ofR nm L [38, 40, 3, 23, 18] = [0, 1, 2, 3, 3, 4] ∧ gvE nm L [97, 114, 109, 113] = 0 ∧ RMax L [97, 114, 109, 113] 3 :=
    ⟨latN, latL, rlatin_any, lat_ok, by decide, by kernel_rfl, by kernel_rfl, by kernel_rfl, by kernel_rfl, by kernel_rfl, by kernel_rfl, by kernel_rfl, by kernel_rfl, by kernel_rfl, by kernel_rfl, armq_top⟩
  have HLT := Lib.hid (hLT w)
  have HV := Lib.hid hv
  have HNM := Lib.hid hnm
  have HA1 := Lib.hid a1
  have HA2 := Lib.hid a2
  have HT1 := Lib.hid t1
  have HT2 := Lib.hid t2
  have HI1 := Lib.hid i1
  have HI2 := Lib.hid i2
  have HI3 := Lib.hid i3
  have HO1 := Lib.hid o1
  have HO2 := Lib.hid o2
  have HR1 := Lib.hid r1
  have HR2 := Lib.hid r2
  clear hLT hv hnm a1 a2 t1 t2 i1 i2 i3 o1 o2 r1 r2
  go_enter Tryz.func5, Tryz.ntmps5
  go_wp2_with fail
  refine HLT.out.mono ?_
  rintro e w1 ⟨A, n, c, vs, pool, rfl, hl, hvs, hpo, hp⟩
  have B1 := Lib.hid hp.below
  have HL := Lib.hid hl
  have hn120 : n ≤ 120 := by have := (vO_zero HV.out).2.2.1; omega
  have hnc : n ≤ c := (hp.cap (i := 0) (it := sgv A n c vs L) rfl (A := A) (c := c) rfl).1
  have HA := Lib.hid (sg_pool hp hvs hpo)
  have HSB := Lib.hid (SgBd.ok HV.out)
  clear hp hl hvs hpo
  obtain ⟨g1, hg1⟩ : ∃ z, z = w1.heap.size := ⟨_, rfl⟩
  obtain ⟨w2, hw2⟩ : ∃ z, z = w1.alloc (.cells #[.string (bs nm), .slice A n c] 24) := ⟨_, rfl⟩
  have V2 := Lib.hid (show Hp w1 [obox g1 nm A n c] w2 by rw [hw2, hg1]; exact (Hp.start w1).obox_new nm A n c)
  have HW2 := Lib.hid hw2
  have HG1 := Lib.hid hg1
  clear hw2 hg1
  obtain ⟨o0, o1, o2⟩ := V2.out.obox_at (i := 0) rfl
  go_upto_region 2 with fail
  rw [← HG1.out, ← HW2.out]
  go_wp2_with fail
  refine (all_any nm L A n c [97, 114, 109, 97] w2 HNM.out HL.out (by omega) hnc HSB.out (HA.out.below V2.out.below) (by decide)).mono ?_
  rintro e w3 (⟨hne, _⟩ | ⟨_, Q1, q1, e1, ps1, pool1, rfl, hpl1, hpe1, hp1, hpo1⟩)
  · exact absurd HA1.out hne
  have hb := hp1.below
  have V3 := Lib.hid (V2.out.go hb)
  have hq1 : q1 = 1 := by have h := congrArg List.length hpe1; rw [List.length_map, HA2.out] at h; rw [← hpl1, h]; rfl
  have HROW1 := Lib.hid (show RowsIn w3 Q1 (List.map dI [[0, 40, 41, 0]]) by
    rw [HA2.out] at hpe1
    have h := rows_in hp1 (fun p hp => by
      have : p.2 ∈ ps1.map (·.2) := List.mem_map_of_mem hp
      rw [hpe1] at this
      have h2 : ∀ x ∈ ([[0, 40, 41, 0]] : List (List Nat)), x.length ≤ 1000000 := by decide
      exact h2 _ this) hpo1
    rwa [rows_map hpe1] at h)
  subst hq1
  clear hb hp1 hpo1 hpe1 hpl1 o0 o1 o2
  obtain ⟨o0, o1, o2⟩ := V3.out.obox_at (i := 0) rfl
  go_wp2_with fail
  refine (all_any nm L A n c [116, 114, 111, 105, 97, 101] w3 HNM.out HL.out (by omega) hnc HSB.out (HA.out.below V3.out.below) (by decide)).mono ?_
  rintro e w4 (⟨hne, _⟩ | ⟨_, Q2, q2, e2, ps2, pool2, rfl, hpl2, hpe2, hp2, hpo2⟩)
  · exact absurd HT1.out hne
  have hb := hp2.below
  have V4 := Lib.hid (V3.out.go hb)
  have hq2 : q2 = 4 := by have h := congrArg List.length hpe2; rw [List.length_map, HT2.out] at h; rw [← hpl2, h]; rfl
  have HROW2 := Lib.hid (show RowsIn w4 Q2 (List.map dI [[38, 40, 3, 23, 18], [38, 40, 3, 2, 18], [38, 40, 3, 23, 0, 1], [38, 40, 3, 2, 0, 1]]) by
    rw [HT2.out] at hpe2
    have h := rows_in hp2 (fun p hp => by
      have : p.2 ∈ ps2.map (·.2) := List.mem_map_of_mem hp
      rw [hpe2] at this
      have h2 : ∀ x ∈ ([[38, 40, 3, 23, 18], [38, 40, 3, 2, 18], [38, 40, 3, 23, 0, 1], [38, 40, 3, 2, 0, 1]] : List (List Nat)), x.length ≤ 1000000 := by decide
      exact h2 _ this) hpo2
    rwa [rows_map hpe2] at h)
  have HROW1b := Lib.hid (HROW1.out.below hb)
  subst hq2
  clear hb hp2 hpo2 hpe2 hpl2 o0 o1 o2 HROW1 V3 V2
  obtain ⟨o0, o1, o2⟩ := V4.out.obox_at (i := 0) rfl
  go_wp2_with fail
  refine (bestD_any nm L A n c [105, 97, 109] w4 HNM.out HL.out (by omega) hnc HSB.out (HA.out.below V4.out.below) (by decide)).mono ?_
  rintro e w5 (⟨hne, _⟩ | ⟨_, C, dC, x, r, rfl, hx, hp5⟩)
  · exact absurd HI1.out hne
  rw [HI2.out] at hx
  injection hx with hx1 hx2
  subst hx1
  have hb := hp5.below
  have V5 := Lib.hid (V4.out.go hb)
  have HROW1 := Lib.hid (HROW1b.out.below hb)
  have HROW2b := Lib.hid (HROW2.out.below hb)
  have HCX := Lib.hid (hp5.cells (i := 0) (it := nums C [22, 0, 41].length dC (dI [22, 0, 41])) rfl (A := C) (c := dC) rfl)
  rw [HI3.out]
  clear hb hp5 hx2 o0 o1 o2 HROW1b HROW2 V4
  obtain ⟨o0, o1, o2⟩ := V5.out.obox_at (i := 0) rfl
  obtain ⟨g6, hg6⟩ : ∃ z, z = w5.heap.size := ⟨_, rfl⟩
  obtain ⟨w6, hw6⟩ : ∃ z, z = w5.alloc (.cells #[.int .i64 38, .int .i64 40, .int .i64 3, .int .i64 23, .int .i64 18] 3) := ⟨_, rfl⟩
  have V6 := Lib.hid (show Hp w1 (nums (some ⟨g6, 0, none⟩) 5 5 [38, 40, 3, 23, 18] :: [obox g1 nm A n c]) w6 by rw [hw6, hg6]; exact V5.out.lit 3 1 5 (ints [38, 40, 3, 23, 18]) rfl (by decide))
  have HW6 := Lib.hid hw6
  have HG6 := Lib.hid hg6
  have hb : Below w5.heap.size w5 w6 := by rw [hw6]; exact bnew _ _
  have HROW1b := Lib.hid (HROW1.out.below hb)
  have HROW2 := Lib.hid (HROW2b.out.below hb)
  have HCXb := Lib.hid (HCX.out.below hb)
  clear hg6 hw6 hb HROW1 HROW2b HCX
  go_wp2_with fail
  rw [← HG6.out, ← HW6.out]
  refine (offsetsD_any nm L A n c [38, 40, 3, 23, 18] (some ⟨g6, 0, none⟩) 5 5 w6 HNM.out HL.out (by omega) hnc HSB.out (HA.out.below V6.out.below) rfl (by decide) (V6.out.cells (i := 0) (it := nums (some ⟨g6, 0, none⟩) 5 5 [38, 40, 3, 23, 18]) rfl (A := some ⟨g6, 0, none⟩) (c := 5) rfl)).mono ?_
  rintro e w7 ⟨C7, q7, e7, rfl, hq7, hp7⟩
  rw [HO2.out] at hq7 hp7
  rw [HO1.out]
  have hb := hp7.below
  have V7 := Lib.hid (V6.out.go hb)
  have HROW1 := Lib.hid (HROW1b.out.below hb)
  have HROW2b := Lib.hid (HROW2.out.below hb)
  have HCX := Lib.hid (HCXb.out.below hb)
  have HC7 := Lib.hid (hp7.cells (i := 0) (it := nums C7 q7 e7 [0, 1, 2, 3, 3, 4]) rfl (A := C7) (c := e7) rfl)
  have hq7' : q7 = 6 := hq7.symm
  subst hq7'
  clear hb hp7 hq7 HROW1b HROW2 HCXb o0 o1 o2
  obtain ⟨o0, o1, o2⟩ := V7.out.obox_at (i := 1) rfl
  go_wp2_with fail
  refine (reachedD_any nm L A n c [97, 114, 109, 113] w7 HNM.out HL.out (by omega) hnc HSB.out (HA.out.below V7.out.below) (by decide)).mono ?_
  rintro e w8 ⟨z, rfl, hz, _, hb⟩
  obtain ⟨q, rfl, hq⟩ := hz HR1.out
  have hq3 : q = 3 := hq.uniq HR2.out
  subst hq3
  rw [HR1.out]
  have V8 := Lib.hid (V7.out.go hb)
  have HROW1b := Lib.hid (HROW1.out.below hb)
  have HROW2 := Lib.hid (HROW2b.out.below hb)
  have HCXb := Lib.hid (HCX.out.below hb)
  have HC7b := Lib.hid (HC7.out.below hb)
  clear hb hz hq HROW1 HROW2b HCX HC7 o0 o1 o2
  go_upto_region 9 with fail
  obtain ⟨w9, hw9⟩ : ∃ z, z = (w8.alloc (.cells #[.int .i64 0, .int .i64 40, .int .i64 41, .int .i64 0] 3)).alloc (.cells #[.slice (some ⟨w8.heap.size, 0, none⟩) 4 4] 35) := ⟨_, rfl⟩
  have HW9 := Lib.hid hw9
  have hp : Hp w8 (hdrP (some ⟨w8.heap.size + 1, 0, none⟩) 1 1 [((some ⟨w8.heap.size, 0, none⟩, 4), [0, 40, 41, 0])] :: [nums (some ⟨w8.heap.size, 0, none⟩) 4 4 (dI [0, 40, 41, 0])]) w9 := by
    have h0 := Hp.start w8
    have h1 := h0.lit 3 1 4 [.int .i64 0, .int .i64 40, .int .i64 41, .int .i64 0] rfl (by decide)
    have h2 := h1.lit 35 1 1 [.slice (some ⟨w8.heap.size, 0, none⟩) 4 4] rfl (by decide)
    simp only [World.size_alloc] at h2
    rw [hw9]
    exact h2
  have HR := Lib.hid (show RowsIn w9 (some ⟨w8.heap.size + 1, 0, none⟩) (List.map dI [[0, 40, 41, 0]]) from rows_in hp (fun p hp => by
    simp only [List.mem_cons, List.not_mem_nil, or_false] at hp
    rcases hp with rfl <;> (dsimp only; decide)) (fun p hp => by
    simp only [List.mem_cons, List.not_mem_nil, or_false] at hp
    rcases hp with rfl
    · exact ⟨0, rfl⟩))
  have hb := hp.below
  have HRL := Lib.hid (HROW1b.out.below hb)
  have RR := Lib.hid (HROW2.out.below hb)
  have CX := Lib.hid (HCXb.out.below hb)
  have C7 := Lib.hid (HC7b.out.below hb)
  have V9 := Lib.hid (V8.out.go hb)
  clear hw9 hp hb
  go_wp2_with fail
  rw [← HW9.out]
  refine (rlists_any Q1 (some ⟨w8.heap.size + 1, 0, none⟩) 1 e1 1 1 (List.map dI [[0, 40, 41, 0]]) (List.map dI [[0, 40, 41, 0]]) w9 rfl rfl (by decide) (by decide) HRL.out HR.out).mono ?_
  rintro e w10 ⟨rfl, hb⟩
  rw [decide_eq_true rfl]
  have V10 := Lib.hid (V9.out.go hb)
  have RRc := Lib.hid (RR.out.below hb)
  have CXc := Lib.hid (CX.out.below hb)
  have C7c := Lib.hid (C7.out.below hb)
  clear hb HR HRL HW9 V8 HROW2 RR HCXb CX HC7b C7
  obtain ⟨w11, hw11⟩ : ∃ z, z = ((((w10.alloc (.cells #[.int .i64 38, .int .i64 40, .int .i64 3, .int .i64 23, .int .i64 18] 3)).alloc (.cells #[.int .i64 38, .int .i64 40, .int .i64 3, .int .i64 2, .int .i64 18] 3)).alloc (.cells #[.int .i64 38, .int .i64 40, .int .i64 3, .int .i64 23, .int .i64 0, .int .i64 1] 3)).alloc (.cells #[.int .i64 38, .int .i64 40, .int .i64 3, .int .i64 2, .int .i64 0, .int .i64 1] 3)).alloc (.cells #[.slice (some ⟨w10.heap.size, 0, none⟩) 5 5, .slice (some ⟨w10.heap.size + 1, 0, none⟩) 5 5, .slice (some ⟨w10.heap.size + 1 + 1, 0, none⟩) 6 6, .slice (some ⟨w10.heap.size + 1 + 1 + 1, 0, none⟩) 6 6] 35) := ⟨_, rfl⟩
  have HW11 := Lib.hid hw11
  have hp : Hp w10 (hdrP (some ⟨w10.heap.size + 1 + 1 + 1 + 1, 0, none⟩) 4 4 [((some ⟨w10.heap.size, 0, none⟩, 5), [38, 40, 3, 23, 18]), ((some ⟨w10.heap.size + 1, 0, none⟩, 5), [38, 40, 3, 2, 18]), ((some ⟨w10.heap.size + 1 + 1, 0, none⟩, 6), [38, 40, 3, 23, 0, 1]), ((some ⟨w10.heap.size + 1 + 1 + 1, 0, none⟩, 6), [38, 40, 3, 2, 0, 1])] :: [nums (some ⟨w10.heap.size + 1 + 1 + 1, 0, none⟩) 6 6 (dI [38, 40, 3, 2, 0, 1]), nums (some ⟨w10.heap.size + 1 + 1, 0, none⟩) 6 6 (dI [38, 40, 3, 23, 0, 1]), nums (some ⟨w10.heap.size + 1, 0, none⟩) 5 5 (dI [38, 40, 3, 2, 18]), nums (some ⟨w10.heap.size, 0, none⟩) 5 5 (dI [38, 40, 3, 23, 18])]) w11 := by
    have h0 := Hp.start w10
    have h1 := h0.lit 3 1 5 [.int .i64 38, .int .i64 40, .int .i64 3, .int .i64 23, .int .i64 18] rfl (by decide)
    have h2 := h1.lit 3 1 5 [.int .i64 38, .int .i64 40, .int .i64 3, .int .i64 2, .int .i64 18] rfl (by decide)
    have h3 := h2.lit 3 1 6 [.int .i64 38, .int .i64 40, .int .i64 3, .int .i64 23, .int .i64 0, .int .i64 1] rfl (by decide)
    have h4 := h3.lit 3 1 6 [.int .i64 38, .int .i64 40, .int .i64 3, .int .i64 2, .int .i64 0, .int .i64 1] rfl (by decide)
    have h5 := h4.lit 35 1 4 [.slice (some ⟨w10.heap.size, 0, none⟩) 5 5, .slice (some ⟨w10.heap.size + 1, 0, none⟩) 5 5, .slice (some ⟨w10.heap.size + 1 + 1, 0, none⟩) 6 6, .slice (some ⟨w10.heap.size + 1 + 1 + 1, 0, none⟩) 6 6] rfl (by decide)
    simp only [World.size_alloc] at h5
    rw [hw11]
    exact h5
  have HR := Lib.hid (show RowsIn w11 (some ⟨w10.heap.size + 1 + 1 + 1 + 1, 0, none⟩) (List.map dI [[38, 40, 3, 23, 18], [38, 40, 3, 2, 18], [38, 40, 3, 23, 0, 1], [38, 40, 3, 2, 0, 1]]) from rows_in hp (fun p hp => by
    simp only [List.mem_cons, List.not_mem_nil, or_false] at hp
    rcases hp with rfl | rfl | rfl | rfl <;> (dsimp only; decide)) (fun p hp => by
    simp only [List.mem_cons, List.not_mem_nil, or_false] at hp
    rcases hp with rfl | rfl | rfl | rfl
    · exact ⟨3, rfl⟩
    · exact ⟨2, rfl⟩
    · exact ⟨1, rfl⟩
    · exact ⟨0, rfl⟩))
  have hb := hp.below
  have HRL := Lib.hid (RRc.out.below hb)
  have CXb := Lib.hid (CXc.out.below hb)
  have C7b := Lib.hid (C7c.out.below hb)
  have V11 := Lib.hid (V10.out.go hb)
  clear hw11 hp hb
  go_wp2_with fail
  rw [← HW11.out]
  refine (rlists_any Q2 (some ⟨w10.heap.size + 1 + 1 + 1 + 1, 0, none⟩) 4 e2 4 4 (List.map dI [[38, 40, 3, 23, 18], [38, 40, 3, 2, 18], [38, 40, 3, 23, 0, 1], [38, 40, 3, 2, 0, 1]]) (List.map dI [[38, 40, 3, 23, 18], [38, 40, 3, 2, 18], [38, 40, 3, 23, 0, 1], [38, 40, 3, 2, 0, 1]]) w11 rfl rfl (by decide) (by decide) HRL.out HR.out).mono ?_
  rintro e w12 ⟨rfl, hb⟩
  rw [decide_eq_true rfl]
  have V12 := Lib.hid (V11.out.go hb)
  have CXd := Lib.hid (CXb.out.below hb)
  have C7d := Lib.hid (C7b.out.below hb)
  clear hb HR HRL HW11 V10 CXb CXc C7b C7c
  obtain ⟨w13, hw13⟩ : ∃ z, z = w12.alloc (.cells #[.int .i64 22, .int .i64 0, .int .i64 41] 3) := ⟨_, rfl⟩
  have HW13 := Lib.hid hw13
  have hp : Hp w12 (nums (some ⟨w12.heap.size, 0, none⟩) 3 3 (dI [22, 0, 41]) :: []) w13 := by rw [hw13]; exact (Hp.start w12).lit 3 1 3 [.int .i64 22, .int .i64 0, .int .i64 41] rfl (by decide)
  have hb := hp.below
  have h2 := CXd.out.below hb
  have C7e := Lib.hid (C7d.out.below hb)
  have V13 := Lib.hid (V12.out.go hb)
  have hc := hp.cells (i := 0) (it := nums (some ⟨w12.heap.size, 0, none⟩) 3 3 (dI [22, 0, 41])) rfl (A := some ⟨w12.heap.size, 0, none⟩) (c := 3) rfl
  have H2 := Lib.hid h2
  have HC := Lib.hid hc
  clear hw13 hp hb h2 hc
  go_wp2_with fail
  rw [← HW13.out]
  refine (equal_nums C (some ⟨w12.heap.size, 0, none⟩) 3 dC 3 3 (dI [22, 0, 41]) (dI [22, 0, 41]) w13 rfl rfl (by decide) (by decide) H2.out HC.out).mono ?_
  rintro e w14 ⟨rfl, hb⟩
  rw [decide_eq_true rfl]
  have V14 := Lib.hid (V13.out.go hb)
  have C7f := Lib.hid (C7e.out.below hb)
  clear hb H2 HC HW13 V12 C7d C7e CXd
  obtain ⟨w15, hw15⟩ : ∃ z, z = w14.alloc (.cells #[.int .i64 0, .int .i64 1, .int .i64 2, .int .i64 3, .int .i64 3, .int .i64 4] 3) := ⟨_, rfl⟩
  have HW15 := Lib.hid hw15
  have hp : Hp w14 (nums (some ⟨w14.heap.size, 0, none⟩) 6 6 (dI [0, 1, 2, 3, 3, 4]) :: []) w15 := by rw [hw15]; exact (Hp.start w14).lit 3 1 6 [.int .i64 0, .int .i64 1, .int .i64 2, .int .i64 3, .int .i64 3, .int .i64 4] rfl (by decide)
  have hb := hp.below
  have h2 := C7f.out.below hb
  have V15 := Lib.hid (V14.out.go hb)
  have hc := hp.cells (i := 0) (it := nums (some ⟨w14.heap.size, 0, none⟩) 6 6 (dI [0, 1, 2, 3, 3, 4])) rfl (A := some ⟨w14.heap.size, 0, none⟩) (c := 6) rfl
  have H2 := Lib.hid h2
  have HC := Lib.hid hc
  clear hw15 hp hb h2 hc
  go_wp2_with fail
  rw [← HW15.out]
  refine (equal_nums C7 (some ⟨w14.heap.size, 0, none⟩) 6 e7 6 6 ([0, 1, 2, 3, 3, 4]) (dI [0, 1, 2, 3, 3, 4]) w15 rfl rfl (by decide) (by decide) H2.out HC.out).mono ?_
  rintro e w16 ⟨rfl, hb⟩
  rw [decide_eq_true (show ([0, 1, 2, 3, 3, 4] : List Int) = dI [0, 1, 2, 3, 3, 4] from rfl)]
  have V16 := Lib.hid (V15.out.go hb)
  clear hb H2 HC HW15 V14 
  go_wp2_with fail
  go_ret
  exact ⟨rfl, btwo B1.out V16.out.below⟩
end Go.Proofs.YtjamfcihjendiaaGreat

namespace Go.Proofs.YtjamfcihjendiaaGreat
open Go.RowKit
set_option linter.unusedVariables false
set_option linter.unusedSimpArgs false
set_option maxRecDepth 100000

def fwD (nm : List UInt8) (L : List Sg) (a b : Nat) : Bool := fewO nm L && (decide (a ≤ 40) && decide (b ≤ 40))
theorem fwD_yes {nm : List UInt8} {L : List Sg} {a b : Nat} (h : fwD nm L a b = true) : fewO nm L = true ∧ a ≤ 40 ∧ b ≤ 40 := by unfold fwD at h; simpa using h
set_option maxHeartbeats 3000000 in
theorem few13_any (nm : List UInt8) (A : Option Addr) (n c : Nat) (L : List Sg) (t : List UInt8) (D : Option Addr) (m e : Nat) (w : World) (hnm : nm.length ≤ 140737488355328) (hl : L.length = n) (hn : n ≤ 17592186044416) (hlim : ∀ x ∈ L, SgLim x) (hO : SgnIn w A L) (ht : t.length ≤ maxLen) (hm : m ≤ 17592186044416) :
    Calls Tryz.prog 6 #[.agg #[.string (bs nm), .slice A n c], .string (bs t), .slice D m e] w fun r w' => r = .returned (.bool (fwD nm L t.length m)) ∧ Below w.heap.size w w' := by
  obtain ⟨g1, hg1⟩ : ∃ z, z = w.heap.size := ⟨_, rfl⟩
  obtain ⟨W1, hW1⟩ : ∃ z, z = w.alloc (.cells #[.string (bs nm), .slice A n c] 24) := ⟨_, rfl⟩
  have V1 := Lib.hid (show Hp w [obox g1 nm A n c] W1 by rw [hW1, hg1]; exact (Hp.start w).obox_new nm A n c)
  have HW1 := Lib.hid hW1
  have HG1 := Lib.hid hg1
  have HO := Lib.hid hO
  have HL := Lib.hid hl
  have HLIM := Lib.hid hlim
  obtain ⟨ty, hty⟩ : ∃ y, y = t.length := ⟨_, rfl⟩
  have htz : (bs t).size = ty := by rw [bs_size]; exact hty.symm
  have HTY := Lib.hid hty
  rw [← hty] at ht
  unfold maxLen at ht
  obtain ⟨z0, z1, z2⟩ := V1.out.obox_at (i := 0) rfl
  clear hW1 hg1 hO hl hlim hty
  go_enter Tryz.func6, Tryz.ntmps6
  go_upto_region 1 with fail
  rw [← HG1.out, ← HW1.out]
  go_wp2_with fail
  refine (rfewO_any nm L A n c _ hnm HL.out hn HLIM.out (HO.out.below V1.out.below)).mono ?_
  rintro e2 w3 ⟨rfl, hb⟩
  have V3 := Lib.hid (V1.out.go hb)
  clear hb z0 z1 z2
  cases hf : fewO nm L with
  | false =>
    have HE := Lib.hid (show fwD nm L t.length m = false by unfold fwD; rw [hf]; rfl)
    clear hf
    go_wp2_with fail
    go_ret
    exact ⟨ret_bool HE.out.symm, V3.out.below⟩
  | true =>
  have HF := Lib.hid hf
  clear hf
  by_cases h1 : ty ≤ 40
  case neg =>
    have HE := Lib.hid (show fwD nm L t.length m = false by unfold fwD; rw [decide_eq_false (show ¬ t.length ≤ 40 by rw [← HTY.out]; exact h1)]; simp)
    go_wp2_with fail
    go_ret
    exact ⟨ret_bool HE.out.symm, V3.out.below⟩
  by_cases h2 : m ≤ 40
  case neg =>
    have HE := Lib.hid (show fwD nm L t.length m = false by unfold fwD; rw [decide_eq_false h2]; simp)
    go_wp2_with fail
    go_ret
    exact ⟨ret_bool (by rw [HE.out]; exact decide_eq_false (by omega)), V3.out.below⟩
  have HE := Lib.hid (show fwD nm L t.length m = true by unfold fwD; rw [HF.out, decide_eq_true (show t.length ≤ 40 by rw [← HTY.out]; exact h1), decide_eq_true h2]; rfl)
  go_wp2_with fail
  go_ret
  exact ⟨ret_bool (by rw [HE.out]; exact decide_eq_true (by omega)), V3.out.below⟩
end Go.Proofs.YtjamfcihjendiaaGreat

namespace Go.Proofs.YtjamfcihjendiaaGreat
open Go.RowKit
set_option linter.unusedVariables false
set_option linter.unusedSimpArgs false
set_option maxRecDepth 100000

def thr (n : Nat) (F : Nat → Nat → Nat) : List Int := (List.range (n * 3)).map fun q => ((F (q / 3) (q % 3) : Nat) : Int)
theorem thr_len (n : Nat) (F : Nat → Nat → Nat) : (thr n F).length = n * 3 := by unfold thr; simp
theorem thr_at {n i c : Nat} (F : Nat → Nat → Nat) (hi : i < n) (hc : c < 3) : (thr n F)[i * 3 + c]? = some ((F i c : Nat) : Int) := by
  unfold thr
  rw [List.getElem?_map, List.getElem?_range (by omega)]
  show some ((F ((i * 3 + c) / 3) ((i * 3 + c) % 3) : Nat) : Int) = _
  rw [show (i * 3 + c) / 3 = i by omega, show (i * 3 + c) % 3 = c by omega]
def up3 (F : Nat → Nat → Nat) (i0 c0 x : Nat) : Nat → Nat → Nat := fun i c => if i = i0 ∧ c = c0 then x else F i c
theorem thr_congr {n : Nat} {F G : Nat → Nat → Nat} (h : ∀ i c, i < n → c < 3 → F i c = G i c) : thr n F = thr n G := by
  unfold thr
  apply List.map_congr_left
  intro q hq
  have := List.mem_range.1 hq
  rw [h (q / 3) (q % 3) (by omega) (by omega)]
theorem thr_set {n i c : Nat} (F : Nat → Nat → Nat) (hi : i < n) (hc : c < 3) (x : Nat) : (thr n F).set (i * 3 + c) (x : Int) = thr n (up3 F i c x) := by
  apply List.ext_getElem?
  intro q
  by_cases hq : q < n * 3
  · rw [Pt.set_at (by rw [thr_len]; omega)]
    have e := thr_at (n := n) (i := q / 3) (c := q % 3) (up3 F i c x) (by omega) (by omega)
    have e2 := thr_at (n := n) (i := q / 3) (c := q % 3) F (by omega) (by omega)
    rw [show q / 3 * 3 + q % 3 = q by omega] at e e2
    rw [e, e2]
    unfold up3
    by_cases h : q = i * 3 + c
    · rw [if_pos h, if_pos (by omega)]
    · rw [if_neg h, if_neg (by omega)]
  · rw [List.getElem?_eq_none (by rw [List.length_set, thr_len]; omega), List.getElem?_eq_none (by rw [thr_len]; omega)]
theorem thr_zero (n : Nat) : thr n (fun _ _ => 0) = List.replicate (n * 3) 0 := by
  unfold thr
  apply List.ext_getElem?
  intro q
  by_cases hq : q < n * 3
  · rw [List.getElem?_map, List.getElem?_range hq, List.getElem?_replicate, if_pos hq]; rfl
  · rw [List.getElem?_eq_none (by simp; omega), List.getElem?_eq_none (by simp; omega)]
def ptF (L : List Sg) (u : List UInt8) (a : Nat) (P : List Nat) (i0 c0 : Nat) : Nat → Nat → Nat := fun i c => if i ∈ P ∨ (i = i0 ∧ c < c0) then tbN L u a i c else 0
theorem ptF_step (L : List Sg) (u : List UInt8) (a : Nat) (P : List Nat) (i0 c0 i c : Nat) : up3 (ptF L u a P i0 c0) i0 c0 (tbN L u a i0 c0) i c = ptF L u a P i0 (c0 + 1) i c := by
  unfold up3 ptF
  by_cases h : i = i0 ∧ c = c0
  · rw [if_pos h, if_pos (Or.inr ⟨h.1, by omega⟩), h.1, h.2]
  · rw [if_neg h]
    by_cases h2 : i ∈ P ∨ (i = i0 ∧ c < c0)
    · rw [if_pos h2, if_pos (by rcases h2 with h2 | h2; exact .inl h2; exact .inr ⟨h2.1, by omega⟩)]
    · rw [if_neg h2, if_neg (fun h3 => h2 (by
        rcases h3 with h3 | h3
        · exact .inl h3
        · exact .inr ⟨h3.1, by have := fun e => h ⟨h3.1, e⟩; omega⟩))]
theorem ptF_next (L : List Sg) (u : List UInt8) (a : Nat) (P : List Nat) (i0 i1 : Nat) {c : Nat} (hc : c < 3) (i : Nat) : ptF L u a P i0 3 i c = ptF L u a (P ++ [i0]) i1 0 i c := by
  unfold ptF
  by_cases h : i ∈ P ∨ i = i0
  · rw [if_pos (by rcases h with h | h; exact .inl h; exact .inr ⟨h, hc⟩), if_pos (.inl (by rcases h with h | h; exact List.mem_append_left _ h; exact List.mem_append_right _ (by rw [h]; exact List.mem_singleton_self _)))]
  · rw [if_neg (fun h2 => h (by rcases h2 with h2 | h2; exact .inl h2; exact .inr h2.1)), if_neg (fun h2 => h (by
      rcases h2 with h2 | h2
      · rcases List.mem_append.1 h2 with h2 | h2
        · exact .inl h2
        · exact .inr (List.mem_singleton.1 h2)
      · exact absurd h2.2 (Nat.not_lt_zero _)))]
theorem ptF_end (L : List Sg) (u : List UInt8) (a i0 i c : Nat) : ptF L u a (stL L (u.drop a)) i0 0 i c = tbN L u a i c := by
  unfold ptF
  by_cases h : i ∈ stL L (u.drop a)
  · rw [if_pos (.inl h)]
  · rw [if_neg (fun h2 => h (by rcases h2 with h2 | h2; exact h2; exact absurd h2.2 (Nat.not_lt_zero _)))]
    unfold tbN; rw [if_neg h]
theorem ptF_start (L : List Sg) (u : List UInt8) (a i0 : Nat) : ptF L u a [] i0 0 = fun _ _ => 0 := by
  funext i c
  unfold ptF
  rw [if_neg (fun h => by rcases h with h | h; exact absurd h (List.not_mem_nil); exact absurd h.2 (Nat.not_lt_zero _))]
theorem tbN_here {L : List Sg} {u : List UInt8} {a i : Nat} (h : i ∈ stL L (u.drop a)) (c : Nat) : mn (bh L u.length i (u.drop a) (ahB c)).length = tbN L u a i c := by unfold tbN; rw [if_pos h]

def trow (g n : Nat) (F : Nat → Nat → Nat) : Itm := ⟨53, 3, .slice (some ⟨g, 0, none⟩) n n, n, ints (thr n F)⟩
def ttab (g N : Nat) (tv : List Value) : Itm := ⟨54, 1, .slice (some ⟨g, 0, none⟩) N N, N, tv⟩
theorem three_info : (Tryz.prog.info? 53).map (fun i => (i.zero, i.size, i.bytes)) = some (some (.agg #[.int .i64 0, .int .i64 0, .int .i64 0]), 3, 24) := by kernel_rfl
theorem threes_info : (Tryz.prog.info? 54).map (fun i => (i.zero, i.size, i.bytes)) = some (some (.slice none 0 0), 1, 24) := by kernel_rfl
theorem made3 (n : Nat) : madeCells (Value.agg #[.int .i64 0, .int .i64 0, .int .i64 0]).cells (n * 3) = (List.replicate (n * 3) (.int .i64 0)).toArray := by
  have hz : (Value.agg #[.int .i64 0, .int .i64 0, .int .i64 0]).cells = #[.int .i64 0, .int .i64 0, .int .i64 0] := rfl
  rw [hz]
  apply Array.ext'
  unfold madeCells
  rw [Array.toList_map, Array.toList_range]
  apply List.ext_getElem?
  intro q
  by_cases hq : q < n * 3
  · rw [List.getElem?_map, List.getElem?_range hq]
    show some ((#[Value.int .i64 0, Value.int .i64 0, Value.int .i64 0])[q % 3]!) = (List.replicate (n * 3) (Value.int .i64 0))[q]?
    rw [List.getElem?_replicate, if_pos hq]
    have : q % 3 = 0 ∨ q % 3 = 1 ∨ q % 3 = 2 := by omega
    rcases this with h | h | h <;> rw [h] <;> rfl
  · rw [List.getElem?_eq_none (by simp; omega), List.getElem?_eq_none (by simp; omega)]
theorem make_three (N : Int) (n : Nat) (h : N = (n : Int)) (hn : n ≤ 1000000) (w : World) :
    (Instr.makeSlice 54 (.int .i64 N) (.int .i64 N)).run Tryz.prog w = .ok (.slice (some ⟨w.heap.size, 0, none⟩) n n) (w.alloc (.cells (List.replicate (n * 3) (.int .i64 0)).toArray 53)) := by
  obtain ⟨i0, hi, hz0, hz1, hz2⟩ := info_parts three_info
  have := run_make (P := Tryz.prog) w 54 53 i0 (.agg #[.int .i64 0, .int .i64 0, .int .i64 0]) Tryz.underlying54 hi hz0 .i64 .i64 N N (by omega) (Int.le_refl _) (by rw [hz2]; omega) (by omega)
  rw [this, hz1, h]
  simp only [Int.toNat_natCast]
  rw [made3]
theorem make_threes (N : Int) (n : Nat) (h : N = (n : Int)) (hn : n ≤ 1000000) (w : World) :
    (Instr.makeSlice 50 (.int .i64 N) (.int .i64 N)).run Tryz.prog w = .ok (.slice (some ⟨w.heap.size, 0, none⟩) n n) (w.alloc (.cells (List.replicate n (.slice none 0 0)).toArray 54)) := by
  obtain ⟨i0, hi, hz0, hz1, hz2⟩ := info_parts threes_info
  have := run_make (P := Tryz.prog) w 50 54 i0 (.slice none 0 0) Tryz.underlying50 hi hz0 .i64 .i64 N N (by omega) (Int.le_refl _) (by rw [hz2]; omega) (by omega)
  rw [this, hz1, h]
  simp only [Int.toNat_natCast]
  rw [made_cells _ _ rfl]
theorem Hp.made_three {W w : World} {l : List Itm} (h : Hp W l w) (n : Nat) (hn : n ≤ 1000000) : Hp W (trow w.heap.size n (fun _ _ => 0) :: l) (w.alloc (.cells (List.replicate (n * 3) (.int .i64 0)).toArray 53)) := by
  refine h.new _ (bnew _ _) ?_ (fun k hk => by simp [trow, Value.ownBlock] at hk; omega)
  have := World.ownsRow_lit (base := W.heap.size) (e := 53) (size := 3) w (List.replicate (n * 3) (.int .i64 0)).toArray n h.below.size (by unfold maxLen; omega) (by simp)
  simpa [trow, thr_zero, ints] using this
theorem Hp.made_threes {W w : World} {l : List Itm} (h : Hp W l w) (n : Nat) (hn : n ≤ 1000000) : Hp W (ttab w.heap.size n (List.replicate n (.slice none 0 0)) :: l) (w.alloc (.cells (List.replicate n (.slice none 0 0)).toArray 54)) := by
  refine h.new _ (bnew _ _) ?_ (fun k hk => by simp [ttab, Value.ownBlock] at hk; omega)
  have := World.ownsRow_lit (base := W.heap.size) (e := 54) (size := 1) w (List.replicate n (.slice none 0 0)).toArray n h.below.size (by unfold maxLen; omega) (by simp)
  simpa [ttab] using this
theorem Hp.trow_at {W w : World} {l : List Itm} {k g n i c : Nat} {F : Nat → Nat → Nat} (h : Hp W l w) (hk : l[k]? = some (trow g n F)) (hi : i < n) (hc : c < 3) : w.cell? ⟨g, i * 3 + c, none⟩ = some (.int .i64 (F i c : Nat)) ∧ w.frozen? ⟨g, i * 3 + c, none⟩ = false ∧ g < w.heap.size :=
  h.cell hk (cap := n) rfl (by show (ints (thr n F))[i * 3 + c]? = _; unfold ints; rw [List.getElem?_map, thr_at F hi hc]; rfl)
theorem Hp.trow_set {W w : World} {l : List Itm} {k g n i c : Nat} {F : Nat → Nat → Nat} (h : Hp W l w) (hk : l[k]? = some (trow g n F)) (hi : i < n) (hc : c < 3) (x : Nat) : Hp W (l.set k (trow g n (up3 F i c x))) (w.setCell ⟨g, i * 3 + c, none⟩ (.int .i64 (x : Int))) := by
  have := h.store hk (g := g) (cap := n) rfl (i * 3 + c) (.int .i64 (x : Int))
  have e : (ints (thr n F)).set (i * 3 + c) (.int .i64 (x : Int)) = ints (thr n (up3 F i c x)) := by
    rw [← thr_set F hi hc]; unfold ints; rw [List.map_set]
  simpa [trow, e] using this
theorem Hp.ttab_at {W w : World} {l : List Itm} {k g N p : Nat} {tv : List Value} {v : Value} (h : Hp W l w) (hk : l[k]? = some (ttab g N tv)) (hp : tv[p]? = some v) : w.cell? ⟨g, p, none⟩ = some v ∧ w.frozen? ⟨g, p, none⟩ = false ∧ g < w.heap.size := h.cell hk (cap := N) rfl hp
theorem Hp.ttab_set {W w : World} {l : List Itm} {k g N : Nat} {tv : List Value} (h : Hp W l w) (hk : l[k]? = some (ttab g N tv)) (p : Nat) (v : Value) : Hp W (l.set k (ttab g N (tv.set p v))) (w.setCell ⟨g, p, none⟩ v) := by
  have := h.store hk (g := g) (cap := N) rfl p v
  simpa [ttab] using this
def RowsD (w : World) (tv : List Value) (gt lim n : Nat) (L : List Sg) (u : List UInt8) (a : Nat) : Prop := ∀ p, a ≤ p → p < u.length → ∃ g, g ≠ gt ∧ g < lim ∧ g < w.heap.size ∧ tv[p]? = some (.slice (some ⟨g, 0, none⟩) n n) ∧ ∀ i c, i < n → c < 3 → w.cell? ⟨g, i * 3 + c, none⟩ = some (.int .i64 (tbN L u p i c : Nat))
theorem RowsD.go {w w' : World} {tv : List Value} {gt lim n : Nat} {L : List Sg} {u : List UInt8} {a : Nat} (h : RowsD w tv gt lim n L u a) (hb : Below w.heap.size w w') : RowsD w' tv gt lim n L u a := fun p h1 h2 => by
  obtain ⟨g, a1, a2, a3, a4, a5⟩ := h p h1 h2
  exact ⟨g, a1, a2, Nat.lt_of_lt_of_le a3 hb.size, a4, fun i c hi hc => (hb.cell (p := ⟨g, i * 3 + c, none⟩) a3).trans (a5 i c hi hc)⟩
theorem RowsD.put {w : World} {tv : List Value} {gt lim n : Nat} {L : List Sg} {u : List UInt8} {a : Nat} (h : RowsD w tv gt lim n L u a) (g0 j : Nat) (v : Value) (hg : g0 = gt ∨ lim ≤ g0) : RowsD (w.setCell ⟨g0, j, none⟩ v) tv gt lim n L u a := fun p h1 h2 => by
  obtain ⟨g, a1, a2, a3, a4, a5⟩ := h p h1 h2
  have hne : g ≠ g0 := by omega
  have key : ∀ i c, i < n → c < 3 → (w.setCell ⟨g0, j, none⟩ v).cell? ⟨g, i * 3 + c, none⟩ = some (.int .i64 (tbN L u p i c : Nat)) ∧ g < (w.setCell ⟨g0, j, none⟩ v).heap.size := fun i c hi hc => by
    have hk : Keep [(⟨g, i * 3 + c, none⟩, .int .i64 (tbN L u p i c : Nat))] w := fun q hq => by
      rw [List.mem_singleton.1 hq]; exact ⟨a5 i c hi hc, a3⟩
    have := hk.set g0 j v (fun q hq => by rw [List.mem_singleton.1 hq]; exact hne)
    exact this _ (List.mem_singleton_self _)
  have hsz : (w.setCell ⟨g0, j, none⟩ v).heap.size = w.heap.size := by simp [World.setCell]
  exact ⟨g, a1, a2, by rw [hsz]; exact a3, a4, fun i c hi hc => (key i c hi hc).1⟩
theorem RowsD.table {w : World} {tv tw : List Value} {gt lim n : Nat} {L : List Sg} {u : List UInt8} {a : Nat} (h : RowsD w tv gt lim n L u a) (ht : ∀ p, a ≤ p → p < u.length → tw[p]? = tv[p]?) : RowsD w tw gt lim n L u a := fun p h1 h2 => by
  obtain ⟨g, a1, a2, a3, a4, a5⟩ := h p h1 h2
  exact ⟨g, a1, a2, a3, by rw [ht p h1 h2]; exact a4, a5⟩
end Go.Proofs.YtjamfcihjendiaaGreat
