/- Several texts in one: Zv. -/
import Derived.Test.YtpifchlpakajjaaGreatRvac
import Derived.BigQuiet
import Derived.Deep.AppendLies
import Derived.Deep.DeepAppendRoom
import Derived.Deep.DeepFit
import Derived.Deep.QuietTactic
import Derived.Deep.RegionHeld3
import Derived.Deep.RegionLaw
import Derived.Ground.Names2Prog
import Derived.Laws.EntriesVeiled
import Derived.Laws.IdiomStrings
import Derived.Laws.StructEq
import Derived.Lib.Bytealg
import Derived.Lib.Hide
import Derived.Lib.IndexMore
import Derived.Lib.ItoaNum
import Derived.Lib.Join
import Derived.Lib.SliceRun
import Derived.Lib.Small
import Derived.Lib.Split
import Derived.Lib.Strings
import Derived.Outline
import Derived.Shelf.Slices.Clone
import Derived.Shelf.Slices.Empties2
import Derived.Shelf.Slices.Equal
import Derived.Shelf.Slices.SearchI
import Derived.Shelf.Small.Strs
import Derived.Shelf.Small.Wraps
import Derived.Shelf.Strings.Builder1
import Derived.Shelf.Strings.Builder2
import Derived.Shelf.Strings.BuilderF
import Derived.Shelf.Strings.BuilderK
import Derived.Shelf.Strings.Count
import Derived.Shelf.Strings.Cut
import Derived.Shelf.Strings.OnBuilder
import Derived.Shelf.Strings.Prefix
import Derived.Shelf.Strings.Search1
import Derived.Shelf.Strings.Split
import Derived.Test.YtpifchlpakajjaaGreatRvaa
import Derived.Test.YtpifchlpakajjaaGreatRvab
import Derived.Test.YtpifchlpakajjaaGreatProg
import Derived.Test.YtpifchlpakajjaaGreatRows
import Derived.WalkKit
import Derived.WalkLawsBesides
import Derived.WalkSpells
namespace Go.Proofs.YtpifchlpakajjaaGreat
open Go.RowKit
set_option linter.unusedVariables false
set_option linter.unusedSimpArgs false
set_option maxRecDepth 100000

theorem al_rows {nm : List UInt8} {L : List Sg} {t : List UInt8} {W w : World} {Q : Option Addr} {q e : Nat} {ps : List Prow} {pool : List Itm} (h0 : bgE nm L t = 0) (hpl : ps.length = q) (hpe : ps.map (·.2) = srtD L (dvs L t)) (hp : Hp W (hdrP Q q e ps :: pool) w) (hpo : ∀ p ∈ ps, ∃ k : Nat, pool[k]? = some (nums p.1.1 p.2.length p.1.2 (dI p.2))) :
    q ≤ 200 ∧ RowsIn w Q ((srtD L (dvs L t)).map dI) ∧ (srtD L (dvs L t)).length = q := by
  obtain ⟨hv, hu0, hu16, hl0, hl200⟩ := bgE_zero h0
  have hnd := dvs_nodup (TxNe.ok hv) t
  have hlen : (srtD L (dvs L t)).length = q := by rw [← hpe, List.length_map, hpl]
  refine ⟨by rw [srtD_len] at hlen; omega, ?_, hlen⟩
  have hrow := rows_in hp (fun p hp2 => by
    have h1 : p.2 ∈ ps.map (·.2) := List.mem_map_of_mem hp2
    rw [hpe, srtD_mem hnd] at h1
    have := (dv_bd hv hu0 hu16 h1).1
    omega) hpo
  rwa [rows_map hpe] at hrow
open Go.ChangeShapes Go.WideShapes Go.ChangeAt in
theorem open_sgnsV {H : Type} {enc : TypeId × Value → H} {W : World} {r : Reach} {b0 : Nat} {v : Value} {d : DataW H} {p : List MemPlace} (hv : Value.okWide Tryz.prog W r b0 22 v)
    (h : DataW.Trod enc Tryz.prog W 0 (fun _ => true) true 22 v d p) (hw : ∀ m ∈ d.weights Tryz.prog 22, m ≤ reachBytes) :
    ∃ (A : Option Addr) (n c : Nat) (L : List Sg), v = .slice A n c ∧ L.length = n ∧ n ≤ c ∧ n ≤ 17592186044416 ∧ (∀ x ∈ L, SgLim x) ∧ SgnIn W A L := by
  obtain ⟨fuel, hf⟩ := h
  obtain ⟨av, lv, cv, rfl⟩ := okWide_slice Tryz.underlying22 hv
  exact open_sgns (v := .slice av lv cv) (by simpa [Value.cells] using hf) hw
set_option maxHeartbeats 4000000 in
theorem lawmore_nat (q0 : Nat) (AD : Option Addr) (nd cd : Nat) (D : List Int) (AM : Option Addr) (mm cm : Nat) (M0 : List Int) (t : List UInt8) (AZ : Option Addr) (nz cz : Nat) (Z : List Sg) (w : World) (hq : q0 ≤ 255) (hD : D.length = nd) (hnd : nd ≤ 1000000000000000) (hDz : ∀ z ∈ D, 0 ≤ z ∧ z ≤ 255) (hDc : CellsIn w AD (bytesC D)) (hMl : M0.length = mm) (hmm : mm ≤ 1000000000000000) (hMz : ∀ z ∈ M0, 0 ≤ z ∧ z ≤ 255) (hMc : CellsIn w AM (bytesC M0)) (ht : t.length ≤ maxLen)
    (hZ : Z.length = nz) (hcz : nz ≤ cz) (hnz : nz ≤ 17592186044416) (hZs : ∀ x ∈ Z, SgLim x) (hZc : SgnIn w AZ Z) :
    Calls Tryz.prog 9 #[.agg #[.int .u8 (q0 : Int), .slice AD nd cd, .slice AM mm cm], .string (bs t), .slice AZ nz cz] w fun e w' => e = .returned (.bool true) ∧ Below w.heap.size w w' := by
  obtain ⟨g1, hg1⟩ : ∃ z, z = w.heap.size := ⟨_, rfl⟩
  obtain ⟨W1, hW1⟩ : ∃ z, z = w.alloc (.cells #[.int .u8 (q0 : Int), .slice AD nd cd, .slice AM mm cm] 52) := ⟨_, rfl⟩
  have V1 := Lib.hid (show Hp w [dbox g1 (q0 : Int) AD nd cd AM mm cm] W1 by rw [hW1, hg1]; exact (Hp.start w).box_new _ _)
  have HW1 := Lib.hid hW1
  have HG1 := Lib.hid hg1
  have HMADE := Lib.hid (fun (w' : World) (hb : Below w.heap.size w w') => rmade_any q0 AD nd cd D AM mm cm M0 w' hq hD hDz (hDc.below hb) hMl hMz (hMc.below hb))
  obtain ⟨ty, hty⟩ : ∃ y, y = t.length := ⟨_, rfl⟩
  have htz : (bs t).size = ty := by rw [bs_size]; exact hty.symm
  have HTY := Lib.hid hty
  have HZ := Lib.hid hZ
  have HZS := Lib.hid hZs
  have HZC := Lib.hid hZc
  unfold maxLen at ht
  rw [← hty] at ht
  clear hW1 hg1 hD hDz hDc hMl hMz hMc hty hZ hZs hZc
  go_enter Tryz.func9, Tryz.ntmps9
  go_upto_region 1 with fail
  rw [← HG1.out, ← HW1.out]
  go_wp2_with fail
  refine (awake13_any _).mono ?_
  rintro e wa ⟨rfl, hb⟩
  have V2 := Lib.hid (V1.out.go hb)
  clear hb
  obtain ⟨z0, z1, z2, z3⟩ := V2.out.dbox_at (i := 0) rfl
  by_cases c1 : 20 < nd
  · skip
    go_wp2_with fail
    refine (awake13_any _).mono ?_
    rintro e wb ⟨rfl, hb⟩
    have VZ := Lib.hid (V2.out.go hb)
    clear hb
    go_wp2_with fail
    go_ret
    exact ⟨rfl, VZ.out.below⟩
  by_cases c2 : 20 < mm
  · skip
    go_wp2_with fail
    refine (awake13_any _).mono ?_
    rintro e wb ⟨rfl, hb⟩
    have VZ := Lib.hid (V2.out.go hb)
    clear hb
    go_wp2_with fail
    go_ret
    exact ⟨rfl, VZ.out.below⟩
  by_cases c3 : 40 < ty
  · skip
    go_wp2_with fail
    refine (awake13_any _).mono ?_
    rintro e wb ⟨rfl, hb⟩
    have VZ := Lib.hid (V2.out.go hb)
    clear hb
    go_wp2_with fail
    go_ret
    exact ⟨rfl, VZ.out.below⟩
  by_cases c4 : 4 < nz
  · skip
    go_wp2_with fail
    refine (awake13_any _).mono ?_
    rintro e wb ⟨rfl, hb⟩
    have VZ := Lib.hid (V2.out.go hb)
    clear hb
    go_wp2_with fail
    go_ret
    exact ⟨rfl, VZ.out.below⟩
  go_upto_region 3 with fail
  go_wp2_with fail
  refine (HMADE.out _ V2.out.below).mono ?_
  rintro e w5 ⟨nm, A, n, c, vs, L, pool, rfl, hv, hl, hvs, hpo, hp⟩
  have B5 := Lib.hid (btwo V2.out.below hp.below)
  have HL := Lib.hid hl
  have hvz := (vO_zero hv).2.2.1
  have hn120 : n ≤ 120 := by omega
  have hnc : n ≤ c := (hp.cap (i := 0) (it := sgv A n c vs L) rfl (A := A) (c := c) rfl).1
  have hnm : nm.length ≤ 140737488355328 := by
    have h1 := (vO_zero hv).1
    unfold K.nameB at h1
    simp only [Bool.and_eq_true, decide_eq_true_eq] at h1
    have := h1.1.2
    omega
  have HNM := Lib.hid hnm
  have HA := Lib.hid (sg_pool hp hvs hpo)
  have hsb := SgBd.ok hv
  have HSB := Lib.hid hsb
  have HLZ := Lib.hid (show ∀ x ∈ L ++ Z, SgLim x from fun x hx => by
    rcases List.mem_append.1 hx with h | h
    · obtain ⟨a1, a2, a3⟩ := hsb x h; exact ⟨a1, by omega, a3⟩
    · exact HZS.out x h)
  have HV := Lib.hid hv
  clear hp hl hvs hpo hv hvz hnm hsb z0 z1 z2 z3
  obtain ⟨g5, hg5⟩ : ∃ z, z = w5.heap.size := ⟨_, rfl⟩
  obtain ⟨w6, hw6⟩ : ∃ z, z = w5.alloc (.cells #[.string (bs nm), .slice A n c] 24) := ⟨_, rfl⟩
  have V6 := Lib.hid (show Hp w5 [obox g5 nm A n c] w6 by rw [hw6, hg5]; exact (Hp.start w5).obox_new nm A n c)
  have HW6 := Lib.hid hw6
  have HG5 := Lib.hid hg5
  have HU := Lib.hid (show t.length ≤ 1000000 by rw [← HTY.out]; omega)
  obtain ⟨z0, z1, z2⟩ := V6.out.obox_at (i := 0) rfl
  go_upto_region 4 with fail
  rw [← HG5.out, ← HW6.out]
  obtain ⟨g7, hg7⟩ : ∃ z, z = w6.heap.size := ⟨_, rfl⟩
  obtain ⟨w7, hw7⟩ : ∃ z, z = w6.alloc (.cells #[.string (bs nm), .slice A n c] 24) := ⟨_, rfl⟩
  have V7 := Lib.hid (show Hp w5 [obox g7 nm A n c, obox g5 nm A n c] w7 by rw [hw7, hg7]; exact V6.out.obox_new nm A n c)
  have HW7 := Lib.hid hw7
  have HG7 := Lib.hid (show g7 = g5 + 1 by rw [hg7, hw6, hg5]; simp)
  have HG7' := Lib.hid hg7
  clear hw6 hg5 hw7 hg7
  go_upto_region 5 with fail
  rw [← HG7'.out, ← HW7.out]
  obtain ⟨y0, y1, y2⟩ := V7.out.obox_at (i := 0) rfl
  obtain ⟨x0, x1, x2⟩ := V7.out.obox_at (i := 1) rfl
  obtain ⟨g8, hg8⟩ : ∃ z, z = w7.heap.size := ⟨_, rfl⟩
  obtain ⟨w8, hw8⟩ : ∃ z, z = w7.alloc (.cells #[.slice A n c, .slice AZ nz cz] 22) := ⟨_, rfl⟩
  have hp8 : Hp w7 [⟨22, 1, .slice (some ⟨g8, 0, none⟩) 2 2, 2, [.slice A n c, .slice AZ nz cz]⟩] w8 := by rw [hw8, hg8]; exact (Hp.start w7).lit 22 1 2 [.slice A n c, .slice AZ nz cz] rfl (by decide)
  have V8 := Lib.hid (V7.out.go hp8.below)
  obtain ⟨us, hu1, hu2, hu3⟩ := HA.out.rows
  obtain ⟨uz, hz1, hz2, hz3⟩ := (HZC.out.below B5.out).rows
  have HRWS := Lib.hid (show Rws w8 (some ⟨g8, 0, none⟩) 4 [(A, n, c), (AZ, nz, cz)] [sgsC us L, sgsC uz Z] from ⟨rfl, hp8.cells (i := 0) rfl (A := some ⟨g8, 0, none⟩) (c := 2) rfl, fun j v x hv hx => by
    match j, hv, hx with
    | 0, hv, hx =>
      obtain rfl := Option.some.inj hv
      obtain rfl := Option.some.inj hx
      exact ⟨by rw [sgsC_len hu1, HL.out], hu2.below V8.out.below, sgsC_one us L⟩
    | 1, hv, hx =>
      obtain rfl := Option.some.inj hv
      obtain rfl := Option.some.inj hx
      exact ⟨by rw [sgsC_len hz1, HZ.out], hz2.below V8.out.below, sgsC_one uz Z⟩
    | j + 2, hv, hx => simp at hv⟩)
  have HSUM := Lib.hid (show sumV [(A, n, c), (AZ, nz, cz)] = n + nz by unfold sumV; simp)
  have HIN := Lib.hid (show ∀ (j : Nat) v x, (us ++ uz)[j]? = some v → (L ++ Z)[j]? = some x → CellsIn w5 v.1 (sndsC x.s) from fun j v x hv hx => by
    by_cases hj : j < us.length
    · rw [List.getElem?_append_left hj] at hv
      rw [List.getElem?_append_left (by omega)] at hx
      exact hu3 j v x hv hx
    · rw [List.getElem?_append_right (by omega)] at hv
      rw [List.getElem?_append_right (by omega), ← hu1] at hx
      exact hz3 _ v x hv hx)
  have HU1 := Lib.hid hu1
  have HUL := Lib.hid (show (us ++ uz).length = (L ++ Z).length by rw [List.length_append, List.length_append, hu1, hz1])
  have HW8 := Lib.hid hw8
  have HG8 := Lib.hid hg8
  clear hw8 hg8 hp8 hu1 hu2 hu3 hz1 hz2 hz3 z0 z1 z2
  go_wp2_with fail
  rw [← HG8.out, ← HW8.out]
  refine (concat_sgn [(A, n, c), (AZ, nz, cz)] [sgsC us L, sgsC uz Z] 2 2 (some ⟨g8, 0, none⟩) w8 rfl (by decide) (by rw [HSUM.out]; omega) HRWS.out).mono ?_
  rintro e w9 ⟨C, d, rfl, hp9⟩
  rw [HSUM.out] at hp9 ⊢
  rw [show ([sgsC us L, sgsC uz Z] : List (List Value)).flatten = sgsC (us ++ uz) (L ++ Z) by rw [sgsC_cat HU1.out]; simp] at hp9
  obtain ⟨N, hN⟩ : ∃ N, N = n + nz := ⟨_, rfl⟩
  rw [← hN] at hp9 ⊢
  have hN124 : N ≤ 124 := by omega
  have HLN := Lib.hid (show (L ++ Z).length = N by rw [List.length_append, HL.out, HZ.out, hN])
  have hNd : N ≤ d := (hp9.cap (i := 0) (it := sgv C N d (us ++ uz) (L ++ Z)) rfl (A := C) (c := d) rfl).1
  have V9 := Lib.hid (show Hp w5 [obox g7 nm A n c, obox g5 nm A n c, sgv C N d (us ++ uz) (L ++ Z)] w9 from (show Hp w5 [sgv C N d (us ++ uz) (L ++ Z), obox g7 nm A n c, obox g5 nm A n c] w9 from V8.out.join hp9).pick (l' := [obox g7 nm A n c, obox g5 nm A n c, sgv C N d (us ++ uz) (L ++ Z)]) [1, 2, 0] (by decide) rfl)
  clear hp9 hN y0 y1 y2 x0 x1 x2
  obtain ⟨w10, hw10⟩ : ∃ z, z = w9.setCell ⟨g7, 1, none⟩ (.slice C N d) := ⟨_, rfl⟩
  have V10 := Lib.hid (show Hp w5 [obox g7 nm C N d, obox g5 nm A n c, sgv C N d (us ++ uz) (L ++ Z)] w10 by rw [hw10]; exact V9.out.box_set (i := 0) (T := 24) (g := g7) (cs := [.string (bs nm), .slice A n c]) rfl 1 (.slice C N d))
  have HW10 := Lib.hid hw10
  obtain ⟨y0, yf, y2⟩ := V9.out.box_at (i := 0) (T := 24) (g := g7) (cs := [.string (bs nm), .slice A n c]) (j := 1) rfl rfl
  have HAZ := Lib.hid (sg_in (i := 2) (d := 0) (vs := us ++ uz) (L := L ++ Z) (n := N) (c := d) (A := C) V10.out rfl HUL.out (fun j v x hv hx => (HIN.out j v x hv hx).below V10.out.below))
  have HA10 := Lib.hid (HA.out.below V10.out.below)
  clear hw10 V8 V7 V6
  go_upto_region 6 with fail
  rw [← HW10.out]
  obtain ⟨z0, z1, z2⟩ := V10.out.obox_at (i := 1) rfl
  obtain ⟨x0, x1, x2⟩ := V10.out.obox_at (i := 0) rfl
  clear y0 yf y2 V9
  go_wp2_with fail
  refine (rfewO_any nm (L ++ Z) C N d _ HNM.out HLN.out (by omega) HLZ.out HAZ.out).mono ?_
  rintro e w11 ⟨rfl, hb⟩
  have V11 := Lib.hid (V10.out.go hb)
  have HAZ11 := Lib.hid (HAZ.out.below hb)
  clear hb z0 z1 z2 x0 x1 x2
  cases hf : fewO nm (L ++ Z) with
  | false =>
    clear hf
    go_wp2_with fail
    go_ret
    exact ⟨rfl, btwo B5.out V11.out.below⟩
  | true =>
  have HSZ := Lib.hid (fewO_bd hf HLZ.out)
  clear hf
  obtain ⟨x0, x1, x2⟩ := V11.out.obox_at (i := 0) rfl
  go_wp2_with fail
  refine (rovalid_any nm (L ++ Z) C N d _ HNM.out HLN.out (by omega) HSZ.out HAZ11.out).mono ?_
  rintro e w12 ⟨rfl, hb⟩
  have V12 := Lib.hid (V11.out.go hb)
  have HAZ12 := Lib.hid (HAZ11.out.below hb)
  have HA12 := Lib.hid (HA.out.below V12.out.below)
  clear hb x0 x1 x2
  obtain ⟨F, hF⟩ : ∃ F, F = (vO nm (L ++ Z)).2 := ⟨_, rfl⟩
  rw [← hF]
  by_cases hF0 : F = 0
  case neg =>
    clear hF
    go_wp2_with fail
    go_ret
    exact ⟨rfl, btwo B5.out V12.out.below⟩
  subst hF0
  have HVZ := Lib.hid hF.symm
  clear hF
  obtain ⟨z0, z1, z2⟩ := V12.out.obox_at (i := 1) rfl
  go_wp2_with fail
  refine (all_any nm L A n c t w12 HNM.out HL.out (by omega) hnc HSB.out HA12.out HU.out).mono ?_
  rintro e w13 (⟨hne, rfl, hb⟩ | ⟨h0, Q1, q1, e1, ps1, pool1, rfl, hpl1, hpe1, hp1, hpo1⟩)
  · have V13 := Lib.hid (V12.out.go hb)
    have HAZ13 := Lib.hid (HAZ12.out.below hb)
    obtain ⟨F1, hF1⟩ : ∃ F, F = bgE nm L t := ⟨_, rfl⟩
    rw [← hF1] at hne ⊢
    clear hF1 hb z0 z1 z2
    obtain ⟨x0, x1, x2⟩ := V13.out.obox_at (i := 0) rfl
    go_wp2_with fail
    refine (all_any nm (L ++ Z) C N d t w13 HNM.out HLN.out (by omega) hNd HSZ.out HAZ13.out HU.out).mono ?_
    rintro e w14 (⟨_, rfl, hb⟩ | ⟨_, Q2, q2, e2, ps2, pool2, rfl, _, _, hp2, _⟩)
    · have V14 := Lib.hid (V13.out.go hb)
      clear hb x0 x1 x2
      go_wp2_with fail
      go_ret
      exact ⟨rfl, btwo B5.out V14.out.below⟩
    · have V14 := Lib.hid (V13.out.go hp2.below)
      clear hp2 x0 x1 x2
      go_wp2_with fail
      go_ret
      exact ⟨rfl, btwo B5.out V14.out.below⟩
  have hb := hp1.below
  have V13 := Lib.hid (V12.out.go hb)
  have HAZ13 := Lib.hid (HAZ12.out.below hb)
  obtain ⟨hq1, hrow1, hlen1⟩ := al_rows h0 hpl1 hpe1 hp1 hpo1
  have HROW1 := Lib.hid hrow1
  have HLEN1 := Lib.hid hlen1
  have H0 := Lib.hid h0
  clear hb hp1 hpo1 hpe1 hpl1 hrow1 hlen1 h0 z0 z1 z2
  obtain ⟨x0, x1, x2⟩ := V13.out.obox_at (i := 0) rfl
  go_wp2_with fail
  refine (all_any nm (L ++ Z) C N d t w13 HNM.out HLN.out (by omega) hNd HSZ.out HAZ13.out HU.out).mono ?_
  rintro e w14 (⟨hne, rfl, hb⟩ | ⟨h2, Q2, q2, e2, ps2, pool2, rfl, hpl2, hpe2, hp2, hpo2⟩)
  · have V14 := Lib.hid (V13.out.go hb)
    rw [(bg_app HVZ.out H0.out).resolve_left hne]
    clear hb x0 x1 x2 hne
    go_wp2_with fail
    go_ret
    exact ⟨rfl, btwo B5.out V14.out.below⟩
  have hb := hp2.below
  have V14 := Lib.hid (V13.out.go hb)
  have HROW1b := Lib.hid (HROW1.out.below hb)
  obtain ⟨hq2, hrow2, hlen2⟩ := al_rows h2 hpl2 hpe2 hp2 hpo2
  have HROW2 := Lib.hid hrow2
  have HLEN2 := Lib.hid hlen2
  have H2 := Lib.hid h2
  clear hb hp2 hpo2 hpe2 hpl2 hrow2 hlen2 h2 x0 x1 x2 HROW1
  have hbz := bgE_zero H0.out
  obtain ⟨R1, hR1⟩ : ∃ R, R = srtD L (dvs L t) := ⟨_, rfl⟩
  obtain ⟨R2, hR2⟩ : ∃ R, R = srtD (L ++ Z) (dvs (L ++ Z) t) := ⟨_, rfl⟩
  have HSUB := Lib.hid (show ∀ x ∈ R1, x ∈ R2 ∧ x.length ≤ 16 from fun x hx => by
    rw [hR1] at hx
    have hd := (srtD_mem (dvs_nodup (TxNe.ok hbz.1) t) x).1 hx
    exact ⟨by rw [hR2]; exact (srtD_mem (dvs_nodup (TxNe.ok HVZ.out) t) x).2 (dvs_app hbz.1 HVZ.out hbz.2.1 hd).1, (dv_bd hbz.1 hbz.2.1 hbz.2.2.1 hd).1⟩)
  have HR1 := Lib.hid hR1
  have HR2 := Lib.hid hR2
  rw [← hR1] at HROW1b HLEN1
  rw [← hR2] at HROW2 HLEN2
  clear hR1 hR2 hbz
  go_wp2_with fail
  go_loopw [89] (fun b wr => ∃ k : Nat, k ≤ q1 ∧ b = .int .i64 (k : Int) ∧ Hp w5 [obox g7 nm C N d, obox g5 nm A n c, sgv C N d (us ++ uz) (L ++ Z)] wr ∧ RowsIn wr Q1 (R1.map dI) ∧ RowsIn wr Q2 (R2.map dI)) (fun b _ => q1 - (intOf b).toNat)
  case atStart => exact ⟨0, Nat.zero_le _, rfl, V14.out, HROW1b.out, HROW2.out⟩
  case round =>
    obtain ⟨k, hk, rfl, hV, hrw1, hrw2⟩ := hrel
    obtain ⟨wi, rfl⟩ : ∃ wi : World, wi = wr := ⟨_, rfl⟩
    have V15 := Lib.hid hV
    have HRW1 := Lib.hid hrw1
    have HRW2 := Lib.hid hrw2
    clear hV hrw1 hrw2 V14 HROW1b HROW2
    by_cases hlt : k < q1
    case neg =>
      have HA15 := Lib.hid (HA.out.below V15.out.below)
      have HAZ15 := Lib.hid (sg_in (i := 2) (d := 0) (vs := us ++ uz) (L := L ++ Z) (n := N) (c := d) (A := C) V15.out rfl HUL.out (fun j v x hv hx => (HIN.out j v x hv hx).below V15.out.below))
      obtain ⟨z0, z1, z2⟩ := V15.out.obox_at (i := 1) rfl
      go_wp2_with fail
      refine (bestD_any nm L A n c t _ HNM.out HL.out (by omega) hnc HSB.out HA15.out HU.out).mono ?_
      rintro e w16 (⟨hne, _⟩ | ⟨_, C6, d6, x6, r6, rfl, hx6, hp6⟩)
      · exact absurd H0.out hne
      have hb := hp6.below
      have V16 := Lib.hid (V15.out.go hb)
      have HAZ16 := Lib.hid (HAZ15.out.below hb)
      have HX6 := Lib.hid hx6
      clear hb hp6 hx6 z0 z1 z2
      obtain ⟨z0, z1, z2⟩ := V16.out.obox_at (i := 0) rfl
      go_wp2_with fail
      refine (bestD_any nm (L ++ Z) C N d t _ HNM.out HLN.out (by omega) hNd HSZ.out HAZ16.out HU.out).mono ?_
      rintro e w17 (⟨hne, _⟩ | ⟨_, C7, d7, x7, r7, rfl, hx7, hp7⟩)
      · exact absurd H2.out hne
      have V17 := Lib.hid (V16.out.go hp7.below)
      have hle := bs_app HVZ.out H0.out HX6.out hx7
      obtain ⟨X6, hX6⟩ : ∃ X, X = cD L x6 := ⟨_, rfl⟩
      obtain ⟨X7, hX7⟩ : ∃ X, X = cD (L ++ Z) x7 := ⟨_, rfl⟩
      rw [← hX6, ← hX7] at hle
      rw [← hX6, ← hX7]
      clear hp7 hx7 hX6 hX7 z0 z1 z2
      go_wp2_with fail
      go_ret
      exact ⟨rfl, btwo B5.out V17.out.below⟩
    obtain ⟨x, hx⟩ : ∃ x, R1[k]? = some x := ⟨_, List.getElem?_eq_getElem (by rw [HLEN1.out]; exact hlt)⟩
    obtain ⟨hin, hx16⟩ := HSUB.out x (List.mem_of_getElem? hx)
    obtain ⟨b, off, Aj, cj, rfl, hb1, r1, r2, r3, r4⟩ := RowsIn.row HRW1.out (j := k) (row := dI x) (by rw [List.getElem?_map, hx]; rfl)
    obtain ⟨m, hm⟩ : ∃ m, m = (dI x).length := ⟨_, rfl⟩
    have hm16 : m ≤ 16 := by rw [hm, dI_len]; exact hx16
    rw [← hm] at r1 r2
    have HMM := Lib.hid hm.symm
    have HR4 := Lib.hid r4
    have HANY := Lib.hid (show (R2.map dI).any (fun y => decide (y = dI x)) = true from List.any_eq_true.2 ⟨dI x, List.mem_map_of_mem hin, decide_eq_true rfl⟩)
    have HL2 := Lib.hid (show (R2.map dI).length = q2 by rw [List.length_map]; exact HLEN2.out)
    clear hm r3 r4 hx hin
    go_wp2_with fail
    refine (rhas_any Q2 Aj q2 e2 m cj (R2.map dI) (dI x) _ HL2.out HMM.out (by omega) (by omega) HRW2.out HR4.out).mono ?_
    rintro r w16 ⟨rfl, hb⟩
    rw [HANY.out]
    have V16 := Lib.hid (V15.out.go hb)
    have RA := Lib.hid (HRW1.out.below hb)
    have RB := Lib.hid (HRW2.out.below hb)
    clear hb
    go_wp2_with fail
    go_roundw
    case rel => exact ⟨k + 1, by omega, by go_num, V16.out, RA.out, RB.out⟩
    case measure => simp [intOf]; omega
theorem lawdivisionmore_any (kd : Int) (AD : Option Addr) (nd cd : Nat) (D : List Int) (AM : Option Addr) (mm cm : Nat) (M : List Int) (t : List UInt8) (AZ : Option Addr) (nz cz : Nat) (Z : List Sg) (w : World) (hq : 0 ≤ kd ∧ kd ≤ 255) (hD : D.length = nd ∧ nd ≤ 1000000000000000) (hDz : ∀ z ∈ D, 0 ≤ z ∧ z ≤ 255) (hDc : CellsIn w AD (bytesC D)) (hM : M.length = mm ∧ mm ≤ 1000000000000000) (hMz : ∀ z ∈ M, 0 ≤ z ∧ z ≤ 255) (hMc : CellsIn w AM (bytesC M)) (ht : t.length ≤ maxLen)
    (hZ : Z.length = nz) (hcz : nz ≤ cz) (hnz : nz ≤ 17592186044416) (hZs : ∀ x ∈ Z, SgLim x) (hZc : SgnIn w AZ Z) :
    Calls Tryz.prog 9 #[.agg #[.int .u8 kd, .slice AD nd cd, .slice AM mm cm], .string (bs t), .slice AZ nz cz] w fun e w' => e = .returned (.bool true) ∧ Below w.heap.size w w' := by
  obtain ⟨q0, rfl⟩ : ∃ q0 : Nat, kd = (q0 : Int) := ⟨kd.toNat, by omega⟩
  exact lawmore_nat q0 AD nd cd D AM mm cm M t AZ nz cz Z w (by omega) hD.1 hD.2 hDz hDc hM.1 hM.2 hMz hMc ht hZ hcz hnz hZs hZc
end Go.Proofs.YtpifchlpakajjaaGreat
