/- Several texts in one: Zr. -/
import Derived.Test.YtpifchlpakajjaaGreatRtbu
import Derived.Test.YtpifchlpakajjaaGreatRtbv
namespace Go.Proofs.YtpifchlpakajjaaGreat
open Go.RowKit
set_option linter.unusedVariables false
set_option linter.unusedSimpArgs false
set_option maxRecDepth 100000

theorem offD_ge (L : List Sg) : ∀ (a : Nat) (d : List Nat), ∀ z ∈ offD L a d, (a : Int) ≤ z
  | _, [], z, h => by cases h
  | a, i :: r, z, h => by
    rw [offD, List.mem_append] at h
    rcases h with h | h
    · rw [List.eq_of_mem_replicate h]; exact Int.le_refl _
    · have := offD_ge L _ r z h; omega
theorem offD_asc (L : List Sg) : ∀ (a : Nat) (d : List Nat), (offD L a d).Pairwise (· ≤ ·)
  | _, [] => List.Pairwise.nil
  | a, i :: r => by
    rw [offD, List.pairwise_append]
    refine ⟨List.pairwise_replicate.2 (Or.inr (Int.le_refl _)), offD_asc L _ r, fun x hx y hy => ?_⟩
    rw [List.eq_of_mem_replicate hx]
    have := offD_ge L _ r y hy
    omega
theorem ofR_asc (nm : List UInt8) (L : List Sg) (d : List Int) (k : Nat) (hk : k + 1 < (ofR nm L d).length) : (ofR nm L d).getD k 0 ≤ (ofR nm L d).getD (k + 1) 0 := by
  have h : (ofR nm L d).Pairwise (· ≤ ·) := by
    unfold ofR
    split
    · exact offD_asc _ _ _
    · exact List.Pairwise.nil
  rw [List.getD_eq_getElem?_getD, List.getD_eq_getElem?_getD, List.getElem?_eq_getElem (show k < _ by omega), List.getElem?_eq_getElem hk]
  exact List.pairwise_iff_getElem.1 h k (k + 1) (by omega) hk (by omega)
theorem dv_facts {nm : List UInt8} {L : List Sg} {t : List UInt8} (h0 : bgE nm L t = 0) {x : List Nat} (hx : x ∈ dvs L t) : lsE nm L (dI x) = 0 ∧ txR nm L (dI x) = t ∧ (sdR nm L (dI x)).length = (ofR nm L (dI x)).length ∧ chE nm L t (dI x) = 0 ∧ chC nm L t (dI x) = cD L x ∧ 0 ≤ cD L x ∧ x.length ≤ 16 := by
  obtain ⟨hv, hu0, hu16, _, _⟩ := bgE_zero h0
  have hi := (dvs_mem (TxNe.ok hv) hu0 x).1 hx
  obtain ⟨hl, hr⟩ := dv_bd hv hu0 hu16 hx
  have hrg : rgI L.length (dI x) = true := rgI_is.2 (fun i hi2 => by
    obtain ⟨k, hk, rfl⟩ := List.mem_map.1 hi2
    have := hr k hk
    exact ⟨Int.natCast_nonneg _, Int.ofNat_lt.2 this⟩)
  have hg : gvE nm L t = 0 := by
    have h1 := h0
    unfold bgE at h1
    split at h1
    · rename_i h2; exact absurd h1 h2
    · rename_i h2; exact Classical.not_not.1 h2
  have hls : lsE nm L (dI x) = 0 := by
    unfold lsE
    rw [if_neg (by rw [hv]; simp), if_neg (by rw [dI_len]; omega), if_pos hrg]
  have hch : chE nm L t (dI x) = 0 := chE_zero.2 ⟨hg, hrg, by rw [dN_dI]; exact hi⟩
  refine ⟨hls, ?_, ?_, hch, ?_, (cD_bd hv hr).1, hl⟩
  · unfold txR; rw [if_pos hls, dN_dI]; exact hi.2.1
  · unfold sdR ofR; rw [if_pos hls, if_pos hls, offD_len]
  · unfold chC; rw [if_pos hch, dN_dI]
set_option maxHeartbeats 4000000 in
theorem lawtexts_nat (q0 : Nat) (AD : Option Addr) (nd cd : Nat) (D : List Int) (AM : Option Addr) (mm cm : Nat) (M : List Int) (t : List UInt8) (w : World) (hq : q0 ≤ 255) (hD : D.length = nd) (hnd : nd ≤ 1000000000000000) (hDz : ∀ z ∈ D, 0 ≤ z ∧ z ≤ 255) (hDc : CellsIn w AD (bytesC D)) (hMl : M.length = mm) (hmm : mm ≤ 1000000000000000) (hMz : ∀ z ∈ M, 0 ≤ z ∧ z ≤ 255) (hMc : CellsIn w AM (bytesC M)) (ht : t.length ≤ maxLen) :
    Calls Tryz.prog 8 #[.agg #[.int .u8 (q0 : Int), .slice AD nd cd, .slice AM mm cm], .string (bs t)] w fun e w' => e = .returned (.bool true) ∧ Below w.heap.size w w' := by
  obtain ⟨g1, hg1⟩ : ∃ z, z = w.heap.size := ⟨_, rfl⟩
  obtain ⟨W1, hW1⟩ : ∃ z, z = w.alloc (.cells #[.int .u8 (q0 : Int), .slice AD nd cd, .slice AM mm cm] 52) := ⟨_, rfl⟩
  have V1 := Lib.hid (show Hp w [dbox g1 (q0 : Int) AD nd cd AM mm cm] W1 by rw [hW1, hg1]; exact (Hp.start w).box_new _ _)
  have HW1 := Lib.hid hW1
  have HG1 := Lib.hid hg1
  have HMADE := Lib.hid (fun (w' : World) (hb : Below w.heap.size w w') => rmade_any q0 AD nd cd D AM mm cm M w' hq hD hDz (hDc.below hb) hMl hMz (hMc.below hb))
  obtain ⟨ty, hty⟩ : ∃ y, y = t.length := ⟨_, rfl⟩
  have htz : (bs t).size = ty := by rw [bs_size]; exact hty.symm
  have HTY := Lib.hid hty
  unfold maxLen at ht
  rw [← hty] at ht
  clear hW1 hg1 hD hDz hDc hMl hMz hMc hty
  go_enter Tryz.func8, Tryz.ntmps8
  go_upto_region 1 with fail
  rw [← HG1.out, ← HW1.out]
  go_wp2_with fail
  refine (awake13_any _).mono ?_
  rintro e wa ⟨rfl, hb⟩
  have V2 := Lib.hid (V1.out.go hb)
  clear hb
  obtain ⟨z0, z1, z2, z3⟩ := V2.out.dbox_at (i := 0) rfl
  by_cases c1 : 20 < nd
  · skip
    go_wp2_with fail
    refine (awake13_any _).mono ?_
    rintro e wb ⟨rfl, hb⟩
    have VZ := Lib.hid (V2.out.go hb)
    clear hb
    go_wp2_with fail
    go_ret
    exact ⟨rfl, VZ.out.below⟩
  by_cases c2 : 20 < mm
  · skip
    go_wp2_with fail
    refine (awake13_any _).mono ?_
    rintro e wb ⟨rfl, hb⟩
    have VZ := Lib.hid (V2.out.go hb)
    clear hb
    go_wp2_with fail
    go_ret
    exact ⟨rfl, VZ.out.below⟩
  by_cases c3 : 40 < ty
  · skip
    go_wp2_with fail
    refine (awake13_any _).mono ?_
    rintro e wb ⟨rfl, hb⟩
    have VZ := Lib.hid (V2.out.go hb)
    clear hb
    go_wp2_with fail
    go_ret
    exact ⟨rfl, VZ.out.below⟩
  go_upto_region 3 with fail
  go_wp2_with fail
  refine (HMADE.out _ V2.out.below).mono ?_
  rintro e w5 ⟨nm, A, n, c, vs, L, pool, rfl, hv, hl, hvs, hpo, hp⟩
  have B5 := Lib.hid (btwo V2.out.below hp.below)
  have HL := Lib.hid hl
  have hvz := (vO_zero hv).2.2.1
  have hn120 : n ≤ 120 := by omega
  have hnc : n ≤ c := (hp.cap (i := 0) (it := sgv A n c vs L) rfl (A := A) (c := c) rfl).1
  have hnm : nm.length ≤ 140737488355328 := by
    have h1 := (vO_zero hv).1
    unfold K.nameB at h1
    simp only [Bool.and_eq_true, decide_eq_true_eq] at h1
    have := h1.1.2
    omega
  have HNM := Lib.hid hnm
  have HA := Lib.hid (sg_pool hp hvs hpo)
  have HSB := Lib.hid (SgBd.ok hv)
  clear hp hl hvs hpo hv hvz hnm z0 z1 z2 z3
  obtain ⟨g5, hg5⟩ : ∃ z, z = w5.heap.size := ⟨_, rfl⟩
  obtain ⟨w6, hw6⟩ : ∃ z, z = w5.alloc (.cells #[.string (bs nm), .slice A n c] 24) := ⟨_, rfl⟩
  have V6 := Lib.hid (show Hp w5 [obox g5 nm A n c] w6 by rw [hw6, hg5]; exact (Hp.start w5).obox_new nm A n c)
  have HW6 := Lib.hid hw6
  have HG5 := Lib.hid hg5
  have HU := Lib.hid (show t.length ≤ 1000000 by rw [← HTY.out]; omega)
  clear hw6 hg5
  obtain ⟨z0, z1, z2⟩ := V6.out.obox_at (i := 0) rfl
  go_upto_region 4 with fail
  rw [← HG5.out, ← HW6.out]
  go_wp2_with fail
  refine (all_any nm L A n c t w6 HNM.out HL.out (by omega) hnc HSB.out (HA.out.below V6.out.below) HU.out).mono ?_
  rintro e w7 (⟨hne, rfl, hb⟩ | ⟨h0, Q, q, e1, ps, pool, rfl, hpl, hpe, hp, hpo⟩)
  · have V7 := Lib.hid (V6.out.go hb)
    obtain ⟨F, hF⟩ : ∃ F, F = bgE nm L t := ⟨_, rfl⟩
    rw [← hF] at hne ⊢
    clear hF hb z0 z1 z2
    go_wp2_with fail
    go_ret
    exact ⟨rfl, btwo B5.out V7.out.below⟩
  obtain ⟨hv, hu0, hu16, hl0, hl200⟩ := bgE_zero h0
  have hnd := dvs_nodup (TxNe.ok hv) t
  have hb := hp.below
  have V7 := Lib.hid (V6.out.go hb)
  have hq200 : q ≤ 200 := by
    have h1 : (ps.map (·.2)).length = q := by rw [List.length_map, hpl]
    rw [hpe, srtD_len] at h1
    omega
  have hrow := rows_in hp (fun p hp2 => by
    have h1 : p.2 ∈ ps.map (·.2) := List.mem_map_of_mem hp2
    rw [hpe, srtD_mem hnd] at h1
    have := (dv_bd hv hu0 hu16 h1).1
    omega) hpo
  rw [rows_map hpe] at hrow
  have hlen : (srtD L (dvs L t)).length = q := by rw [← hpe, List.length_map, hpl]
  obtain ⟨R, hR⟩ : ∃ R, R = srtD L (dvs L t) := ⟨_, rfl⟩
  have HMEM := Lib.hid (show ∀ x ∈ R, x ∈ dvs L t from fun x hx => by rw [hR] at hx; exact (srtD_mem hnd x).1 hx)
  have HORD := Lib.hid (show ∀ (j k : Nat) x y, j < k → R[j]? = some x → R[k]? = some y → cD L x ≤ cD L y from fun j k x y hjk hx hy => by
    have h1 := srtD_ord (L := L) hnd
    rw [← hR] at h1
    obtain ⟨hj, e2⟩ := List.getElem?_eq_some_iff.1 hx
    obtain ⟨hk, e3⟩ := List.getElem?_eq_some_iff.1 hy
    have := List.pairwise_iff_getElem.1 h1 j k hj hk hjk
    rw [e2, e3] at this
    exact bef_cost this)
  rw [← hR] at hrow hlen
  have HROW := Lib.hid hrow
  have HLEN := Lib.hid hlen
  have H0 := Lib.hid h0
  clear hb hp hpo hpe hpl hlen hrow hnd h0 hv hu0 hu16 hl0 hl200 z0 z1 z2 hR
  go_wp2_with fail
  go_loopw [8, 54] (fun a b wr => ∃ (k : Nat) (v : Int), k ≤ q ∧ b = .int .i64 (k : Int) ∧ a = .int .i64 v ∧ (∀ j x, k ≤ j → R[j]? = some x → v ≤ cD L x) ∧ Hp w5 [obox g5 nm A n c] wr ∧ RowsIn wr Q (R.map dI)) (fun _ b _ => q - (intOf b).toNat)
  case atStart => exact ⟨0, 0, Nat.zero_le _, rfl, rfl, fun j x _ hx => (dv_facts H0.out (HMEM.out x (List.mem_of_getElem? hx))).2.2.2.2.2.1, V7.out, HROW.out⟩
  case round =>
    obtain ⟨k, v, hk, rfl, rfl, hv, hV, hrw⟩ := hrel
    obtain ⟨wi, rfl⟩ : ∃ wi : World, wi = wr := ⟨_, rfl⟩
    have V8 := Lib.hid hV
    have HRW := Lib.hid hrw
    have HVV := Lib.hid hv
    clear hV hrw hv V7 HROW
    by_cases hlt : k < q
    case neg =>
      go_wp2_with fail
      go_ret
      exact ⟨rfl, btwo B5.out V8.out.below⟩
    obtain ⟨x, hx⟩ : ∃ x, R[k]? = some x := ⟨_, List.getElem?_eq_getElem (by rw [HLEN.out]; exact hlt)⟩
    obtain ⟨f1, f2, f3, f4, f5, f6, f7⟩ := dv_facts H0.out (HMEM.out x (List.mem_of_getElem? hx))
    obtain ⟨b, off, Aj, cj, rfl, hb1, r1, r2, r3, r4⟩ := RowsIn.row HRW.out (j := k) (row := dI x) (by rw [List.getElem?_map, hx]; rfl)
    obtain ⟨m, hm⟩ : ∃ m, m = (dI x).length := ⟨_, rfl⟩
    have hm16 : m ≤ 16 := by rw [hm, dI_len]; exact f7
    rw [← hm] at r1 r2
    have HMM := Lib.hid hm.symm
    have HR4 := Lib.hid r4
    have HX := Lib.hid hx
    have F1 := Lib.hid f1
    have F2 := Lib.hid f2
    have F3 := Lib.hid f3
    have F4 := Lib.hid f4
    have F5 := Lib.hid f5
    have HGE := Lib.hid (HVV.out k x (Nat.le_refl _) hx)
    obtain ⟨sl, sl2⟩ := sdR_len nm L (dI x)
    have SL := Lib.hid sl
    have SL2 := Lib.hid sl2
    clear hm r3 r4 hx f1 f2 f3 f4 f5 f6 f7 sl sl2
    obtain ⟨z0, z1, z2⟩ := V8.out.obox_at (i := 0) rfl
    go_wp2_with fail
    refine (textD_any nm L A n c (dI x) Aj m cj _ HNM.out HL.out (by omega) hnc HSB.out (HA.out.below V8.out.below) HMM.out (by omega) HR4.out).mono ?_
    rintro r wb1 ⟨rfl, hb⟩
    rw [F1.out, F2.out]
    have VB1 := Lib.hid (V8.out.go hb)
    have RB1 := Lib.hid (HRW.out.below hb)
    have RC1 := Lib.hid (HR4.out.below hb)
    clear hb z0 z1 z2 r1 hb1
    obtain ⟨z0, z1, z2⟩ := VB1.out.obox_at (i := 0) rfl
    go_wp2_with fail
    refine (soundsD_any nm L A n c (dI x) Aj m cj _ HNM.out HL.out (by omega) hnc HSB.out (HA.out.below VB1.out.below) HMM.out (by omega) RC1.out).mono ?_
    rintro r wb2 ⟨C2, q2, k2, rfl, hq2, hp2⟩
    rw [F1.out]
    have hb := hp2.below
    have VB2 := Lib.hid (VB1.out.go hb)
    have RB2 := Lib.hid (RB1.out.below hb)
    have RC2 := Lib.hid (RC1.out.below hb)
    have HQ2 := Lib.hid hq2
    clear hb hp2 hq2 z0 z1 z2
    obtain ⟨z0, z1, z2⟩ := VB2.out.obox_at (i := 0) rfl
    go_wp2_with fail
    refine (offsetsD_any nm L A n c (dI x) Aj m cj _ HNM.out HL.out (by omega) hnc HSB.out (HA.out.below VB2.out.below) HMM.out (by omega) RC2.out).mono ?_
    rintro r wb3 ⟨C3, q3, k3, rfl, hq3, hp3⟩
    rw [F1.out]
    have hqq : q3 = q2 := by rw [← hq3, ← HQ2.out, F3.out]
    have hb := hp3.below
    have VB3 := Lib.hid (VB2.out.go hb)
    have RB3 := Lib.hid (RB2.out.below hb)
    have RC3 := Lib.hid (RC2.out.below hb)
    have HC3 := Lib.hid (hp3.cells (i := 0) (it := nums C3 q3 k3 (ofR nm L (dI x))) rfl (A := C3) (c := k3) rfl)
    have HQ3 := Lib.hid hq3
    have hq32 : q3 ≤ 32 := by rw [← hq3]; exact SL2.out
    subst hqq
    clear hb hp3 hq3 z0 z1 z2 HQ2
    obtain ⟨z0, z1, z2⟩ := VB3.out.obox_at (i := 0) rfl
    go_wp2_with fail
    refine (checkD_any nm L A n c t (dI x) Aj m cj _ HNM.out HL.out (by omega) hnc HSB.out (HA.out.below VB3.out.below) HU.out HMM.out (by omega) RC3.out).mono ?_
    rintro r wb4 ⟨rfl, hb⟩
    rw [F4.out, F5.out]
    have VB4 := Lib.hid (VB3.out.go hb)
    have RB4 := Lib.hid (RB3.out.below hb)
    have HC4 := Lib.hid (HC3.out.below hb)
    obtain ⟨K, hK⟩ : ∃ K, K = cD L x := ⟨_, rfl⟩
    have HK := Lib.hid hK
    have hge : v ≤ K := by rw [hK]; exact HGE.out
    rw [← hK]
    clear hb hK z0 z1 z2 VB1 VB2 VB3 RB1 RB2 RB3 RC1 RC2 RC3 HC3 V8 HRW HR4
    go_wp2_with fail
    refine (sorted_any C3 q3 k3 (ofR nm L (dI x)) _ HQ3.out (by omega) HC4.out (fun j hj => ofR_asc nm L (dI x) j (by rw [HQ3.out]; exact hj))).mono ?_
    rintro r wb5 ⟨rfl, hb⟩
    have VB5 := Lib.hid (VB4.out.go hb)
    have RB5 := Lib.hid (RB4.out.below hb)
    clear hb VB4 RB4 HC4
    go_wp2_with fail
    go_roundw
    case rel => exact ⟨k + 1, K, by omega, by go_num, rfl, fun j y hj hy => by rw [HK.out]; exact HORD.out k j x y (by omega) HX.out hy, VB5.out, RB5.out⟩
    case measure => simp [intOf]; omega
theorem lawdivisiontexts_any (kd : Int) (AD : Option Addr) (nd cd : Nat) (D : List Int) (AM : Option Addr) (mm cm : Nat) (M : List Int) (t : List UInt8) (w : World) (hq : 0 ≤ kd ∧ kd ≤ 255) (hD : D.length = nd ∧ nd ≤ 1000000000000000) (hDz : ∀ z ∈ D, 0 ≤ z ∧ z ≤ 255) (hDc : CellsIn w AD (bytesC D)) (hM : M.length = mm ∧ mm ≤ 1000000000000000) (hMz : ∀ z ∈ M, 0 ≤ z ∧ z ≤ 255) (hMc : CellsIn w AM (bytesC M)) (ht : t.length ≤ maxLen) :
    Calls Tryz.prog 8 #[.agg #[.int .u8 kd, .slice AD nd cd, .slice AM mm cm], .string (bs t)] w fun e w' => e = .returned (.bool true) ∧ Below w.heap.size w w' := by
  obtain ⟨q0, rfl⟩ : ∃ q0 : Nat, kd = (q0 : Int) := ⟨kd.toNat, by omega⟩
  exact lawtexts_nat q0 AD nd cd D AM mm cm M t w (by omega) hD.1 hD.2 hDz hDc hM.1 hM.2 hMz hMc ht
end Go.Proofs.YtpifchlpakajjaaGreat
