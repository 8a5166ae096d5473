/- Contract of the reference: all paths. -/
import Derived.Test.YtdoobdfanalnbaaDDc
import Derived.Test.YtdoobdfanalnbaaDCq
namespace Go.Proofs.Ytdoobdfanalnbaa
open Go.RowKit
set_option linter.unusedVariables false
set_option linter.unusedSimpArgs false
set_option maxRecDepth 100000

set_option maxHeartbeats 16000000 in
theorem rpaths_any (g : Gr) (A : Option Addr) (n c : Nat) (w : World) (h : GrIn w A n c g) :
    Calls Try.prog 22 #[gval g A n c] w (PathsPost g w) := by
  have H := Lib.hid h
  clear h
  obtain ⟨wz, hwz⟩ : ∃ z, z = w.alloc (.cells #[.int .i64 g.n, .slice A n c] 24) := ⟨_, rfl⟩
  have HZ := Lib.hid hwz
  have V := Lib.hid (show Hp w [gbox w.heap.size g A n c] wz by rw [hwz]; exact (Hp.start w).gnew g A n c)
  clear hwz
  go_enter Try.func22, Try.ntmps22
  go_upto_region 1 with fail
  rw [← HZ.out]
  clear HZ
  obtain ⟨r0, r1, r9⟩ := V.out.gb (i := 0) rfl
  go_wp2_with fail
  refine (rvalid_any g A n c _ (H.out.below V.out.below)).mono ?_
  rintro e w1 ⟨rfl, b1⟩
  have V1 := Lib.hid (V.out.go b1)
  clear b1 r0 r1 r9 V
  obtain ⟨r0, r1, r9⟩ := V1.out.gb (i := 0) rfl
  by_cases hv : g.vE = 0
  case neg =>
    have HE := Lib.hid (pth_bad hv)
    have HB := Lib.hid (show 0 = g.pth.1.length by rw [HE.out]; rfl)
    have g1 : (g.vE != 0) = true := bne_yes hv
    have g2 : (g.vE == 0) = false := beq_no hv
    clear hv
    go_wp2_with fail
    exact bodyPost_ret (v := .tuple #[.slice none 0 0, .int .i64 g.vE]) (by simp [results, Try.results22, go_sem]) rfl ⟨none, 0, 0, [], by rw [HE.out], HB.out, rfl, by rw [HE.out]; exact pths_none V1.out.below⟩
  have HV := Lib.hid hv
  have HO := Lib.hid (Gr.ok hv)
  rw [hv]
  clear hv
  go_wp2_with fail
  refine (rways_any g A n c _ (H.out.below V1.out.below) HO.out).mono ?_
  rintro e w2 ⟨gw, rfl, hp⟩
  have V2 := Lib.hid (V1.out.join hp)
  clear hp V1 r0 r1 r9
  have hn1 := HO.out.n1
  obtain ⟨N, hN⟩ : ∃ N, N = g.n.toNat := ⟨_, rfl⟩
  have hN1 : 1 ≤ N := by omega
  obtain ⟨x1, x2, x3⟩ := V2.out.lnum_at (i := 0) rfl (j := 0) (by rw [waysL_len, ← hN]; exact hN1)
  rw [waysL_getD (by rw [← hN]; exact hN1) 0] at x1
  have HNN := Lib.hid hN
  rw [← hN]
  clear hN hn1
  obtain ⟨x, hx⟩ : ∃ x, x = g.wy 0 := ⟨_, rfl⟩
  rw [show ((0 : Nat) : Int) = 0 from rfl, ← hx] at x1
  have HX := Lib.hid hx
  clear hx
  obtain ⟨r0, r1, r9⟩ := V2.out.gb (i := 1) rfl
  by_cases hm : 2000 < x
  · have HE := Lib.hid (pth_much HV.out (by rw [← HX.out]; exact hm))
    have HB := Lib.hid (show 0 = g.pth.1.length by rw [HE.out]; rfl)
    go_wp2_with fail
    exact bodyPost_ret (v := .tuple #[.slice none 0 0, .int .i64 3]) (by simp [results, Try.results22, go_sem]) rfl ⟨none, 0, 0, [], by rw [HE.out], HB.out, rfl, by rw [HE.out]; exact pths_none V2.out.below⟩
  have HE := Lib.hid (pth_ok HV.out (by rw [← HX.out]; exact hm))
  have HXL := Lib.hid (show x = min (((g.pv 0).length : Nat) : Int) 4611686018427387905 by
    have h1 := HO.out.n1
    have h2 := wy_len HO.out (q := 0) (Int.le_refl 0) (by omega)
    rw [← HX.out] at h2
    exact h2)
  by_cases h0 : x = 0
  · have e1 : (x == 0) = true := beq_yes h0
    have HNIL := Lib.hid (show g.pth = ([], 0) by
      rw [HE.out]
      have h3 := HXL.out
      rw [List.eq_nil_of_length_eq_zero (show (g.pv 0).length = 0 by omega)])
    have HB := Lib.hid (show 0 = g.pth.1.length by rw [HNIL.out]; rfl)
    clear h0
    go_wp2_with fail
    exact bodyPost_ret (v := .tuple #[.slice none 0 0, .int .i64 0]) (by simp [results, Try.results22, go_sem]) rfl ⟨none, 0, 0, [], by rw [HNIL.out], HB.out, rfl, by rw [HNIL.out]; exact pths_none V2.out.below⟩
  have e1 : (x == 0) = false := beq_no h0
  have HLEN := Lib.hid (show (g.pv 0).length ≤ 2000 by have h3 := HXL.out; omega)
  clear h0
  go_wp2_with fail
  refine (rfrom_any g A n c HO.out N HNN.out N _ 0 (some ⟨gw, 0, none⟩) N N (H.out.below V2.out.below) (V2.out.cells (i := 0) rfl rfl) rfl (by omega) hN1 HLEN.out).mono ?_
  rintro e w3 ⟨Q3, qn3, qc3, us3, rfl, hq3, hu3, hp3⟩
  have V3 := Lib.hid (V2.out.join hp3)
  have HQ := Lib.hid hq3
  have HU := Lib.hid hu3
  clear hp3 hq3 hu3 V2
  go_wp2_with fail
  refine bodyPost_ret (v := .tuple #[.slice Q3 qn3 qc3, .int .i64 0]) (by simp [results, Try.results22, go_sem]) rfl ⟨Q3, qn3, qc3, us3, by rw [HE.out], by rw [HE.out]; exact HQ.out, HU.out, ?_⟩
  rw [HE.out]
  exact V3.out.front
end Go.Proofs.Ytdoobdfanalnbaa
