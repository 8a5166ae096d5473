/- Contract of the program: how many paths there are. -/
import Derived.Test.YtdoobdfanalnbaaDCg
namespace Go.Proofs.Ytdoobdfanalnbaa
open Go.RowKit
set_option linter.unusedVariables false
set_option linter.unusedSimpArgs false
set_option maxRecDepth 100000

theorem cnt_bad {g : Gr} (h : ¬ g.vE = 0) : g.cnt = (0, g.vE) := if_pos h
theorem cnt_much {g : Gr} (h : g.vE = 0) (h2 : 4611686018427387904 < g.wy 0) : g.cnt = (0, 3) := by unfold Gr.cnt; rw [if_neg (by omega), if_pos h2]
theorem cnt_ok {g : Gr} (h : g.vE = 0) (h2 : ¬ 4611686018427387904 < g.wy 0) : g.cnt = (g.wy 0, 0) := by unfold Gr.cnt; rw [if_neg (by omega), if_neg h2]
theorem wy_bd {g : Gr} (h : g.Ok) : 0 ≤ g.wy 0 ∧ g.wy 0 ≤ 4611686018427387905 := wy_nonneg h (Int.le_refl 0) (by have := h.n1; omega)
set_option maxHeartbeats 16000000 in
theorem count_any (g : Gr) (A : Option Addr) (n c : Nat) (w : World) (h : GrIn w A n c g) :
    Calls Try.prog 48 #[gval g A n c] w fun e w' => e = .returned (.tuple #[.int .i64 g.cnt.1, .int .i64 g.cnt.2]) ∧ Below w.heap.size w w' := by
  have H := Lib.hid h
  clear h
  obtain ⟨wz, hwz⟩ : ∃ z, z = w.alloc (.cells #[.int .i64 g.n, .slice A n c] 24) := ⟨_, rfl⟩
  have HZ := Lib.hid hwz
  have V := Lib.hid (show Hp w [gbox w.heap.size g A n c] wz by rw [hwz]; exact (Hp.start w).gnew g A n c)
  clear hwz
  go_enter Try.func48, Try.ntmps48
  go_upto_region 1 with fail
  rw [← HZ.out]
  clear HZ
  obtain ⟨r0, r1, r9⟩ := V.out.gb (i := 0) rfl
  go_wp2_with fail
  refine (valid_any g A n c _ (H.out.below V.out.below)).mono ?_
  rintro e w1 ⟨rfl, b1⟩
  have V1 := Lib.hid (V.out.go b1)
  clear b1 r0 r1 r9 V
  obtain ⟨r0, r1, r9⟩ := V1.out.gb (i := 0) rfl
  by_cases hv : g.vE = 0
  case neg =>
    have HE := Lib.hid (cnt_bad hv)
    have g1 : (g.vE != 0) = true := bne_yes hv
    have g2 : (g.vE == 0) = false := beq_no hv
    clear hv
    go_wp2_with fail
    exact bodyPost_ret (v := .tuple #[.int .i64 0, .int .i64 g.vE]) (by simp [results, Try.results48, go_sem]) rfl ⟨by rw [HE.out], V1.out.below⟩
  have HV := Lib.hid hv
  have HO := Lib.hid (Gr.ok hv)
  rw [hv]
  clear hv
  go_wp2_with fail
  refine (waysOn_any g A n c _ (H.out.below V1.out.below) HO.out).mono ?_
  rintro e w2 ⟨gw, rfl, hp⟩
  have V2 := Lib.hid (V1.out.join hp)
  clear hp V1 r0 r1 r9
  have hn1 := HO.out.n1
  obtain ⟨N, hN⟩ : ∃ N, N = g.n.toNat := ⟨_, rfl⟩
  have hN1 : 1 ≤ N := by omega
  obtain ⟨x1, x2, x3⟩ := V2.out.unum_at (i := 0) rfl (j := 0) (by rw [waysL_len, ← hN]; exact hN1)
  rw [waysL_getD (by rw [← hN]; exact hN1) 0] at x1
  have HNN := Lib.hid hN
  rw [← hN]
  clear hN hn1
  obtain ⟨x, hx⟩ : ∃ x, x = g.wy 0 := ⟨_, rfl⟩
  have hb := wy_bd HO.out
  rw [show ((0 : Nat) : Int) = 0 from rfl, ← hx] at x1
  rw [← hx] at hb
  have HX := Lib.hid hx
  clear hx
  by_cases hm : 4611686018427387904 < x
  · have HE := Lib.hid (cnt_much HV.out (by rw [← HX.out]; exact hm))
    go_wp2_with fail
    exact bodyPost_ret (v := .tuple #[.int .i64 0, .int .i64 3]) (by simp [results, Try.results48, go_sem]) rfl ⟨by rw [HE.out], V2.out.below⟩
  · have HE := Lib.hid (cnt_ok HV.out (by rw [← HX.out]; exact hm))
    have hw : IntKind.i64.wrap x = x := IntWalk.i64_in _ (by omega)
    go_wp2_with fail
    exact bodyPost_ret (v := .tuple #[.int .i64 x, .int .i64 0]) (by simp [results, Try.results48, go_sem]) rfl ⟨by rw [HE.out, HX.out], V2.out.below⟩
end Go.Proofs.Ytdoobdfanalnbaa
