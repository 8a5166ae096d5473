/- The walk of DagCut. -/
import Derived.Test.YtefdklfflemofaaDDh
import Derived.Test.YtefdklfflemofaaDCq
namespace Go.Proofs.Ytefdklfflemofaa
open Go.RowKit
set_option linter.unusedVariables false
set_option linter.unusedSimpArgs false
set_option maxRecDepth 100000

theorem cut_len (g : Gr) : g.cutV.1.length ≤ 2000 := by
  unfold Gr.cutV
  split
  · exact Nat.zero_le _
  · rename_i hv
    have hO := Gr.ok (Classical.not_not.1 hv)
    split
    · exact Nat.zero_le _
    · have h1 := memL_len g.rc
      rw [rc_len] at h1
      have h2 := hO.n2
      show (memL g.rc).length ≤ 2000
      omega
theorem cut_chk {g : Gr} (h : g.cutV.2 = 0) : g.ccV g.cutV.1 = true := by
  unfold Gr.cutV at h ⊢
  split
  · rename_i hv; rw [if_pos hv] at h; exact absurd h hv
  · rename_i hv
    rw [if_neg hv] at h
    split
    · rename_i hm; rw [if_pos hm] at h; cases h
    · rename_i hm
      exact cut_ok (Classical.not_not.1 hv) (by simpa using hm)
theorem cut_cnt {g : Gr} (h : g.cnt.2 = 0) : 0 < g.cnt.1 ↔ g.cutV.2 = 11 := by
  by_cases hv : g.vE = 0
  · have hO := Gr.ok hv
    by_cases hm : 4611686018427387904 < g.wy 0
    · rw [cnt_much hv hm] at h; cases h
    · rw [cnt_ok hv hm]
      show 0 < g.wy 0 ↔ _
      rw [← some_wy hO]
      unfold Gr.cutV
      rw [if_neg (by omega)]
      split
      · rename_i h2; exact ⟨fun _ => rfl, fun _ => h2⟩
      · rename_i h2; exact ⟨fun h => absurd h h2, fun h => by cases h⟩
  · rw [cnt_bad hv] at h; exact absurd h hv

set_option maxHeartbeats 32000000 in
theorem lawcut_any (g : Gr) (A : Option Addr) (n c : Nat) (w : World) (h : GrIn w A n c g) :
    Calls Try.prog 7 #[gval g A n c] w fun e w' => e = .returned (.bool true) ∧ Below w.heap.size w w' := by
  have H := Lib.hid h
  clear h
  obtain ⟨wz, hwz⟩ : ∃ z, z = w.alloc (.cells #[.int .i64 g.n, .slice A n c] 24) := ⟨_, rfl⟩
  have HZ := Lib.hid hwz
  have V := Lib.hid (show Hp w [gbox w.heap.size g A n c] wz by rw [hwz]; exact (Hp.start w).gnew g A n c)
  clear hwz
  go_enter Try.func7, Try.ntmps7
  go_upto_region 1 with fail
  rw [← HZ.out]
  clear HZ
  go_wp2_with fail
  refine (awake_any _).mono ?_
  rintro e w1 ⟨rfl, b1⟩
  have V1 := Lib.hid (V.out.go b1)
  clear b1 V
  obtain ⟨r0, r1, r9⟩ := V1.out.gb (i := 0) rfl
  go_wp2_with fail
  refine (rfew_any g A n c _ (H.out.below V1.out.below)).mono ?_
  rintro e w2 ⟨rfl, b2⟩
  have V2 := Lib.hid (V1.out.go b2)
  clear b2 r0 r1 r9 V1
  by_cases hfew : g.fewB = true
  case neg =>
    rw [show g.fewB = false by cases e : g.fewB; rfl; exact absurd e hfew]
    clear hfew
    go_wp2_with fail
    refine (awake_any _).mono ?_
    rintro e w3 ⟨rfl, b3⟩
    have V3 := Lib.hid (V2.out.go b3)
    clear b3
    go_wp2_with fail
    go_ret
    exact ⟨rfl, V3.out.below⟩
  have HFEW := Lib.hid hfew
  rw [hfew]
  clear hfew
  obtain ⟨r0, r1, r9⟩ := V2.out.gb (i := 0) rfl
  go_wp2_with fail
  refine (cut_any g A n c _ (H.out.below V2.out.below)).mono ?_
  rintro e w3 ⟨P, pn, pc, rfl, hpn, hp3⟩
  have C3 := Lib.hid (show CellsIn w3 P (ints g.cutV.1) from hp3.cells (i := 0) rfl rfl)
  have V3 := Lib.hid (V2.out.go hp3.below)
  have HPN := Lib.hid hpn
  have hpb : pn ≤ 2000 := by rw [← hpn]; exact cut_len g
  clear hp3 hpn r0 r1 r9 V2
  obtain ⟨r0, r1, r9⟩ := V3.out.gb (i := 0) rfl
  go_wp2_with fail
  refine (rcut_any g A n c _ (H.out.below V3.out.below)).mono ?_
  rintro e w4 ⟨Q, qn, qc, rfl, hqn, hp4⟩
  have C4 := Lib.hid (show CellsIn w4 Q (ints g.cutV.1) from hp4.cells (i := 0) rfl rfl)
  have C4' := Lib.hid (C3.out.below hp4.below)
  have V4 := Lib.hid (V3.out.go hp4.below)
  have HQN := Lib.hid hqn
  have hqb : qn ≤ 2000 := by rw [← hqn]; exact cut_len g
  clear hp4 hqn r0 r1 r9 V3 C3
  obtain ⟨l, hl⟩ : ∃ l, l = g.cutV.1 := ⟨_, rfl⟩
  rw [← hl] at C4 C4' HPN HQN
  obtain ⟨y, hy⟩ : ∃ y, y = g.cutV.2 := ⟨_, rfl⟩
  rw [← hy]
  have HCH := Lib.hid (show y = 0 → g.ccV l = true from fun h => by rw [hl]; exact cut_chk (by rw [← hy]; exact h))
  have HCC := Lib.hid (show g.cnt.2 = 0 → (0 < g.cnt.1 ↔ y = 11) from fun h => by rw [hy]; exact cut_cnt h)
  clear hl hy
  have e1 : (y == y) = true := beq_yes rfl
  have e2 : (y != y) = false := bne_no rfl
  go_wp2_with fail
  refine (equal_nums P Q pn pc qn qc l l _ HPN.out HQN.out (by omega) (by omega) C4'.out C4.out).mono ?_
  rintro e w5 ⟨rfl, b5⟩
  rw [decide_eq_true rfl]
  have V5 := Lib.hid (V4.out.go b5)
  have C5 := Lib.hid (C4'.out.below b5)
  clear b5 V4 C4 C4' e1 e2
  obtain ⟨r0, r1, r9⟩ := V5.out.gb (i := 0) rfl
  go_wp2_with fail
  refine (rcount_any g A n c _ (H.out.below V5.out.below)).mono ?_
  rintro e w6 ⟨rfl, b6⟩
  have V6 := Lib.hid (V5.out.go b6)
  have C6 := Lib.hid (C5.out.below b6)
  clear b6 r0 r1 r9 V5 C5
  obtain ⟨x, hx⟩ : ∃ x, x = g.cnt.1 := ⟨_, rfl⟩
  obtain ⟨z, hz⟩ : ∃ z, z = g.cnt.2 := ⟨_, rfl⟩
  rw [← hx, ← hz] at HCC ⊢
  clear hx hz
  obtain ⟨r0, r1, r9⟩ := V6.out.gb (i := 0) rfl
  by_cases hz : z = 0
  case neg =>
    have e3 : (z == 0) = false := beq_no hz
    clear hz
    by_cases hy0 : y = 0
    case pos =>
      have HY := Lib.hid (HCH.out hy0)
      have e5 : (y != 0) = false := bne_no hy0
      clear hy0
      go_wp2_with fail
      refine (checkCut_any g A P n c pn pc l _ (H.out.below V6.out.below) HPN.out (by omega) C6.out).mono ?_
      rintro e w7 ⟨rfl, b7⟩
      rw [HY.out]
      have V7 := Lib.hid (V6.out.go b7)
      clear b7
      go_wp2_with fail
      go_ret
      exact ⟨rfl, V7.out.below⟩
    case neg =>
      have e5 : (y != 0) = true := bne_yes hy0
      clear hy0
      go_wp2_with fail
      go_ret
      exact ⟨rfl, V6.out.below⟩
  have e3 : (z == 0) = true := beq_yes hz
  have hiff := HCC.out hz
  clear hz HCC
  by_cases hy11 : y = 11
  case pos =>
    have hx0 : 0 < x := hiff.2 hy11
    have e4 : (y == 11) = true := beq_yes hy11
    have hy0 : ¬ y = 0 := by omega
    clear hiff hy11
    have e5 : (y != 0) = true := bne_yes hy0
    clear hy0
    go_wp2_with fail
    go_ret
    exact ⟨rfl, V6.out.below⟩
  have hx0 : ¬ 0 < x := fun h => hy11 (hiff.1 h)
  have e4 : (y == 11) = false := beq_no hy11
  clear hiff hy11
  by_cases hy0 : y = 0
  case pos =>
    have HY := Lib.hid (HCH.out hy0)
    have e5 : (y != 0) = false := bne_no hy0
    clear hy0
    go_wp2_with fail
    refine (checkCut_any g A P n c pn pc l _ (H.out.below V6.out.below) HPN.out (by omega) C6.out).mono ?_
    rintro e w7 ⟨rfl, b7⟩
    rw [HY.out]
    have V7 := Lib.hid (V6.out.go b7)
    clear b7
    go_wp2_with fail
    go_ret
    exact ⟨rfl, V7.out.below⟩
  case neg =>
    have e5 : (y != 0) = true := bne_yes hy0
    clear hy0
    go_wp2_with fail
    go_ret
    exact ⟨rfl, V6.out.below⟩
end Go.Proofs.Ytefdklfflemofaa
