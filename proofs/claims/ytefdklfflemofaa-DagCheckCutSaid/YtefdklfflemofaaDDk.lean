/- The walk of DagCheckCut. -/
import Derived.Test.YtefdklfflemofaaDDj
import Derived.Test.YtefdklfflemofaaDDh
import Derived.Test.YtefdklfflemofaaDCq
namespace Go.Proofs.Ytefdklfflemofaa
open Go.RowKit
set_option linter.unusedVariables false
set_option linter.unusedSimpArgs false
set_option maxRecDepth 100000

theorem cut_zero {g : Gr} {l : List Int} (h : g.ccV l = true) : g.cnt = (0, 0) := by
  obtain ⟨h1, h2⟩ := cut_none h
  rw [cnt_ok h1 (by omega), h2]

set_option maxHeartbeats 32000000 in
theorem lawcheckcut_any (g : Gr) (A : Option Addr) (n c : Nat) (B : Option Addr) (m d : Nat) (p : List Int) (w : World) (h : GrIn w A n c g) (hp : p.length = m) (hm : m ≤ 17592186044416) (hB : CellsIn w B (ints p)) :
    Calls Try.prog 8 #[gval g A n c, .slice B m d] w fun e w' => e = .returned (.bool true) ∧ Below w.heap.size w w' := by
  have H := Lib.hid h
  clear h
  obtain ⟨wz, hwz⟩ : ∃ z, z = w.alloc (.cells #[.int .i64 g.n, .slice A n c] 24) := ⟨_, rfl⟩
  have HZ := Lib.hid hwz
  have V := Lib.hid (show Hp w [gbox w.heap.size g A n c] wz by rw [hwz]; exact (Hp.start w).gnew g A n c)
  clear hwz
  go_enter Try.func8, Try.ntmps8
  go_upto_region 1 with fail
  rw [← HZ.out]
  clear HZ
  go_wp2_with fail
  refine (awake_any _).mono ?_
  rintro e w1 ⟨rfl, b1⟩
  have V1 := Lib.hid (V.out.go b1)
  clear b1 V
  obtain ⟨r0, r1, r9⟩ := V1.out.gb (i := 0) rfl
  go_wp2_with fail
  refine (rfew_any g A n c _ (H.out.below V1.out.below)).mono ?_
  rintro e w2 ⟨rfl, b2⟩
  have V2 := Lib.hid (V1.out.go b2)
  clear b2 r0 r1 r9 V1
  by_cases hfew : g.fewB = true
  case neg =>
    rw [show g.fewB = false by cases e : g.fewB; rfl; exact absurd e hfew]
    clear hfew
    go_wp2_with fail
    refine (awake_any _).mono ?_
    rintro e w3 ⟨rfl, b3⟩
    have V3 := Lib.hid (V2.out.go b3)
    clear b3
    go_wp2_with fail
    go_ret
    exact ⟨rfl, V3.out.below⟩
  have HFEW := Lib.hid hfew
  rw [hfew]
  clear hfew
  have HP := Lib.hid hp
  have HB := Lib.hid hB
  clear hp hB
  by_cases hm60 : m ≤ 60
  case neg =>
    have h60 : 60 < m := by omega
    go_wp2_with fail
    refine (awake_any _).mono ?_
    rintro e w3 ⟨rfl, b3⟩
    have V3 := Lib.hid (V2.out.go b3)
    clear b3
    go_wp2_with fail
    go_ret
    exact ⟨rfl, V3.out.below⟩
  obtain ⟨r0, r1, r9⟩ := V2.out.gb (i := 0) rfl
  go_wp2_with fail
  refine (checkCut_any g A B n c m d p _ (H.out.below V2.out.below) HP.out hm (HB.out.below V2.out.below)).mono ?_
  rintro e w3 ⟨rfl, b⟩
  have V3 := Lib.hid (V2.out.go b)
  clear b r0 r1 r9 V2
  obtain ⟨r0, r1, r9⟩ := V3.out.gb (i := 0) rfl
  go_wp2_with fail
  refine (rcount_any g A n c _ (H.out.below V3.out.below)).mono ?_
  rintro e w4 ⟨rfl, b⟩
  have V4 := Lib.hid (V3.out.go b)
  clear b r0 r1 r9 V3
  obtain ⟨r0, r1, r9⟩ := V4.out.gb (i := 0) rfl
  go_wp2_with fail
  refine (rcheckCut_any g A B n c m d p _ (H.out.below V4.out.below) HP.out hm (HB.out.below V4.out.below)).mono ?_
  rintro e w5 ⟨rfl, b⟩
  have V5 := Lib.hid (V4.out.go b)
  clear b r0 r1 r9 V4
  obtain ⟨x, hx⟩ : ∃ x, x = g.ccV p := ⟨_, rfl⟩
  rw [← hx]
  cases x with
  | false =>
    clear hx
    go_wp2_with fail
    go_ret
    exact ⟨rfl, V5.out.below⟩
  | true =>
    have HC := Lib.hid (cut_zero hx.symm)
    clear hx
    rw [HC.out]
    go_wp2_with fail
    go_ret
    exact ⟨rfl, V5.out.below⟩
end Go.Proofs.Ytefdklfflemofaa
