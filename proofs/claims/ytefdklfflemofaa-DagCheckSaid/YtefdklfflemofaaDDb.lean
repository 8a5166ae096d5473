/- The walk of DagCheck. -/
import Derived.Test.YtefdklfflemofaaDCp
import Derived.Test.YtefdklfflemofaaDCd
import Derived.Test.YtefdklfflemofaaDCb
namespace Go.Proofs.Ytefdklfflemofaa
open Go.RowKit
set_option linter.unusedVariables false
set_option linter.unusedSimpArgs false
set_option maxRecDepth 100000

set_option maxHeartbeats 32000000 in
theorem lawcheck_any (g : Gr) (A : Option Addr) (n c : Nat) (B : Option Addr) (m d : Nat) (p : List Int) (w : World) (h : GrIn w A n c g) (hp : p.length = m) (hm : m ≤ 17592186044416) (hB : CellsIn w B (ints p)) :
    Calls Try.prog 4 #[gval g A n c, .slice B m d] w fun e w' => e = .returned (.bool true) ∧ Below w.heap.size w w' := by
  have H := Lib.hid h
  clear h
  obtain ⟨wz, hwz⟩ : ∃ z, z = w.alloc (.cells #[.int .i64 g.n, .slice A n c] 24) := ⟨_, rfl⟩
  have HZ := Lib.hid hwz
  have V := Lib.hid (show Hp w [gbox w.heap.size g A n c] wz by rw [hwz]; exact (Hp.start w).gnew g A n c)
  clear hwz
  go_enter Try.func4, Try.ntmps4
  go_upto_region 1 with fail
  rw [← HZ.out]
  clear HZ
  go_wp2_with fail
  refine (awake_any _).mono ?_
  rintro e w1 ⟨rfl, b1⟩
  have V1 := Lib.hid (V.out.go b1)
  clear b1 V
  obtain ⟨r0, r1, r9⟩ := V1.out.gb (i := 0) rfl
  go_wp2_with fail
  refine (rfew_any g A n c _ (H.out.below V1.out.below)).mono ?_
  rintro e w2 ⟨rfl, b2⟩
  have V2 := Lib.hid (V1.out.go b2)
  clear b2 r0 r1 r9 V1
  by_cases hfew : g.fewB = true
  case neg =>
    rw [show g.fewB = false by cases e : g.fewB; rfl; exact absurd e hfew]
    clear hfew
    go_wp2_with fail
    refine (awake_any _).mono ?_
    rintro e w3 ⟨rfl, b3⟩
    have V3 := Lib.hid (V2.out.go b3)
    clear b3
    go_wp2_with fail
    go_ret
    exact ⟨rfl, V3.out.below⟩
  have HFEW := Lib.hid hfew
  rw [hfew]
  clear hfew
  have HP := Lib.hid hp
  have HB := Lib.hid hB
  clear hp hB
  by_cases hm60 : m ≤ 60
  case neg =>
    have h60 : 60 < m := by omega
    go_wp2_with fail
    refine (awake_any _).mono ?_
    rintro e w3 ⟨rfl, b3⟩
    have V3 := Lib.hid (V2.out.go b3)
    clear b3
    go_wp2_with fail
    go_ret
    exact ⟨rfl, V3.out.below⟩
  obtain ⟨r0, r1, r9⟩ := V2.out.gb (i := 0) rfl
  go_wp2_with fail
  refine (cost_any g A n c B m d p _ (H.out.below V2.out.below) HP.out hm (HB.out.below V2.out.below)).mono ?_
  rintro e w3 ⟨rfl, b⟩
  have V3 := Lib.hid (V2.out.go b)
  clear b r0 r1 r9 V2
  obtain ⟨r0, r1, r9⟩ := V3.out.gb (i := 0) rfl
  go_wp2_with fail
  refine (rcost_any g A n c B m d p _ (H.out.below V3.out.below) HP.out hm (HB.out.below V3.out.below)).mono ?_
  rintro e w4 ⟨rfl, b⟩
  have V4 := Lib.hid (V3.out.go b)
  clear b r0 r1 r9 V3
  obtain ⟨x, hx⟩ : ∃ x, x = (g.cst p).1 := ⟨_, rfl⟩
  obtain ⟨y, hy⟩ : ∃ y, y = (g.cst p).2 := ⟨_, rfl⟩
  rw [← hx, ← hy]
  have e1 : (x == x) = true := beq_yes rfl
  have e2 : (y == y) = true := beq_yes rfl
  obtain ⟨z, hz⟩ : ∃ z, z = g.chk p := ⟨_, rfl⟩
  have e3 : (z == z) = true := by simp
  have HC := Lib.hid (show ∀ w', Below w.heap.size w w' → Calls Try.prog 21 #[gval g A n c, .slice B m d] w' fun e w2 => e = .returned (.bool z) ∧ Below w'.heap.size w' w2 from fun w' b => by rw [hz]; exact check_any g A n c B m d p w' (H.out.below b) HP.out hm (HB.out.below b))
  have HR := Lib.hid (show ∀ w', Below w.heap.size w w' → Calls Try.prog 22 #[gval g A n c, .slice B m d] w' fun e w2 => e = .returned (.bool z) ∧ Below w'.heap.size w' w2 from fun w' b => by rw [hz]; exact rcheck_any g A n c B m d p w' (H.out.below b) HP.out hm (HB.out.below b))
  clear hx hy hz
  go_upto_region 5 with fail
  have hKp : Keep [(⟨w.heap.size, 0, none⟩, .int .i64 g.n), (⟨w.heap.size, 1, none⟩, .slice A n c)] w4 := List.forall_mem_cons.2 ⟨⟨(V4.out.box_at (i := 0) (j := 0) rfl rfl).1, (V4.out.box_at (i := 0) (j := 0) rfl rfl).2.2⟩, List.forall_mem_cons.2 ⟨⟨(V4.out.box_at (i := 0) (j := 1) rfl rfl).1, (V4.out.box_at (i := 0) (j := 1) rfl rfl).2.2⟩, fun _ h => by simp at h⟩⟩
  refine wp_region_held_drew (S := Keep _) (by kernel_rfl) hKp.drew (fun hHeld => ?_)
  have V4d := Lib.hid (V4.out.go (bdrew _))
  refine tk 0 ?_ rfl ?_ ?_; rotate_left
  · intro wl hSw
    have hSw : Keep _ wl := hSw
    have k0 : wl.cell? ⟨w.heap.size, 0, none⟩ = some (.int .i64 g.n) := (hSw _ (.head _)).1
    have k1 : wl.cell? ⟨w.heap.size, 1, none⟩ = some (.slice A n c) := (hSw _ (.tail _ (.head _))).1
    clear hSw
    go_simp
    try (with_reducible rfl)
  try simp only [Act.put, sA, sZ, sS]
  refine tk 1 ?_ rfl ?_ ?_; rotate_left; focus (intro w hSw; clear hSw; go_simp; try (with_reducible rfl))
  try simp only [Act.put, sA, sZ, sS]
  refine tk 3 ?_ rfl ?_ ?_; rotate_left
  · intro wl hSw
    have hSw : Keep _ wl := hSw
    have k0 : wl.cell? ⟨w.heap.size, 0, none⟩ = some (.int .i64 g.n) := (hSw _ (.head _)).1
    have k1 : wl.cell? ⟨w.heap.size, 1, none⟩ = some (.slice A n c) := (hSw _ (.tail _ (.head _))).1
    clear hSw
    go_simp
    try (with_reducible rfl)
  try simp only [Act.put, sA, sZ, sS]
  refine tk 4 ?_ rfl ?_ ?_; rotate_left; focus (intro w hSw; clear hSw; go_simp; try (with_reducible rfl))
  try simp only [Act.put, sA, sZ, sS]
  refine wpAnyH_ready (rs := [2]) (by kernel_rfl) (by simp) ?_
  refine AllReadyH.cons (List.getElem?_toArray.trans rfl) (fun K hK => ?_) AllReadyH.nil
  go_simp
  refine (HC.out _ V4d.out.below).mono ?_
  rintro e w_2 ⟨rfl, b_2⟩
  try go_wp2_with fail
  have V_2 := Lib.hid (V4d.out.go b_2)
  refine hK.out _ _ (hHeld.go b_2) (fun hHeld => ?_)
  clear hK K
  try simp only [Act.put, sA, sZ, sS]
  refine wpAnyH_ready (rs := [5]) (by kernel_rfl) (by simp) ?_
  refine AllReadyH.cons (List.getElem?_toArray.trans rfl) (fun K hK => ?_) AllReadyH.nil
  go_simp
  refine (HR.out _ V_2.out.below).mono ?_
  rintro e w_2_5 ⟨rfl, b_2_5⟩
  try go_wp2_with fail
  have V_2_5 := Lib.hid (V_2.out.go b_2_5)
  refine hK.out _ _ (hHeld.go b_2_5) (fun hHeld => ?_)
  clear hK K
  try simp only [Act.put, sA, sZ, sS]
  refine tk 6 ?_ rfl ?_ ?_; rotate_left; focus (intro w hSw; clear hSw; go_simp; try (with_reducible rfl))
  try simp only [Act.put, sA, sZ, sS]
  refine tk 7 ?_ rfl ?_ ?_; rotate_left; focus (intro w hSw; clear hSw; go_simp; try (with_reducible rfl))
  try simp only [Act.put, sA, sZ, sS]
  refine tk 8 ?_ rfl ?_ ?_; rotate_left; focus (intro w hSw; clear hSw; go_simp; try (with_reducible rfl))
  try simp only [Act.put, sA, sZ, sS]
  refine tk 9 ?_ rfl ?_ ?_; rotate_left; focus (intro w hSw; clear hSw; go_simp; try (with_reducible rfl))
  try simp only [Act.put, sA, sZ, sS]
  refine tk 10 ?_ rfl ?_ ?_; rotate_left; focus (intro w hSw; clear hSw; go_simp; try (with_reducible rfl))
  try simp only [Act.put, sA, sZ, sS]
  refine tk 11 ?_ rfl ?_ ?_; rotate_left; focus (intro w hSw; clear hSw; go_simp; try (with_reducible rfl))
  try simp only [Act.put, sA, sZ, sS]
  refine tk 12 ?_ rfl ?_ ?_; rotate_left; focus (intro w hSw; clear hSw; go_simp; try (with_reducible rfl))
  try simp only [Act.put, sA, sZ, sS]
  refine tk 13 ?_ rfl ?_ ?_; rotate_left; focus (intro w hSw; clear hSw; go_simp; try (with_reducible rfl))
  try simp only [Act.put, sA, sZ, sS]
  refine tk 14 ?_ rfl ?_ ?_; rotate_left; focus (intro w hSw; clear hSw; go_simp; try (with_reducible rfl))
  try simp only [Act.put, sA, sZ, sS]
  refine tk 15 ?_ rfl ?_ ?_; rotate_left; focus (intro w hSw; clear hSw; go_simp; try (with_reducible rfl))
  try simp only [Act.put, sA, sZ, sS]
  refine tk 16 ?_ rfl ?_ ?_; rotate_left; focus (intro w hSw; clear hSw; go_simp; try (with_reducible rfl))
  try simp only [Act.put, sA, sZ, sS]
  refine tk 17 ?_ rfl ?_ ?_; rotate_left; focus (intro w hSw; clear hSw; go_simp; try (with_reducible rfl))
  try simp only [Act.put, sA, sZ, sS]
  refine wpAnyH_done (by kernel_rfl) ?_ _
  clear hKp hHeld
  go_wp2_with fail
  go_ret
  exact ⟨rfl, V_2_5.out.below⟩
end Go.Proofs.Ytefdklfflemofaa
