/- What the statement about valid automata, and where words lead, answers: true, whatever the input. -/
import Derived.Test.YtjobhpekclomfaaQz
import Derived.Test.YtjobhpekclomfaaQo
import Derived.Test.YtjobhpekclomfaaQw
namespace Go.Proofs.Ytjobhpekclomfaa
open Go.RowKit
set_option linter.unusedVariables false
set_option linter.unusedSimpArgs false
set_option maxRecDepth 100000

set_option maxHeartbeats 16000000 in
theorem lawruns_any (x : DV) (M : Au) (Aw : Option Addr) (n c : Nat) (L : List Int) (W : World) (h : DfaIn W x M) (hL : L.length = n) (hn : n ≤ 17592186044416) (hc : CellsIn W Aw (ints L)) :
    Calls Try.prog 3 #[dval x M, .slice Aw n c] W fun e w' => e = .returned (.bool true) ∧ Below W.heap.size W w' := by
  have H := Lib.hid h
  have HL := Lib.hid hL
  have HC := Lib.hid hc
  clear h hL hc
  by_cases hf : M.fewB = true
  case neg =>
    have HF := Lib.hid (show M.fewB = false by cases e : M.fewB; rfl; exact absurd e hf)
    clear hf
    obtain ⟨wz, hwz⟩ : ∃ z, z = (W.alloc (.cells #[.int .i64 M.lt, .int .i64 M.st, .slice x.A x.n x.c, .slice x.B x.m x.d] 25)) := ⟨_, rfl⟩
    have V := Lib.hid (show Hp W [box 25 W.heap.size [.int .i64 M.lt, .int .i64 M.st, .slice x.A x.n x.c, .slice x.B x.m x.d]] wz by
      have := ((Hp.start W).box_new 25 [.int .i64 M.lt, .int .i64 M.st, .slice x.A x.n x.c, .slice x.B x.m x.d])
      rw [hwz]; simpa using this)
    have HZ := Lib.hid hwz
    clear hwz
    go_enter Try.func3, Try.ntmps3
    go_upto_region 1 with fail
    rw [← HZ.out]
    clear HZ
    go_wp2_with fail
    refine (awake_any wz).mono ?_
    rintro e w1 ⟨rfl, b1⟩
    have V1 := Lib.hid (V.out.go b1)
    clear b1 V
    obtain ⟨r0, _, r9⟩ := V1.out.box_at (i := 0) (j := 0) rfl rfl
    obtain ⟨r1, _, _⟩ := V1.out.box_at (i := 0) (j := 1) rfl rfl
    obtain ⟨r2, _, _⟩ := V1.out.box_at (i := 0) (j := 2) rfl rfl
    obtain ⟨r3, _, _⟩ := V1.out.box_at (i := 0) (j := 3) rfl rfl
    go_wp2_with fail
    refine (few_any x M w1 (H.out.below V1.out.below)).mono ?_
    rintro e w2 ⟨rfl, b2⟩
    rw [HF.out]
    have V2 := Lib.hid (V1.out.go b2)
    clear b2 V1 r9 r0 r1 r2 r3
    go_wp2_with fail
    refine (awake_any w2).mono ?_
    rintro e w3 ⟨rfl, b3⟩
    have V3 := Lib.hid (V2.out.go b3)
    go_wp2_with fail
    go_ret
    exact ⟨rfl, V3.out.below⟩
  have HF := Lib.hid hf
  clear hf
  by_cases hbig : 100 < n
  · obtain ⟨wz, hwz⟩ : ∃ z, z = (W.alloc (.cells #[.int .i64 M.lt, .int .i64 M.st, .slice x.A x.n x.c, .slice x.B x.m x.d] 25)) := ⟨_, rfl⟩
    have V := Lib.hid (show Hp W [box 25 W.heap.size [.int .i64 M.lt, .int .i64 M.st, .slice x.A x.n x.c, .slice x.B x.m x.d]] wz by
      have := ((Hp.start W).box_new 25 [.int .i64 M.lt, .int .i64 M.st, .slice x.A x.n x.c, .slice x.B x.m x.d])
      rw [hwz]; simpa using this)
    have HZ := Lib.hid hwz
    clear hwz
    go_enter Try.func3, Try.ntmps3
    go_upto_region 1 with fail
    rw [← HZ.out]
    clear HZ
    go_wp2_with fail
    refine (awake_any wz).mono ?_
    rintro e w1 ⟨rfl, b1⟩
    have V1 := Lib.hid (V.out.go b1)
    clear b1 V
    obtain ⟨r0, _, r9⟩ := V1.out.box_at (i := 0) (j := 0) rfl rfl
    obtain ⟨r1, _, _⟩ := V1.out.box_at (i := 0) (j := 1) rfl rfl
    obtain ⟨r2, _, _⟩ := V1.out.box_at (i := 0) (j := 2) rfl rfl
    obtain ⟨r3, _, _⟩ := V1.out.box_at (i := 0) (j := 3) rfl rfl
    go_wp2_with fail
    refine (few_any x M w1 (H.out.below V1.out.below)).mono ?_
    rintro e w2 ⟨rfl, b2⟩
    rw [HF.out]
    have V2 := Lib.hid (V1.out.go b2)
    clear b2 V1 r9 r0 r1 r2 r3
    go_wp2_with fail
    refine (awake_any w2).mono ?_
    rintro e w3 ⟨rfl, b3⟩
    have V3 := Lib.hid (V2.out.go b3)
    go_wp2_with fail
    go_ret
    exact ⟨rfl, V3.out.below⟩
  obtain ⟨wz, hwz⟩ : ∃ z, z = (W.alloc (.cells #[.int .i64 M.lt, .int .i64 M.st, .slice x.A x.n x.c, .slice x.B x.m x.d] 25)) := ⟨_, rfl⟩
  have V := Lib.hid (show Hp W [box 25 W.heap.size [.int .i64 M.lt, .int .i64 M.st, .slice x.A x.n x.c, .slice x.B x.m x.d]] wz by
    have := ((Hp.start W).box_new 25 [.int .i64 M.lt, .int .i64 M.st, .slice x.A x.n x.c, .slice x.B x.m x.d])
    rw [hwz]; simpa using this)
  have HZ := Lib.hid hwz
  clear hwz
  go_enter Try.func3, Try.ntmps3
  go_upto_region 1 with fail
  rw [← HZ.out]
  clear HZ
  go_wp2_with fail
  refine (awake_any wz).mono ?_
  rintro e w1 ⟨rfl, b1⟩
  have V1 := Lib.hid (V.out.go b1)
  clear b1 V
  obtain ⟨r0, _, r9⟩ := V1.out.box_at (i := 0) (j := 0) rfl rfl
  obtain ⟨r1, _, _⟩ := V1.out.box_at (i := 0) (j := 1) rfl rfl
  obtain ⟨r2, _, _⟩ := V1.out.box_at (i := 0) (j := 2) rfl rfl
  obtain ⟨r3, _, _⟩ := V1.out.box_at (i := 0) (j := 3) rfl rfl
  go_wp2_with fail
  refine (few_any x M w1 (H.out.below V1.out.below)).mono ?_
  rintro e w2 ⟨rfl, b2⟩
  rw [HF.out]
  have V2 := Lib.hid (V1.out.go b2)
  clear b2 V1 r9 r0 r1 r2 r3
  have hn1 : n ≤ 100 := by omega
  clear hbig
  go_upto_region 3 with fail
  have hKp : Keep [(⟨W.heap.size, 0, none⟩, .int .i64 M.lt), (⟨W.heap.size, 1, none⟩, .int .i64 M.st), (⟨W.heap.size, 2, none⟩, .slice x.A x.n x.c), (⟨W.heap.size, 3, none⟩, .slice x.B x.m x.d)] w2 := List.forall_mem_cons.2 ⟨⟨(V2.out.box_at (i := 0) (j := 0) rfl rfl).1, (V2.out.box_at (i := 0) (j := 0) rfl rfl).2.2⟩, List.forall_mem_cons.2 ⟨⟨(V2.out.box_at (i := 0) (j := 1) rfl rfl).1, (V2.out.box_at (i := 0) (j := 1) rfl rfl).2.2⟩, List.forall_mem_cons.2 ⟨⟨(V2.out.box_at (i := 0) (j := 2) rfl rfl).1, (V2.out.box_at (i := 0) (j := 2) rfl rfl).2.2⟩, List.forall_mem_cons.2 ⟨⟨(V2.out.box_at (i := 0) (j := 3) rfl rfl).1, (V2.out.box_at (i := 0) (j := 3) rfl rfl).2.2⟩, fun _ h => by simp at h⟩⟩⟩⟩
  refine wp_region_held_drew (S := Keep _) (by kernel_rfl) hKp.drew (fun hHeld => ?_)
  have V2d := Lib.hid (V2.out.go (bdrew _))
  refine tk 0 ?_ rfl ?_ ?_; rotate_left
  · intro wl hSw
    have hSw : Keep _ wl := hSw
    have k0 : wl.cell? ⟨W.heap.size, 0, none⟩ = some (.int .i64 M.lt) := (hSw _ (.head _)).1
    have k1 : wl.cell? ⟨W.heap.size, 1, none⟩ = some (.int .i64 M.st) := (hSw _ (.tail _ (.head _))).1
    have k2 : wl.cell? ⟨W.heap.size, 2, none⟩ = some (.slice x.A x.n x.c) := (hSw _ (.tail _ (.tail _ (.head _)))).1
    have k3 : wl.cell? ⟨W.heap.size, 3, none⟩ = some (.slice x.B x.m x.d) := (hSw _ (.tail _ (.tail _ (.tail _ (.head _))))).1
    clear hSw
    go_simp
    try (with_reducible rfl)
  try simp only [Act.put, sA, sZ, sS]
  refine tk 3 ?_ rfl ?_ ?_; rotate_left
  · intro wl hSw
    have hSw : Keep _ wl := hSw
    have k0 : wl.cell? ⟨W.heap.size, 0, none⟩ = some (.int .i64 M.lt) := (hSw _ (.head _)).1
    have k1 : wl.cell? ⟨W.heap.size, 1, none⟩ = some (.int .i64 M.st) := (hSw _ (.tail _ (.head _))).1
    have k2 : wl.cell? ⟨W.heap.size, 2, none⟩ = some (.slice x.A x.n x.c) := (hSw _ (.tail _ (.tail _ (.head _)))).1
    have k3 : wl.cell? ⟨W.heap.size, 3, none⟩ = some (.slice x.B x.m x.d) := (hSw _ (.tail _ (.tail _ (.tail _ (.head _))))).1
    clear hSw
    go_simp
    try (with_reducible rfl)
  try simp only [Act.put, sA, sZ, sS]
  refine wpAnyH_ready (rs := [1]) (by kernel_rfl) (by simp) ?_
  refine AllReadyH.cons (List.getElem?_toArray.trans rfl) (fun K hK => ?_) AllReadyH.nil
  go_simp
  refine (copied_any x M _ (H.out.below V2d.out.below) HF.out).mono ?_
  rintro e w_1 ⟨ya, rfl, hya, b_1⟩
  try go_wp2_with fail
  have Dya := Lib.hid hya
  clear hya
  have V_1 := Lib.hid (V2d.out.go b_1)
  refine hK.out _ _ (hHeld.go b_1) (fun hHeld => ?_)
  clear hK K
  try simp only [Act.put, sA, sZ, sS]
  refine wpAnyH_ready (rs := [2]) (by kernel_rfl) (by simp) ?_
  refine AllReadyH.cons (List.getElem?_toArray.trans rfl) (fun K hK => ?_) AllReadyH.nil
  go_simp
  refine (valid_any ya M _ Dya.out).mono ?_
  rintro e w_1_2 ⟨rfl, b_1_2⟩
  try go_wp2_with fail
  have V_1_2 := Lib.hid (V_1.out.go b_1_2)
  refine hK.out _ _ (hHeld.go b_1_2) (fun hHeld => ?_)
  clear hK K
  try simp only [Act.put, sA, sZ, sS]
  refine wpAnyH_ready (rs := [4]) (by kernel_rfl) (by simp) ?_
  refine AllReadyH.cons (List.getElem?_toArray.trans rfl) (fun K hK => ?_) AllReadyH.nil
  go_simp
  refine (rvalid_any x M _ (H.out.below V_1_2.out.below)).mono ?_
  rintro e w_1_2_4 ⟨rfl, b_1_2_4⟩
  try go_wp2_with fail
  have V_1_2_4 := Lib.hid (V_1_2.out.go b_1_2_4)
  refine hK.out _ _ (hHeld.go b_1_2_4) (fun hHeld => ?_)
  clear hK K
  try simp only [Act.put, sA, sZ, sS]
  refine tk 5 ?_ rfl ?_ ?_; rotate_left; focus (intro w hSw; clear hSw; go_simp; try (with_reducible rfl))
  try simp only [Act.put, sA, sZ, sS]
  refine tk 6 ?_ rfl ?_ ?_; rotate_left; focus (intro w hSw; clear hSw; go_simp; try (with_reducible rfl))
  try simp only [Act.put, sA, sZ, sS]
  refine tk 7 ?_ rfl ?_ ?_; rotate_left
  · intro wl hSw
    have hSw : Keep _ wl := hSw
    have k0 : wl.cell? ⟨W.heap.size, 0, none⟩ = some (.int .i64 M.lt) := (hSw _ (.head _)).1
    have k1 : wl.cell? ⟨W.heap.size, 1, none⟩ = some (.int .i64 M.st) := (hSw _ (.tail _ (.head _))).1
    have k2 : wl.cell? ⟨W.heap.size, 2, none⟩ = some (.slice x.A x.n x.c) := (hSw _ (.tail _ (.tail _ (.head _)))).1
    have k3 : wl.cell? ⟨W.heap.size, 3, none⟩ = some (.slice x.B x.m x.d) := (hSw _ (.tail _ (.tail _ (.tail _ (.head _))))).1
    clear hSw
    go_simp
    try (with_reducible rfl)
  try simp only [Act.put, sA, sZ, sS]
  refine tk 9 ?_ rfl ?_ ?_; rotate_left; focus (intro w hSw; clear hSw; go_simp; try (with_reducible rfl))
  try simp only [Act.put, sA, sZ, sS]
  refine tk 12 ?_ rfl ?_ ?_; rotate_left
  · intro wl hSw
    have hSw : Keep _ wl := hSw
    have k0 : wl.cell? ⟨W.heap.size, 0, none⟩ = some (.int .i64 M.lt) := (hSw _ (.head _)).1
    have k1 : wl.cell? ⟨W.heap.size, 1, none⟩ = some (.int .i64 M.st) := (hSw _ (.tail _ (.head _))).1
    have k2 : wl.cell? ⟨W.heap.size, 2, none⟩ = some (.slice x.A x.n x.c) := (hSw _ (.tail _ (.tail _ (.head _)))).1
    have k3 : wl.cell? ⟨W.heap.size, 3, none⟩ = some (.slice x.B x.m x.d) := (hSw _ (.tail _ (.tail _ (.tail _ (.head _))))).1
    clear hSw
    go_simp
    try (with_reducible rfl)
  try simp only [Act.put, sA, sZ, sS]
  refine tk 13 ?_ rfl ?_ ?_; rotate_left; focus (intro w hSw; clear hSw; go_simp; try (with_reducible rfl))
  try simp only [Act.put, sA, sZ, sS]
  refine wpAnyH_ready (rs := [8]) (by kernel_rfl) (by simp) ?_
  refine AllReadyH.cons (List.getElem?_toArray.trans rfl) (fun K hK => ?_) AllReadyH.nil
  go_simp
  refine (copied_any x M _ (H.out.below V_1_2_4.out.below) HF.out).mono ?_
  rintro e w_1_2_4_8 ⟨yb, rfl, hyb, b_1_2_4_8⟩
  try go_wp2_with fail
  have Dyb := Lib.hid hyb
  clear hyb
  have V_1_2_4_8 := Lib.hid (V_1_2_4.out.go b_1_2_4_8)
  refine hK.out _ _ (hHeld.go b_1_2_4_8) (fun hHeld => ?_)
  clear hK K
  try simp only [Act.put, sA, sZ, sS]
  refine wpAnyH_ready (rs := [10]) (by kernel_rfl) (by simp) ?_
  refine AllReadyH.cons (List.getElem?_toArray.trans rfl) (fun K hK => ?_) AllReadyH.nil
  go_simp
  refine (clone_nums L Aw n c W _ _ V_1_2_4_8.out HL.out (by omega) (HC.out.below V_1_2_4_8.out.below)).mono ?_
  rintro e w_1_2_4_8_10 ⟨C_1_2_4_8_10, d_1_2_4_8_10, rfl, hv_1_2_4_8_10, b_1_2_4_8_10⟩
  try go_wp2_with fail
  have V_1_2_4_8_10 := Lib.hid hv_1_2_4_8_10
  have CC_1_2_4_8_10 := Lib.hid (hv_1_2_4_8_10.cells (i := 0) (A := C_1_2_4_8_10) (c := d_1_2_4_8_10) rfl rfl)
  refine hK.out _ _ (hHeld.go b_1_2_4_8_10) (fun hHeld => ?_)
  clear hK K
  try simp only [Act.put, sA, sZ, sS]
  refine wpAnyH_ready (rs := [11]) (by kernel_rfl) (by simp) ?_
  refine AllReadyH.cons (List.getElem?_toArray.trans rfl) (fun K hK => ?_) AllReadyH.nil
  go_simp
  refine (run_any yb M C_1_2_4_8_10 n d_1_2_4_8_10 L _ (Dyb.out.below b_1_2_4_8_10) HL.out (by omega) CC_1_2_4_8_10.out).mono ?_
  rintro e w_1_2_4_8_10_11 ⟨rfl, b_1_2_4_8_10_11⟩
  try go_wp2_with fail
  have V_1_2_4_8_10_11 := Lib.hid (V_1_2_4_8_10.out.go b_1_2_4_8_10_11)
  refine hK.out _ _ (hHeld.go b_1_2_4_8_10_11) (fun hHeld => ?_)
  clear hK K
  try simp only [Act.put, sA, sZ, sS]
  refine wpAnyH_ready (rs := [14]) (by kernel_rfl) (by simp) ?_
  refine AllReadyH.cons (List.getElem?_toArray.trans rfl) (fun K hK => ?_) AllReadyH.nil
  go_simp
  refine (rrun_any x M Aw n c L _ (H.out.below V_1_2_4_8_10_11.out.below) HL.out (by omega) (HC.out.below V_1_2_4_8_10_11.out.below)).mono ?_
  rintro e w_1_2_4_8_10_11_14 ⟨rfl, b_1_2_4_8_10_11_14⟩
  try go_wp2_with fail
  have V_1_2_4_8_10_11_14 := Lib.hid (V_1_2_4_8_10_11.out.go b_1_2_4_8_10_11_14)
  refine hK.out _ _ (hHeld.go b_1_2_4_8_10_11_14) (fun hHeld => ?_)
  clear hK K
  try simp only [Act.put, sA, sZ, sS]
  refine tk 15 ?_ rfl ?_ ?_; rotate_left; focus (intro w hSw; clear hSw; go_simp; try (with_reducible rfl))
  try simp only [Act.put, sA, sZ, sS]
  refine tk 16 ?_ rfl ?_ ?_; rotate_left; focus (intro w hSw; clear hSw; go_simp; try (with_reducible rfl))
  try simp only [Act.put, sA, sZ, sS]
  refine tk 17 ?_ rfl ?_ ?_; rotate_left; focus (intro w hSw; clear hSw; go_simp; try (with_reducible rfl))
  try simp only [Act.put, sA, sZ, sS]
  refine tk 18 ?_ rfl ?_ ?_; rotate_left
  · intro wl hSw
    have hSw : Keep _ wl := hSw
    have k0 : wl.cell? ⟨W.heap.size, 0, none⟩ = some (.int .i64 M.lt) := (hSw _ (.head _)).1
    have k1 : wl.cell? ⟨W.heap.size, 1, none⟩ = some (.int .i64 M.st) := (hSw _ (.tail _ (.head _))).1
    have k2 : wl.cell? ⟨W.heap.size, 2, none⟩ = some (.slice x.A x.n x.c) := (hSw _ (.tail _ (.tail _ (.head _)))).1
    have k3 : wl.cell? ⟨W.heap.size, 3, none⟩ = some (.slice x.B x.m x.d) := (hSw _ (.tail _ (.tail _ (.tail _ (.head _))))).1
    clear hSw
    go_simp
    try (with_reducible rfl)
  try simp only [Act.put, sA, sZ, sS]
  refine tk 20 ?_ rfl ?_ ?_; rotate_left; focus (intro w hSw; clear hSw; go_simp; try (with_reducible rfl))
  try simp only [Act.put, sA, sZ, sS]
  refine tk 23 ?_ rfl ?_ ?_; rotate_left
  · intro wl hSw
    have hSw : Keep _ wl := hSw
    have k0 : wl.cell? ⟨W.heap.size, 0, none⟩ = some (.int .i64 M.lt) := (hSw _ (.head _)).1
    have k1 : wl.cell? ⟨W.heap.size, 1, none⟩ = some (.int .i64 M.st) := (hSw _ (.tail _ (.head _))).1
    have k2 : wl.cell? ⟨W.heap.size, 2, none⟩ = some (.slice x.A x.n x.c) := (hSw _ (.tail _ (.tail _ (.head _)))).1
    have k3 : wl.cell? ⟨W.heap.size, 3, none⟩ = some (.slice x.B x.m x.d) := (hSw _ (.tail _ (.tail _ (.tail _ (.head _))))).1
    clear hSw
    go_simp
    try (with_reducible rfl)
  try simp only [Act.put, sA, sZ, sS]
  refine tk 24 ?_ rfl ?_ ?_; rotate_left; focus (intro w hSw; clear hSw; go_simp; try (with_reducible rfl))
  try simp only [Act.put, sA, sZ, sS]
  refine wpAnyH_ready (rs := [19]) (by kernel_rfl) (by simp) ?_
  refine AllReadyH.cons (List.getElem?_toArray.trans rfl) (fun K hK => ?_) AllReadyH.nil
  go_simp
  refine (copied_any x M _ (H.out.below V_1_2_4_8_10_11_14.out.below) HF.out).mono ?_
  rintro e w_1_2_4_8_10_11_14_19 ⟨yc, rfl, hyc, b_1_2_4_8_10_11_14_19⟩
  try go_wp2_with fail
  have Dyc := Lib.hid hyc
  clear hyc
  have V_1_2_4_8_10_11_14_19 := Lib.hid (V_1_2_4_8_10_11_14.out.go b_1_2_4_8_10_11_14_19)
  refine hK.out _ _ (hHeld.go b_1_2_4_8_10_11_14_19) (fun hHeld => ?_)
  clear hK K
  try simp only [Act.put, sA, sZ, sS]
  refine wpAnyH_ready (rs := [21]) (by kernel_rfl) (by simp) ?_
  refine AllReadyH.cons (List.getElem?_toArray.trans rfl) (fun K hK => ?_) AllReadyH.nil
  go_simp
  refine (clone_nums L Aw n c W _ _ V_1_2_4_8_10_11_14_19.out HL.out (by omega) (HC.out.below V_1_2_4_8_10_11_14_19.out.below)).mono ?_
  rintro e w_1_2_4_8_10_11_14_19_21 ⟨C_1_2_4_8_10_11_14_19_21, d_1_2_4_8_10_11_14_19_21, rfl, hv_1_2_4_8_10_11_14_19_21, b_1_2_4_8_10_11_14_19_21⟩
  try go_wp2_with fail
  have V_1_2_4_8_10_11_14_19_21 := Lib.hid hv_1_2_4_8_10_11_14_19_21
  have CC_1_2_4_8_10_11_14_19_21 := Lib.hid (hv_1_2_4_8_10_11_14_19_21.cells (i := 0) (A := C_1_2_4_8_10_11_14_19_21) (c := d_1_2_4_8_10_11_14_19_21) rfl rfl)
  refine hK.out _ _ (hHeld.go b_1_2_4_8_10_11_14_19_21) (fun hHeld => ?_)
  clear hK K
  try simp only [Act.put, sA, sZ, sS]
  refine wpAnyH_ready (rs := [22]) (by kernel_rfl) (by simp) ?_
  refine AllReadyH.cons (List.getElem?_toArray.trans rfl) (fun K hK => ?_) AllReadyH.nil
  go_simp
  refine (accepts_any yc M C_1_2_4_8_10_11_14_19_21 n d_1_2_4_8_10_11_14_19_21 L _ (Dyc.out.below b_1_2_4_8_10_11_14_19_21) HL.out (by omega) CC_1_2_4_8_10_11_14_19_21.out).mono ?_
  rintro e w_1_2_4_8_10_11_14_19_21_22 ⟨rfl, b_1_2_4_8_10_11_14_19_21_22⟩
  try go_wp2_with fail
  have V_1_2_4_8_10_11_14_19_21_22 := Lib.hid (V_1_2_4_8_10_11_14_19_21.out.go b_1_2_4_8_10_11_14_19_21_22)
  refine hK.out _ _ (hHeld.go b_1_2_4_8_10_11_14_19_21_22) (fun hHeld => ?_)
  clear hK K
  try simp only [Act.put, sA, sZ, sS]
  refine wpAnyH_ready (rs := [25]) (by kernel_rfl) (by simp) ?_
  refine AllReadyH.cons (List.getElem?_toArray.trans rfl) (fun K hK => ?_) AllReadyH.nil
  go_simp
  refine (raccepts_any x M Aw n c L _ (H.out.below V_1_2_4_8_10_11_14_19_21_22.out.below) HL.out (by omega) (HC.out.below V_1_2_4_8_10_11_14_19_21_22.out.below)).mono ?_
  rintro e w_1_2_4_8_10_11_14_19_21_22_25 ⟨rfl, b_1_2_4_8_10_11_14_19_21_22_25⟩
  try go_wp2_with fail
  have V_1_2_4_8_10_11_14_19_21_22_25 := Lib.hid (V_1_2_4_8_10_11_14_19_21_22.out.go b_1_2_4_8_10_11_14_19_21_22_25)
  refine hK.out _ _ (hHeld.go b_1_2_4_8_10_11_14_19_21_22_25) (fun hHeld => ?_)
  clear hK K
  try simp only [Act.put, sA, sZ, sS]
  refine tk 26 ?_ rfl ?_ ?_; rotate_left; focus (intro w hSw; clear hSw; go_simp; try (with_reducible rfl))
  try simp only [Act.put, sA, sZ, sS]
  refine tk 27 ?_ rfl ?_ ?_; rotate_left; focus (intro w hSw; clear hSw; go_simp; try (with_reducible rfl))
  try simp only [Act.put, sA, sZ, sS]
  refine tk 28 ?_ rfl ?_ ?_; rotate_left; focus (intro w hSw; clear hSw; go_simp; try (with_reducible rfl))
  try simp only [Act.put, sA, sZ, sS]
  refine wpAnyH_done (by kernel_rfl) ?_ _
  go_wp2_with fail
  go_ret
  exact ⟨rfl, V_1_2_4_8_10_11_14_19_21_22_25.out.below⟩
end Go.Proofs.Ytjobhpekclomfaa
