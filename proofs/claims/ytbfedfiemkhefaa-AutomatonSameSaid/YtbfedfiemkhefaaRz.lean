/- What the statement about equal languages answers: true, whatever the input. -/
import Derived.Test.YtbfedfiemkhefaaRx
import Derived.Test.YtbfedfiemkhefaaQz
import Derived.Test.YtbfedfiemkhefaaQy
namespace Go.Proofs.Ytbfedfiemkhefaa
open Go.RowKit
set_option linter.unusedVariables false
set_option linter.unusedSimpArgs false
set_option maxRecDepth 100000

theorem sml_few {A B : Au} (h : smlB A B = true) : A.fewB = true ∧ B.fewB = true := by
  unfold smlB at h
  rw [Bool.and_eq_true, Bool.and_eq_true] at h
  exact h.1
set_option maxHeartbeats 32000000 in
theorem lawsame_any (x : DV) (A : Au) (y : DV) (B : Au) (w : World) (hA : DfaIn w x A) (hB : DfaIn w y B) :
    Calls Try.prog 4 #[dval x A, dval y B] w fun e w' => e = .returned (.bool true) ∧ Below w.heap.size w w' := by
  have HA := Lib.hid hA
  have HB := Lib.hid hB
  clear hA hB
  by_cases hf : smlB A B = true
  case neg =>
    have HF := Lib.hid (show smlB A B = false by cases e : smlB A B; rfl; exact absurd e hf)
    clear hf
    obtain ⟨wz, hwz⟩ : ∃ z, z = ((w.alloc (.cells #[.int .i64 A.lt, .int .i64 A.st, .slice x.A x.n x.c, .slice x.B x.m x.d] 25)).alloc (.cells #[.int .i64 B.lt, .int .i64 B.st, .slice y.A y.n y.c, .slice y.B y.m y.d] 25)) := ⟨_, rfl⟩
    have V := Lib.hid (show Hp w [box 25 (w.heap.size + 1) [.int .i64 B.lt, .int .i64 B.st, .slice y.A y.n y.c, .slice y.B y.m y.d], box 25 w.heap.size [.int .i64 A.lt, .int .i64 A.st, .slice x.A x.n x.c, .slice x.B x.m x.d]] wz by
      have := (((Hp.start w).box_new 25 [.int .i64 A.lt, .int .i64 A.st, .slice x.A x.n x.c, .slice x.B x.m x.d]).box_new 25 [.int .i64 B.lt, .int .i64 B.st, .slice y.A y.n y.c, .slice y.B y.m y.d])
      rw [hwz]; simpa using this)
    have HZ := Lib.hid hwz
    clear hwz
    go_enter Try.func4, Try.ntmps4
    go_upto_region 1 with fail
    rw [← HZ.out]
    clear HZ
    go_wp2_with fail
    refine (awake_any wz).mono ?_
    rintro e w1 ⟨rfl, b1⟩
    have V1 := Lib.hid (V.out.go b1)
    clear b1 V
    obtain ⟨r0_0, _, r0_9⟩ := V1.out.box_at (i := 0) (j := 0) rfl rfl
    obtain ⟨r0_1, _, _⟩ := V1.out.box_at (i := 0) (j := 1) rfl rfl
    obtain ⟨r0_2, _, _⟩ := V1.out.box_at (i := 0) (j := 2) rfl rfl
    obtain ⟨r0_3, _, _⟩ := V1.out.box_at (i := 0) (j := 3) rfl rfl
    obtain ⟨r1_0, _, r1_9⟩ := V1.out.box_at (i := 1) (j := 0) rfl rfl
    obtain ⟨r1_1, _, _⟩ := V1.out.box_at (i := 1) (j := 1) rfl rfl
    obtain ⟨r1_2, _, _⟩ := V1.out.box_at (i := 1) (j := 2) rfl rfl
    obtain ⟨r1_3, _, _⟩ := V1.out.box_at (i := 1) (j := 3) rfl rfl
    go_wp2_with fail
    refine (small_any x y A B w1 (HA.out.below V1.out.below) (HB.out.below V1.out.below)).mono ?_
    rintro e w2 ⟨rfl, b2⟩
    rw [HF.out]
    have V2 := Lib.hid (V1.out.go b2)
    clear b2 V1 r0_9 r0_0 r0_1 r0_2 r0_3 r1_9 r1_0 r1_1 r1_2 r1_3
    go_wp2_with fail
    refine (awake_any w2).mono ?_
    rintro e w3 ⟨rfl, b3⟩
    have V3 := Lib.hid (V2.out.go b3)
    go_wp2_with fail
    go_ret
    exact ⟨rfl, V3.out.below⟩
  have HF := Lib.hid hf
  have FA := Lib.hid (sml_few hf).1
  have FB := Lib.hid (sml_few hf).2
  clear hf
  obtain ⟨wz, hwz⟩ : ∃ z, z = ((w.alloc (.cells #[.int .i64 A.lt, .int .i64 A.st, .slice x.A x.n x.c, .slice x.B x.m x.d] 25)).alloc (.cells #[.int .i64 B.lt, .int .i64 B.st, .slice y.A y.n y.c, .slice y.B y.m y.d] 25)) := ⟨_, rfl⟩
  have V := Lib.hid (show Hp w [box 25 (w.heap.size + 1) [.int .i64 B.lt, .int .i64 B.st, .slice y.A y.n y.c, .slice y.B y.m y.d], box 25 w.heap.size [.int .i64 A.lt, .int .i64 A.st, .slice x.A x.n x.c, .slice x.B x.m x.d]] wz by
    have := (((Hp.start w).box_new 25 [.int .i64 A.lt, .int .i64 A.st, .slice x.A x.n x.c, .slice x.B x.m x.d]).box_new 25 [.int .i64 B.lt, .int .i64 B.st, .slice y.A y.n y.c, .slice y.B y.m y.d])
    rw [hwz]; simpa using this)
  have HZ := Lib.hid hwz
  clear hwz
  go_enter Try.func4, Try.ntmps4
  go_upto_region 1 with fail
  rw [← HZ.out]
  clear HZ
  go_wp2_with fail
  refine (awake_any wz).mono ?_
  rintro e w1 ⟨rfl, b1⟩
  have V1 := Lib.hid (V.out.go b1)
  clear b1 V
  obtain ⟨r0_0, _, r0_9⟩ := V1.out.box_at (i := 0) (j := 0) rfl rfl
  obtain ⟨r0_1, _, _⟩ := V1.out.box_at (i := 0) (j := 1) rfl rfl
  obtain ⟨r0_2, _, _⟩ := V1.out.box_at (i := 0) (j := 2) rfl rfl
  obtain ⟨r0_3, _, _⟩ := V1.out.box_at (i := 0) (j := 3) rfl rfl
  obtain ⟨r1_0, _, r1_9⟩ := V1.out.box_at (i := 1) (j := 0) rfl rfl
  obtain ⟨r1_1, _, _⟩ := V1.out.box_at (i := 1) (j := 1) rfl rfl
  obtain ⟨r1_2, _, _⟩ := V1.out.box_at (i := 1) (j := 2) rfl rfl
  obtain ⟨r1_3, _, _⟩ := V1.out.box_at (i := 1) (j := 3) rfl rfl
  go_wp2_with fail
  refine (small_any x y A B w1 (HA.out.below V1.out.below) (HB.out.below V1.out.below)).mono ?_
  rintro e w2 ⟨rfl, b2⟩
  rw [HF.out]
  have V2 := Lib.hid (V1.out.go b2)
  clear b2 V1 r0_9 r0_0 r0_1 r0_2 r0_3 r1_9 r1_0 r1_1 r1_2 r1_3
  go_upto_region 3 with fail
  go_cut [5, 6] (fun r5 r6 wy => ∃ b er, r5 = .bool b ∧ r6 = .int .i64 er ∧ SameR A B b er ∧ Hp w [box 25 (w.heap.size + 1) [.int .i64 B.lt, .int .i64 B.st, .slice y.A y.n y.c, .slice y.B y.m y.d], box 25 w.heap.size [.int .i64 A.lt, .int .i64 A.st, .slice x.A x.n x.c, .slice x.B x.m x.d]] wy)
  case first =>
    have hKp : Keep [(⟨w.heap.size, 0, none⟩, .int .i64 A.lt), (⟨w.heap.size, 1, none⟩, .int .i64 A.st), (⟨w.heap.size, 2, none⟩, .slice x.A x.n x.c), (⟨w.heap.size, 3, none⟩, .slice x.B x.m x.d), (⟨w.heap.size + 1, 0, none⟩, .int .i64 B.lt), (⟨w.heap.size + 1, 1, none⟩, .int .i64 B.st), (⟨w.heap.size + 1, 2, none⟩, .slice y.A y.n y.c), (⟨w.heap.size + 1, 3, none⟩, .slice y.B y.m y.d)] w2 := List.forall_mem_cons.2 ⟨⟨(V2.out.box_at (i := 1) (j := 0) rfl rfl).1, (V2.out.box_at (i := 1) (j := 0) rfl rfl).2.2⟩, List.forall_mem_cons.2 ⟨⟨(V2.out.box_at (i := 1) (j := 1) rfl rfl).1, (V2.out.box_at (i := 1) (j := 1) rfl rfl).2.2⟩, List.forall_mem_cons.2 ⟨⟨(V2.out.box_at (i := 1) (j := 2) rfl rfl).1, (V2.out.box_at (i := 1) (j := 2) rfl rfl).2.2⟩, List.forall_mem_cons.2 ⟨⟨(V2.out.box_at (i := 1) (j := 3) rfl rfl).1, (V2.out.box_at (i := 1) (j := 3) rfl rfl).2.2⟩, List.forall_mem_cons.2 ⟨⟨(V2.out.box_at (i := 0) (j := 0) rfl rfl).1, (V2.out.box_at (i := 0) (j := 0) rfl rfl).2.2⟩, List.forall_mem_cons.2 ⟨⟨(V2.out.box_at (i := 0) (j := 1) rfl rfl).1, (V2.out.box_at (i := 0) (j := 1) rfl rfl).2.2⟩, List.forall_mem_cons.2 ⟨⟨(V2.out.box_at (i := 0) (j := 2) rfl rfl).1, (V2.out.box_at (i := 0) (j := 2) rfl rfl).2.2⟩, List.forall_mem_cons.2 ⟨⟨(V2.out.box_at (i := 0) (j := 3) rfl rfl).1, (V2.out.box_at (i := 0) (j := 3) rfl rfl).2.2⟩, fun _ h => by simp at h⟩⟩⟩⟩⟩⟩⟩⟩
    refine wp_region_held_drew (S := Keep _) (by kernel_rfl) hKp.drew (fun hHeld => ?_)
    have V2d := Lib.hid (V2.out.go (bdrew _))
    refine tk 0 ?_ rfl ?_ ?_; rotate_left
    · intro wl hSw
      have hSw : Keep _ wl := hSw
      have k0 : wl.cell? ⟨w.heap.size, 0, none⟩ = some (.int .i64 A.lt) := (hSw _ (.head _)).1
      have k1 : wl.cell? ⟨w.heap.size, 1, none⟩ = some (.int .i64 A.st) := (hSw _ (.tail _ (.head _))).1
      have k2 : wl.cell? ⟨w.heap.size, 2, none⟩ = some (.slice x.A x.n x.c) := (hSw _ (.tail _ (.tail _ (.head _)))).1
      have k3 : wl.cell? ⟨w.heap.size, 3, none⟩ = some (.slice x.B x.m x.d) := (hSw _ (.tail _ (.tail _ (.tail _ (.head _))))).1
      clear hSw
      go_simp
      try (with_reducible rfl)
    try simp only [Act.put, sA, sZ, sS]
    refine tk 2 ?_ rfl ?_ ?_; rotate_left
    · intro wl hSw
      have hSw : Keep _ wl := hSw
      have k0 : wl.cell? ⟨w.heap.size + 1, 0, none⟩ = some (.int .i64 B.lt) := (hSw _ (.tail _ (.tail _ (.tail _ (.tail _ (.head _)))))).1
      have k1 : wl.cell? ⟨w.heap.size + 1, 1, none⟩ = some (.int .i64 B.st) := (hSw _ (.tail _ (.tail _ (.tail _ (.tail _ (.tail _ (.head _))))))).1
      have k2 : wl.cell? ⟨w.heap.size + 1, 2, none⟩ = some (.slice y.A y.n y.c) := (hSw _ (.tail _ (.tail _ (.tail _ (.tail _ (.tail _ (.tail _ (.head _)))))))).1
      have k3 : wl.cell? ⟨w.heap.size + 1, 3, none⟩ = some (.slice y.B y.m y.d) := (hSw _ (.tail _ (.tail _ (.tail _ (.tail _ (.tail _ (.tail _ (.tail _ (.head _))))))))).1
      clear hSw
      go_simp
      try (with_reducible rfl)
    try simp only [Act.put, sA, sZ, sS]
    refine wpAnyH_ready (rs := [1]) (by kernel_rfl) (by simp) ?_
    refine AllReadyH.cons (List.getElem?_toArray.trans rfl) (fun K hK => ?_) AllReadyH.nil
    go_simp
    refine (copied_any x A _ (HA.out.below V2d.out.below) FA.out).mono ?_
    rintro e w_1 ⟨ya, rfl, hya, b_1⟩
    try go_wp2_with fail
    have Dya := Lib.hid hya
    clear hya
    have V_1 := Lib.hid (V2d.out.go b_1)
    refine hK.out _ _ (hHeld.go b_1) (fun hHeld => ?_)
    clear hK K
    try simp only [Act.put, sA, sZ, sS]
    refine wpAnyH_ready (rs := [3]) (by kernel_rfl) (by simp) ?_
    refine AllReadyH.cons (List.getElem?_toArray.trans rfl) (fun K hK => ?_) AllReadyH.nil
    go_simp
    refine (copied_any y B _ (HB.out.below V_1.out.below) FB.out).mono ?_
    rintro e w_1_3 ⟨yb, rfl, hyb, b_1_3⟩
    try go_wp2_with fail
    have Dyb := Lib.hid hyb
    clear hyb
    have V_1_3 := Lib.hid (V_1.out.go b_1_3)
    refine hK.out _ _ (hHeld.go b_1_3) (fun hHeld => ?_)
    clear hK K
    try simp only [Act.put, sA, sZ, sS]
    refine wpAnyH_ready (rs := [4]) (by kernel_rfl) (by simp) ?_
    refine AllReadyH.cons (List.getElem?_toArray.trans rfl) (fun K hK => ?_) AllReadyH.nil
    go_simp
    refine (sameV_any ya yb A B _ (Dya.out.below b_1_3) Dyb.out).mono ?_
    rintro e w_1_3_4 ⟨bb, er, rfl, hsr, b_1_3_4⟩
    try go_wp2_with fail
    have HSR := Lib.hid hsr
    clear hsr
    have V_1_3_4 := Lib.hid (V_1_3.out.go b_1_3_4)
    refine hK.out _ _ (hHeld.go b_1_3_4) (fun hHeld => ?_)
    clear hK K
    try simp only [Act.put, sA, sZ, sS]
    refine tk 5 ?_ rfl ?_ ?_; rotate_left; focus (intro w hSw; clear hSw; go_simp; try (with_reducible rfl))
    try simp only [Act.put, sA, sZ, sS]
    refine tk 6 ?_ rfl ?_ ?_; rotate_left; focus (intro w hSw; clear hSw; go_simp; try (with_reducible rfl))
    try simp only [Act.put, sA, sZ, sS]
    refine tk 7 ?_ rfl ?_ ?_; rotate_left; focus (intro w hSw; clear hSw; go_simp; try (with_reducible rfl))
    try simp only [Act.put, sA, sZ, sS]
    refine tk 8 ?_ rfl ?_ ?_; rotate_left; focus (intro w hSw; clear hSw; go_simp; try (with_reducible rfl))
    try simp only [Act.put, sA, sZ, sS]
    refine tk 9 ?_ rfl ?_ ?_; rotate_left; focus (intro w hSw; clear hSw; go_simp; try (with_reducible rfl))
    try simp only [Act.put, sA, sZ, sS]
    refine wpAnyH_done (by kernel_rfl) ?_ _
    go_wp2_with fail
    go_meet
    exact ⟨bb, er, rfl, rfl, HSR.out, V_1_3_4.out⟩
  case rest =>
    obtain ⟨bb, er, rfl, rfl, hsr, hv⟩ := hcut
    have V3 := Lib.hid hv
    have HS := Lib.hid hsr
    clear hv V2 hsr
    obtain ⟨r0_0, _, r0_9⟩ := V3.out.box_at (i := 0) (j := 0) rfl rfl
    obtain ⟨r0_1, _, _⟩ := V3.out.box_at (i := 0) (j := 1) rfl rfl
    obtain ⟨r0_2, _, _⟩ := V3.out.box_at (i := 0) (j := 2) rfl rfl
    obtain ⟨r0_3, _, _⟩ := V3.out.box_at (i := 0) (j := 3) rfl rfl
    obtain ⟨r1_0, _, r1_9⟩ := V3.out.box_at (i := 1) (j := 0) rfl rfl
    obtain ⟨r1_1, _, _⟩ := V3.out.box_at (i := 1) (j := 1) rfl rfl
    obtain ⟨r1_2, _, _⟩ := V3.out.box_at (i := 1) (j := 2) rfl rfl
    obtain ⟨r1_3, _, _⟩ := V3.out.box_at (i := 1) (j := 3) rfl rfl
    go_wp2_with fail
    refine (rsameV_any x y A B _ (HA.out.below V3.out.below) (HB.out.below V3.out.below)).mono ?_
    rintro e w4 ⟨b2, e2, rfl, hs2, b4⟩
    obtain ⟨q1, q2⟩ := HS.out.uniq hs2
    subst q1
    subst q2
    have V4 := Lib.hid (V3.out.go b4)
    clear hs2 b4 V3 r0_9 r0_0 r0_1 r0_2 r0_3 r1_9 r1_0 r1_1 r1_2 r1_3
    go_upto_region 5 with fail
    go_cut [9, 10] (fun r9 r10 wy => ∃ G n c L es, r9 = .slice G n c ∧ r10 = .int .i64 es ∧ DiffR A B L es ∧ L.length = n ∧ n ≤ 2000000 ∧ CellsIn wy G (ints L) ∧ Hp w [box 25 (w.heap.size + 1) [.int .i64 B.lt, .int .i64 B.st, .slice y.A y.n y.c, .slice y.B y.m y.d], box 25 w.heap.size [.int .i64 A.lt, .int .i64 A.st, .slice x.A x.n x.c, .slice x.B x.m x.d]] wy)
    case first =>
      have hKp : Keep [(⟨w.heap.size, 0, none⟩, .int .i64 A.lt), (⟨w.heap.size, 1, none⟩, .int .i64 A.st), (⟨w.heap.size, 2, none⟩, .slice x.A x.n x.c), (⟨w.heap.size, 3, none⟩, .slice x.B x.m x.d), (⟨w.heap.size + 1, 0, none⟩, .int .i64 B.lt), (⟨w.heap.size + 1, 1, none⟩, .int .i64 B.st), (⟨w.heap.size + 1, 2, none⟩, .slice y.A y.n y.c), (⟨w.heap.size + 1, 3, none⟩, .slice y.B y.m y.d)] w4 := List.forall_mem_cons.2 ⟨⟨(V4.out.box_at (i := 1) (j := 0) rfl rfl).1, (V4.out.box_at (i := 1) (j := 0) rfl rfl).2.2⟩, List.forall_mem_cons.2 ⟨⟨(V4.out.box_at (i := 1) (j := 1) rfl rfl).1, (V4.out.box_at (i := 1) (j := 1) rfl rfl).2.2⟩, List.forall_mem_cons.2 ⟨⟨(V4.out.box_at (i := 1) (j := 2) rfl rfl).1, (V4.out.box_at (i := 1) (j := 2) rfl rfl).2.2⟩, List.forall_mem_cons.2 ⟨⟨(V4.out.box_at (i := 1) (j := 3) rfl rfl).1, (V4.out.box_at (i := 1) (j := 3) rfl rfl).2.2⟩, List.forall_mem_cons.2 ⟨⟨(V4.out.box_at (i := 0) (j := 0) rfl rfl).1, (V4.out.box_at (i := 0) (j := 0) rfl rfl).2.2⟩, List.forall_mem_cons.2 ⟨⟨(V4.out.box_at (i := 0) (j := 1) rfl rfl).1, (V4.out.box_at (i := 0) (j := 1) rfl rfl).2.2⟩, List.forall_mem_cons.2 ⟨⟨(V4.out.box_at (i := 0) (j := 2) rfl rfl).1, (V4.out.box_at (i := 0) (j := 2) rfl rfl).2.2⟩, List.forall_mem_cons.2 ⟨⟨(V4.out.box_at (i := 0) (j := 3) rfl rfl).1, (V4.out.box_at (i := 0) (j := 3) rfl rfl).2.2⟩, fun _ h => by simp at h⟩⟩⟩⟩⟩⟩⟩⟩
      refine wp_region_held_drew (S := Keep _) (by kernel_rfl) hKp.drew (fun hHeld => ?_)
      have V4d := Lib.hid (V4.out.go (bdrew _))
      refine tk 0 ?_ rfl ?_ ?_; rotate_left
      · intro wl hSw
        have hSw : Keep _ wl := hSw
        have k0 : wl.cell? ⟨w.heap.size, 0, none⟩ = some (.int .i64 A.lt) := (hSw _ (.head _)).1
        have k1 : wl.cell? ⟨w.heap.size, 1, none⟩ = some (.int .i64 A.st) := (hSw _ (.tail _ (.head _))).1
        have k2 : wl.cell? ⟨w.heap.size, 2, none⟩ = some (.slice x.A x.n x.c) := (hSw _ (.tail _ (.tail _ (.head _)))).1
        have k3 : wl.cell? ⟨w.heap.size, 3, none⟩ = some (.slice x.B x.m x.d) := (hSw _ (.tail _ (.tail _ (.tail _ (.head _))))).1
        clear hSw
        go_simp
        try (with_reducible rfl)
      try simp only [Act.put, sA, sZ, sS]
      refine tk 2 ?_ rfl ?_ ?_; rotate_left
      · intro wl hSw
        have hSw : Keep _ wl := hSw
        have k0 : wl.cell? ⟨w.heap.size + 1, 0, none⟩ = some (.int .i64 B.lt) := (hSw _ (.tail _ (.tail _ (.tail _ (.tail _ (.head _)))))).1
        have k1 : wl.cell? ⟨w.heap.size + 1, 1, none⟩ = some (.int .i64 B.st) := (hSw _ (.tail _ (.tail _ (.tail _ (.tail _ (.tail _ (.head _))))))).1
        have k2 : wl.cell? ⟨w.heap.size + 1, 2, none⟩ = some (.slice y.A y.n y.c) := (hSw _ (.tail _ (.tail _ (.tail _ (.tail _ (.tail _ (.tail _ (.head _)))))))).1
        have k3 : wl.cell? ⟨w.heap.size + 1, 3, none⟩ = some (.slice y.B y.m y.d) := (hSw _ (.tail _ (.tail _ (.tail _ (.tail _ (.tail _ (.tail _ (.tail _ (.head _))))))))).1
        clear hSw
        go_simp
        try (with_reducible rfl)
      try simp only [Act.put, sA, sZ, sS]
      refine wpAnyH_ready (rs := [1]) (by kernel_rfl) (by simp) ?_
      refine AllReadyH.cons (List.getElem?_toArray.trans rfl) (fun K hK => ?_) AllReadyH.nil
      go_simp
      refine (copied_any x A _ (HA.out.below V4d.out.below) FA.out).mono ?_
      rintro e w_1 ⟨ya, rfl, hya, b_1⟩
      try go_wp2_with fail
      have Dya := Lib.hid hya
      clear hya
      have V_1 := Lib.hid (V4d.out.go b_1)
      refine hK.out _ _ (hHeld.go b_1) (fun hHeld => ?_)
      clear hK K
      try simp only [Act.put, sA, sZ, sS]
      refine wpAnyH_ready (rs := [3]) (by kernel_rfl) (by simp) ?_
      refine AllReadyH.cons (List.getElem?_toArray.trans rfl) (fun K hK => ?_) AllReadyH.nil
      go_simp
      refine (copied_any y B _ (HB.out.below V_1.out.below) FB.out).mono ?_
      rintro e w_1_3 ⟨yb, rfl, hyb, b_1_3⟩
      try go_wp2_with fail
      have Dyb := Lib.hid hyb
      clear hyb
      have V_1_3 := Lib.hid (V_1.out.go b_1_3)
      refine hK.out _ _ (hHeld.go b_1_3) (fun hHeld => ?_)
      clear hK K
      try simp only [Act.put, sA, sZ, sS]
      refine wpAnyH_ready (rs := [4]) (by kernel_rfl) (by simp) ?_
      refine AllReadyH.cons (List.getElem?_toArray.trans rfl) (fun K hK => ?_) AllReadyH.nil
      go_simp
      refine (diffV_any ya yb A B _ (Dya.out.below b_1_3) Dyb.out).mono ?_
      rintro e w_1_3_4 ⟨G, n, c, L, es, rfl, hdr, hl, hn, hcl, b_1_3_4⟩
      try go_wp2_with fail
      have HDR := Lib.hid hdr
      have HL := Lib.hid hl
      have HC := Lib.hid hcl
      clear hdr hl hcl
      have V_1_3_4 := Lib.hid (V_1_3.out.go b_1_3_4)
      refine hK.out _ _ (hHeld.go b_1_3_4) (fun hHeld => ?_)
      clear hK K
      try simp only [Act.put, sA, sZ, sS]
      refine tk 5 ?_ rfl ?_ ?_; rotate_left; focus (intro w hSw; clear hSw; go_simp; try (with_reducible rfl))
      try simp only [Act.put, sA, sZ, sS]
      refine tk 6 ?_ rfl ?_ ?_; rotate_left; focus (intro w hSw; clear hSw; go_simp; try (with_reducible rfl))
      try simp only [Act.put, sA, sZ, sS]
      refine tk 7 ?_ rfl ?_ ?_; rotate_left; focus (intro w hSw; clear hSw; go_simp; try (with_reducible rfl))
      try simp only [Act.put, sA, sZ, sS]
      refine tk 8 ?_ rfl ?_ ?_; rotate_left; focus (intro w hSw; clear hSw; go_simp; try (with_reducible rfl))
      try simp only [Act.put, sA, sZ, sS]
      refine tk 9 ?_ rfl ?_ ?_; rotate_left; focus (intro w hSw; clear hSw; go_simp; try (with_reducible rfl))
      try simp only [Act.put, sA, sZ, sS]
      refine wpAnyH_done (by kernel_rfl) ?_ _
      go_wp2_with fail
      go_meet
      exact ⟨G, n, c, L, es, rfl, rfl, HDR.out, HL.out, hn, HC.out, V_1_3_4.out⟩
    case rest =>
      obtain ⟨G, n, c, L, es, rfl, rfl, hdr, hl, hn, hcl, hv⟩ := hcut
      have V5 := Lib.hid hv
      have HD := Lib.hid hdr
      have HL := Lib.hid hl
      have HC := Lib.hid hcl
      clear hv V4 hdr hl hcl
      obtain ⟨r0_0, _, r0_9⟩ := V5.out.box_at (i := 0) (j := 0) rfl rfl
      obtain ⟨r0_1, _, _⟩ := V5.out.box_at (i := 0) (j := 1) rfl rfl
      obtain ⟨r0_2, _, _⟩ := V5.out.box_at (i := 0) (j := 2) rfl rfl
      obtain ⟨r0_3, _, _⟩ := V5.out.box_at (i := 0) (j := 3) rfl rfl
      obtain ⟨r1_0, _, r1_9⟩ := V5.out.box_at (i := 1) (j := 0) rfl rfl
      obtain ⟨r1_1, _, _⟩ := V5.out.box_at (i := 1) (j := 1) rfl rfl
      obtain ⟨r1_2, _, _⟩ := V5.out.box_at (i := 1) (j := 2) rfl rfl
      obtain ⟨r1_3, _, _⟩ := V5.out.box_at (i := 1) (j := 3) rfl rfl
      go_wp2_with fail
      refine (rdiffV_any x y A B _ (HA.out.below V5.out.below) (HB.out.below V5.out.below)).mono ?_
      rintro e w6 ⟨G2, n2, c2, L2, e3, rfl, hd2, hl2, hn2, hc2, b6⟩
      obtain ⟨q1, q2⟩ := HD.out.uniq hd2
      subst q1
      subst q2
      obtain rfl : n = n2 := by have := HL.out; omega
      have V6 := Lib.hid (V5.out.go b6)
      have HC2 := Lib.hid hc2
      have HC6 := Lib.hid (HC.out.below b6)
      clear hd2 hl2 hc2 b6 V5 HC r0_9 r0_0 r0_1 r0_2 r0_3 r1_9 r1_0 r1_1 r1_2 r1_3
      have e1 : (bb != bb) = false := by cases bb <;> rfl
      have e2 : (er != er) = false := by simp
      have e3 : (es != es) = false := by simp
      go_wp2_with fail
      refine (eq_true G G2 n c c2 L w6 HL.out (by omega) HC6.out HC2.out).mono ?_
      rintro e w7 ⟨rfl, b7⟩
      have V7 := Lib.hid (V6.out.go b7)
      have HC7 := Lib.hid (HC6.out.below b7)
      clear b7 V6 HC6 HC2 e1 e2 e3
      go_upto_region 9 with fail
      rcases HD.out.er with rfl | rfl | rfl
      · have hKp : Keep [] w7 := fun _ h => by simp at h
        refine wp_region_held_drew (S := Keep _) (by kernel_rfl) hKp.drew (fun hHeld => ?_)
        have V7d := Lib.hid (V7.out.go (bdrew _))
        refine tk 0 ?_ rfl ?_ ?_; rotate_left; focus (intro w hSw; clear hSw; go_simp; try (with_reducible rfl))
        try simp only [Act.put, sA, sZ, sS]
        refine tk 1 ?_ rfl ?_ ?_; rotate_left; focus (intro w hSw; clear hSw; go_simp; try (with_reducible rfl))
        try simp only [Act.put, sA, sZ, sS]
        refine tk 2 ?_ rfl ?_ ?_; rotate_left; focus (intro w hSw; clear hSw; go_simp; try (with_reducible rfl))
        try simp only [Act.put, sA, sZ, sS]
        refine tu 3 rfl ?_
        try simp only [Act.put, sA, sZ, sS]
        refine tu 4 rfl ?_
        try simp only [Act.put, sA, sZ, sS]
        refine tu 5 rfl ?_
        try simp only [Act.put, sA, sZ, sS]
        refine tu 6 rfl ?_
        try simp only [Act.put, sA, sZ, sS]
        refine tu 7 rfl ?_
        try simp only [Act.put, sA, sZ, sS]
        refine tu 8 rfl ?_
        try simp only [Act.put, sA, sZ, sS]
        refine tu 9 rfl ?_
        try simp only [Act.put, sA, sZ, sS]
        refine tu 10 rfl ?_
        try simp only [Act.put, sA, sZ, sS]
        refine tu 11 rfl ?_
        try simp only [Act.put, sA, sZ, sS]
        refine tu 12 rfl ?_
        try simp only [Act.put, sA, sZ, sS]
        refine tu 13 rfl ?_
        try simp only [Act.put, sA, sZ, sS]
        refine tk 14 ?_ rfl ?_ ?_; rotate_left; focus (intro w hSw; clear hSw; go_simp; try (with_reducible rfl))
        try simp only [Act.put, sA, sZ, sS]
        refine tk 15 ?_ rfl ?_ ?_; rotate_left; focus (intro w hSw; clear hSw; go_simp; try (with_reducible rfl))
        try simp only [Act.put, sA, sZ, sS]
        refine wpAnyH_done (by kernel_rfl) ?_ _
        go_wp2_with fail
        go_ret
        exact ⟨rfl, V7d.out.below⟩
      · have hKp : Keep [] w7 := fun _ h => by simp at h
        refine wp_region_held_drew (S := Keep _) (by kernel_rfl) hKp.drew (fun hHeld => ?_)
        have V7d := Lib.hid (V7.out.go (bdrew _))
        refine tk 0 ?_ rfl ?_ ?_; rotate_left; focus (intro w hSw; clear hSw; go_simp; try (with_reducible rfl))
        try simp only [Act.put, sA, sZ, sS]
        refine tk 1 ?_ rfl ?_ ?_; rotate_left; focus (intro w hSw; clear hSw; go_simp; try (with_reducible rfl))
        try simp only [Act.put, sA, sZ, sS]
        refine tk 2 ?_ rfl ?_ ?_; rotate_left; focus (intro w hSw; clear hSw; go_simp; try (with_reducible rfl))
        try simp only [Act.put, sA, sZ, sS]
        refine tu 3 rfl ?_
        try simp only [Act.put, sA, sZ, sS]
        refine tu 4 rfl ?_
        try simp only [Act.put, sA, sZ, sS]
        refine tu 5 rfl ?_
        try simp only [Act.put, sA, sZ, sS]
        refine tu 6 rfl ?_
        try simp only [Act.put, sA, sZ, sS]
        refine tu 7 rfl ?_
        try simp only [Act.put, sA, sZ, sS]
        refine tu 8 rfl ?_
        try simp only [Act.put, sA, sZ, sS]
        refine tu 9 rfl ?_
        try simp only [Act.put, sA, sZ, sS]
        refine tu 10 rfl ?_
        try simp only [Act.put, sA, sZ, sS]
        refine tu 11 rfl ?_
        try simp only [Act.put, sA, sZ, sS]
        refine tu 12 rfl ?_
        try simp only [Act.put, sA, sZ, sS]
        refine tu 13 rfl ?_
        try simp only [Act.put, sA, sZ, sS]
        refine tk 14 ?_ rfl ?_ ?_; rotate_left; focus (intro w hSw; clear hSw; go_simp; try (with_reducible rfl))
        try simp only [Act.put, sA, sZ, sS]
        refine tk 15 ?_ rfl ?_ ?_; rotate_left; focus (intro w hSw; clear hSw; go_simp; try (with_reducible rfl))
        try simp only [Act.put, sA, sZ, sS]
        refine wpAnyH_done (by kernel_rfl) ?_ _
        go_wp2_with fail
        go_ret
        exact ⟨rfl, V7d.out.below⟩
      · obtain ⟨rfl, htl⟩ := HD.out.tells HS.out
        obtain ⟨va, hva⟩ : ∃ o, o = A.accI L := ⟨_, rfl⟩
        obtain ⟨vb, hvb⟩ : ∃ o, o = B.accI L := ⟨_, rfl⟩
        rw [← hva, ← hvb] at htl
        have HTL := Lib.hid htl
        have HVA := Lib.hid hva.symm
        have HVB := Lib.hid hvb.symm
        clear hva hvb htl
        have hKp : Keep [(⟨w.heap.size, 0, none⟩, .int .i64 A.lt), (⟨w.heap.size, 1, none⟩, .int .i64 A.st), (⟨w.heap.size, 2, none⟩, .slice x.A x.n x.c), (⟨w.heap.size, 3, none⟩, .slice x.B x.m x.d), (⟨w.heap.size + 1, 0, none⟩, .int .i64 B.lt), (⟨w.heap.size + 1, 1, none⟩, .int .i64 B.st), (⟨w.heap.size + 1, 2, none⟩, .slice y.A y.n y.c), (⟨w.heap.size + 1, 3, none⟩, .slice y.B y.m y.d)] w7 := List.forall_mem_cons.2 ⟨⟨(V7.out.box_at (i := 1) (j := 0) rfl rfl).1, (V7.out.box_at (i := 1) (j := 0) rfl rfl).2.2⟩, List.forall_mem_cons.2 ⟨⟨(V7.out.box_at (i := 1) (j := 1) rfl rfl).1, (V7.out.box_at (i := 1) (j := 1) rfl rfl).2.2⟩, List.forall_mem_cons.2 ⟨⟨(V7.out.box_at (i := 1) (j := 2) rfl rfl).1, (V7.out.box_at (i := 1) (j := 2) rfl rfl).2.2⟩, List.forall_mem_cons.2 ⟨⟨(V7.out.box_at (i := 1) (j := 3) rfl rfl).1, (V7.out.box_at (i := 1) (j := 3) rfl rfl).2.2⟩, List.forall_mem_cons.2 ⟨⟨(V7.out.box_at (i := 0) (j := 0) rfl rfl).1, (V7.out.box_at (i := 0) (j := 0) rfl rfl).2.2⟩, List.forall_mem_cons.2 ⟨⟨(V7.out.box_at (i := 0) (j := 1) rfl rfl).1, (V7.out.box_at (i := 0) (j := 1) rfl rfl).2.2⟩, List.forall_mem_cons.2 ⟨⟨(V7.out.box_at (i := 0) (j := 2) rfl rfl).1, (V7.out.box_at (i := 0) (j := 2) rfl rfl).2.2⟩, List.forall_mem_cons.2 ⟨⟨(V7.out.box_at (i := 0) (j := 3) rfl rfl).1, (V7.out.box_at (i := 0) (j := 3) rfl rfl).2.2⟩, fun _ h => by simp at h⟩⟩⟩⟩⟩⟩⟩⟩
        refine wp_region_held_drew (S := Keep _) (by kernel_rfl) hKp.drew (fun hHeld => ?_)
        have V7d := Lib.hid (V7.out.go (bdrew _))
        refine tk 0 ?_ rfl ?_ ?_; rotate_left; focus (intro w hSw; clear hSw; go_simp; try (with_reducible rfl))
        try simp only [Act.put, sA, sZ, sS]
        refine tk 1 ?_ rfl ?_ ?_; rotate_left; focus (intro w hSw; clear hSw; go_simp; try (with_reducible rfl))
        try simp only [Act.put, sA, sZ, sS]
        refine tk 2 ?_ rfl ?_ ?_; rotate_left; focus (intro w hSw; clear hSw; go_simp; try (with_reducible rfl))
        try simp only [Act.put, sA, sZ, sS]
        refine tk 3 ?_ rfl ?_ ?_; rotate_left; focus (intro w hSw; clear hSw; go_simp; try (with_reducible rfl))
        try simp only [Act.put, sA, sZ, sS]
        refine tk 4 ?_ rfl ?_ ?_; rotate_left; focus (intro w hSw; clear hSw; go_simp; try (with_reducible rfl))
        try simp only [Act.put, sA, sZ, sS]
        refine tk 5 ?_ rfl ?_ ?_; rotate_left; focus (intro w hSw; clear hSw; go_simp; try (with_reducible rfl))
        try simp only [Act.put, sA, sZ, sS]
        refine tk 6 ?_ rfl ?_ ?_; rotate_left
        · intro wl hSw
          have hSw : Keep _ wl := hSw
          have k0 : wl.cell? ⟨w.heap.size, 0, none⟩ = some (.int .i64 A.lt) := (hSw _ (.head _)).1
          have k1 : wl.cell? ⟨w.heap.size, 1, none⟩ = some (.int .i64 A.st) := (hSw _ (.tail _ (.head _))).1
          have k2 : wl.cell? ⟨w.heap.size, 2, none⟩ = some (.slice x.A x.n x.c) := (hSw _ (.tail _ (.tail _ (.head _)))).1
          have k3 : wl.cell? ⟨w.heap.size, 3, none⟩ = some (.slice x.B x.m x.d) := (hSw _ (.tail _ (.tail _ (.tail _ (.head _))))).1
          clear hSw
          go_simp
          try (with_reducible rfl)
        try simp only [Act.put, sA, sZ, sS]
        refine tk 7 ?_ rfl ?_ ?_; rotate_left; focus (intro w hSw; clear hSw; go_simp; try (with_reducible rfl))
        try simp only [Act.put, sA, sZ, sS]
        refine tk 9 ?_ rfl ?_ ?_; rotate_left
        · intro wl hSw
          have hSw : Keep _ wl := hSw
          have k0 : wl.cell? ⟨w.heap.size + 1, 0, none⟩ = some (.int .i64 B.lt) := (hSw _ (.tail _ (.tail _ (.tail _ (.tail _ (.head _)))))).1
          have k1 : wl.cell? ⟨w.heap.size + 1, 1, none⟩ = some (.int .i64 B.st) := (hSw _ (.tail _ (.tail _ (.tail _ (.tail _ (.tail _ (.head _))))))).1
          have k2 : wl.cell? ⟨w.heap.size + 1, 2, none⟩ = some (.slice y.A y.n y.c) := (hSw _ (.tail _ (.tail _ (.tail _ (.tail _ (.tail _ (.tail _ (.head _)))))))).1
          have k3 : wl.cell? ⟨w.heap.size + 1, 3, none⟩ = some (.slice y.B y.m y.d) := (hSw _ (.tail _ (.tail _ (.tail _ (.tail _ (.tail _ (.tail _ (.tail _ (.head _))))))))).1
          clear hSw
          go_simp
          try (with_reducible rfl)
        try simp only [Act.put, sA, sZ, sS]
        refine tk 10 ?_ rfl ?_ ?_; rotate_left; focus (intro w hSw; clear hSw; go_simp; try (with_reducible rfl))
        try simp only [Act.put, sA, sZ, sS]
        refine wpAnyH_ready (rs := [8]) (by kernel_rfl) (by simp) ?_
        refine AllReadyH.cons (List.getElem?_toArray.trans rfl) (fun K hK => ?_) AllReadyH.nil
        go_simp
        refine (accepts_any x A G n c L _ (HA.out.below V7d.out.below) HL.out (by omega) (HC7.out.below (bdrew _))).mono ?_
        rintro e w_8 ⟨rfl, b_8⟩
        try go_wp2_with fail
        rw [HVA.out]
        have V_8 := Lib.hid (V7d.out.go b_8)
        refine hK.out _ _ (hHeld.go b_8) (fun hHeld => ?_)
        clear hK K
        try simp only [Act.put, sA, sZ, sS]
        refine wpAnyH_ready (rs := [11]) (by kernel_rfl) (by simp) ?_
        refine AllReadyH.cons (List.getElem?_toArray.trans rfl) (fun K hK => ?_) AllReadyH.nil
        go_simp
        refine (accepts_any y B G n c L _ (HB.out.below V_8.out.below) HL.out (by omega) ((HC7.out.below (bdrew _)).below b_8)).mono ?_
        rintro e w_8_11 ⟨rfl, b_8_11⟩
        try go_wp2_with fail
        rw [HVB.out]
        have V_8_11 := Lib.hid (V_8.out.go b_8_11)
        refine hK.out _ _ (hHeld.go b_8_11) (fun hHeld => ?_)
        clear hK K
        try simp only [Act.put, sA, sZ, sS]
        refine tk 12 ?_ rfl ?_ ?_; rotate_left; focus (intro w hSw; clear hSw; go_simp; try (with_reducible rfl))
        try simp only [Act.put, sA, sZ, sS]
        refine tk 13 ?_ rfl ?_ ?_; rotate_left; focus (intro w hSw; clear hSw; go_simp; try (with_reducible rfl))
        try simp only [Act.put, sA, sZ, sS]
        refine tk 14 ?_ rfl ?_ ?_; rotate_left; focus (intro w hSw; clear hSw; go_simp; try (with_reducible rfl))
        try simp only [Act.put, sA, sZ, sS]
        refine tk 15 ?_ rfl ?_ ?_; rotate_left; focus (intro w hSw; clear hSw; go_simp; try (with_reducible rfl))
        try simp only [Act.put, sA, sZ, sS]
        refine wpAnyH_done (by kernel_rfl) ?_ _
        go_wp2_with fail
        go_ret
        exact ⟨ret_bool HTL.out, V_8_11.out.below⟩
end Go.Proofs.Ytbfedfiemkhefaa
