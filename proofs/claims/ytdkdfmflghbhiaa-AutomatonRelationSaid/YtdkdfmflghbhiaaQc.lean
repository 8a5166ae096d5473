/- Contracts of the program: the pair behind a letter, the table of pairs. -/
import Derived.Test.YtdkdfmflghbhiaaQb
namespace Go.Proofs.Ytdkdfmflghbhiaa
open Go.RowKit
set_option linter.unusedVariables false
set_option linter.unusedSimpArgs false
set_option maxRecDepth 100000

set_option maxHeartbeats 2000000 in
theorem followPair_any (x y : DV) (A B : Au) (k : Nat) (p1 p2 : Int) (c : Nat) (w : World) (hA : Good w x A k) (hB : Good w y B k) (hp : in2 A B (p1, p2)) (hc : c < k) :
    Calls Try.prog 35 #[.agg #[.int .i64 A.lt, .int .i64 A.st, .slice x.A x.n x.c, .slice x.B x.m x.d], .agg #[.int .i64 B.lt, .int .i64 B.st, .slice y.A y.n y.c, .slice y.B y.m y.d], .agg #[.int .i64 p1, .int .i64 p2], .int .i64 c] w
      fun e w' => e = .returned (.agg #[.int .i64 (A.go p1 c), .int .i64 (B.go p2 c)]) ∧ Below w.heap.size w w' := by
  obtain ⟨wz, hwz⟩ : ∃ z, z = (((w.alloc (.cells #[.int .i64 A.lt, .int .i64 A.st, .slice x.A x.n x.c, .slice x.B x.m x.d] 25)).alloc (.cells #[.int .i64 B.lt, .int .i64 B.st, .slice y.A y.n y.c, .slice y.B y.m y.d] 25)).alloc (.cells #[.int .i64 p1, .int .i64 p2] 35)).alloc (.cells #[.int .i64 0, .int .i64 0] 35) := ⟨_, rfl⟩
  have V := Lib.hid (show Hp w [box 35 (w.heap.size + 1 + 1 + 1) [.int .i64 0, .int .i64 0], box 35 (w.heap.size + 1 + 1) [.int .i64 p1, .int .i64 p2], box 25 (w.heap.size + 1) [.int .i64 B.lt, .int .i64 B.st, .slice y.A y.n y.c, .slice y.B y.m y.d], box 25 w.heap.size [.int .i64 A.lt, .int .i64 A.st, .slice x.A x.n x.c, .slice x.B x.m x.d]] wz by
    have := ((((Hp.start w).box_new 25 [.int .i64 A.lt, .int .i64 A.st, .slice x.A x.n x.c, .slice x.B x.m x.d]).box_new 25 [.int .i64 B.lt, .int .i64 B.st, .slice y.A y.n y.c, .slice y.B y.m y.d]).box_new 35 [.int .i64 p1, .int .i64 p2]).box_new 35 [.int .i64 0, .int .i64 0]
    rw [hwz]; simpa using this)
  have HZ := Lib.hid hwz
  have HA := Lib.hid hA
  have HB := Lib.hid hB
  have HP := Lib.hid hp
  clear hwz hA hB hp
  go_enter Try.func35, Try.ntmps35
  go_upto_region 1 with fail
  rw [← HZ.out]
  have hKp : Keep [(⟨w.heap.size, 0, none⟩, .int .i64 A.lt), (⟨w.heap.size, 1, none⟩, .int .i64 A.st), (⟨w.heap.size, 2, none⟩, .slice x.A x.n x.c), (⟨w.heap.size, 3, none⟩, .slice x.B x.m x.d), (⟨w.heap.size + 1, 0, none⟩, .int .i64 B.lt), (⟨w.heap.size + 1, 1, none⟩, .int .i64 B.st), (⟨w.heap.size + 1, 2, none⟩, .slice y.A y.n y.c), (⟨w.heap.size + 1, 3, none⟩, .slice y.B y.m y.d), (⟨w.heap.size + 1 + 1, 0, none⟩, .int .i64 p1), (⟨w.heap.size + 1 + 1, 1, none⟩, .int .i64 p2)] wz := List.forall_mem_cons.2 ⟨⟨(V.out.box_at (i := 3) (j := 0) rfl rfl).1, (V.out.box_at (i := 3) (j := 0) rfl rfl).2.2⟩, List.forall_mem_cons.2 ⟨⟨(V.out.box_at (i := 3) (j := 1) rfl rfl).1, (V.out.box_at (i := 3) (j := 1) rfl rfl).2.2⟩, List.forall_mem_cons.2 ⟨⟨(V.out.box_at (i := 3) (j := 2) rfl rfl).1, (V.out.box_at (i := 3) (j := 2) rfl rfl).2.2⟩, List.forall_mem_cons.2 ⟨⟨(V.out.box_at (i := 3) (j := 3) rfl rfl).1, (V.out.box_at (i := 3) (j := 3) rfl rfl).2.2⟩, List.forall_mem_cons.2 ⟨⟨(V.out.box_at (i := 2) (j := 0) rfl rfl).1, (V.out.box_at (i := 2) (j := 0) rfl rfl).2.2⟩, List.forall_mem_cons.2 ⟨⟨(V.out.box_at (i := 2) (j := 1) rfl rfl).1, (V.out.box_at (i := 2) (j := 1) rfl rfl).2.2⟩, List.forall_mem_cons.2 ⟨⟨(V.out.box_at (i := 2) (j := 2) rfl rfl).1, (V.out.box_at (i := 2) (j := 2) rfl rfl).2.2⟩, List.forall_mem_cons.2 ⟨⟨(V.out.box_at (i := 2) (j := 3) rfl rfl).1, (V.out.box_at (i := 2) (j := 3) rfl rfl).2.2⟩, List.forall_mem_cons.2 ⟨⟨(V.out.box_at (i := 1) (j := 0) rfl rfl).1, (V.out.box_at (i := 1) (j := 0) rfl rfl).2.2⟩, List.forall_mem_cons.2 ⟨⟨(V.out.box_at (i := 1) (j := 1) rfl rfl).1, (V.out.box_at (i := 1) (j := 1) rfl rfl).2.2⟩, fun _ h => by simp at h⟩⟩⟩⟩⟩⟩⟩⟩⟩⟩
  refine wp_region_held_drew (S := Keep _) (by kernel_rfl) hKp.drew (fun hHeld => ?_)
  have Vd := Lib.hid (V.out.go (bdrew _))
  refine tk 0 ?_ rfl ?_ ?_; rotate_left
  · intro wl hSw
    have hSw : Keep _ wl := hSw
    have k0 : wl.cell? ⟨w.heap.size, 0, none⟩ = some (.int .i64 A.lt) := (hSw _ (.head _)).1
    have k1 : wl.cell? ⟨w.heap.size, 1, none⟩ = some (.int .i64 A.st) := (hSw _ (.tail _ (.head _))).1
    have k2 : wl.cell? ⟨w.heap.size, 2, none⟩ = some (.slice x.A x.n x.c) := (hSw _ (.tail _ (.tail _ (.head _)))).1
    have k3 : wl.cell? ⟨w.heap.size, 3, none⟩ = some (.slice x.B x.m x.d) := (hSw _ (.tail _ (.tail _ (.tail _ (.head _))))).1
    clear hSw
    go_simp
    try (with_reducible rfl)
  try simp only [Act.put, sA, sZ, sS]
  refine tk 1 ?_ rfl ?_ ?_; rotate_left; focus (intro w hSw; clear hSw; go_simp; try (with_reducible rfl))
  try simp only [Act.put, sA, sZ, sS]
  refine tk 2 ?_ rfl ?_ ?_; rotate_left
  · intro wl hSw
    have hSw : Keep _ wl := hSw
    have k0 : wl.cell? ⟨w.heap.size + 1 + 1, 0, none⟩ = some (.int .i64 p1) := (hSw _ (.tail _ (.tail _ (.tail _ (.tail _ (.tail _ (.tail _ (.tail _ (.tail _ (.head _)))))))))).1
    clear hSw
    go_simp
    try (with_reducible rfl)
  try simp only [Act.put, sA, sZ, sS]
  refine tk 3 ?_ rfl ?_ ?_; rotate_left; focus (intro w hSw; clear hSw; go_simp; try (with_reducible rfl))
  try simp only [Act.put, sA, sZ, sS]
  refine tk 5 ?_ rfl ?_ ?_; rotate_left
  · intro wl hSw
    have hSw : Keep _ wl := hSw
    have k0 : wl.cell? ⟨w.heap.size + 1, 0, none⟩ = some (.int .i64 B.lt) := (hSw _ (.tail _ (.tail _ (.tail _ (.tail _ (.head _)))))).1
    have k1 : wl.cell? ⟨w.heap.size + 1, 1, none⟩ = some (.int .i64 B.st) := (hSw _ (.tail _ (.tail _ (.tail _ (.tail _ (.tail _ (.head _))))))).1
    have k2 : wl.cell? ⟨w.heap.size + 1, 2, none⟩ = some (.slice y.A y.n y.c) := (hSw _ (.tail _ (.tail _ (.tail _ (.tail _ (.tail _ (.tail _ (.head _)))))))).1
    have k3 : wl.cell? ⟨w.heap.size + 1, 3, none⟩ = some (.slice y.B y.m y.d) := (hSw _ (.tail _ (.tail _ (.tail _ (.tail _ (.tail _ (.tail _ (.tail _ (.head _))))))))).1
    clear hSw
    go_simp
    try (with_reducible rfl)
  try simp only [Act.put, sA, sZ, sS]
  refine tk 6 ?_ rfl ?_ ?_; rotate_left; focus (intro w hSw; clear hSw; go_simp; try (with_reducible rfl))
  try simp only [Act.put, sA, sZ, sS]
  refine tk 7 ?_ rfl ?_ ?_; rotate_left
  · intro wl hSw
    have hSw : Keep _ wl := hSw
    have k0 : wl.cell? ⟨w.heap.size + 1 + 1, 1, none⟩ = some (.int .i64 p2) := (hSw _ (.tail _ (.tail _ (.tail _ (.tail _ (.tail _ (.tail _ (.tail _ (.tail _ (.tail _ (.head _))))))))))).1
    clear hSw
    go_simp
    try (with_reducible rfl)
  try simp only [Act.put, sA, sZ, sS]
  refine tk 8 ?_ rfl ?_ ?_; rotate_left; focus (intro w hSw; clear hSw; go_simp; try (with_reducible rfl))
  try simp only [Act.put, sA, sZ, sS]
  refine wpAnyH_ready (rs := [4]) (by kernel_rfl) (by simp) ?_
  refine AllReadyH.cons (List.getElem?_toArray.trans rfl) (fun K hK => ?_) AllReadyH.nil
  go_simp
  refine ((HA.out.below Vd.out.below).follow _ _ HP.out.1.1 HP.out.1.2 hc).mono ?_
  rintro e w_4 ⟨rfl, b_4⟩
  try go_wp2_with fail
  have V_4 := Lib.hid (Vd.out.go b_4)
  refine hK.out _ _ (hHeld.go b_4) (fun hHeld => ?_)
  clear hK K
  try simp only [Act.put, sA, sZ, sS]
  refine wpAnyH_ready (rs := [9]) (by kernel_rfl) (by simp) ?_
  refine AllReadyH.cons (List.getElem?_toArray.trans rfl) (fun K hK => ?_) AllReadyH.nil
  go_simp
  refine ((HB.out.below V_4.out.below).follow _ _ HP.out.2.1 HP.out.2.2 hc).mono ?_
  rintro e w_4_9 ⟨rfl, b_4_9⟩
  try go_wp2_with fail
  have V_4_9 := Lib.hid (V_4.out.go b_4_9)
  refine hK.out _ _ (hHeld.go b_4_9) (fun hHeld => ?_)
  clear hK K
  try simp only [Act.put, sA, sZ, sS]
  refine tk 10 ?_ rfl ?_ ?_; rotate_left; focus (intro w hSw; clear hSw; go_simp; try (with_reducible rfl))
  try simp only [Act.put, sA, sZ, sS]
  refine wpAnyH_ready (rs := [11]) (by kernel_rfl) (by simp) ?_
  refine AllReadyH.cons (List.getElem?_toArray.trans rfl) (fun K hK => ?_) AllReadyH.nil
  obtain ⟨r0, o0, _⟩ := V_4_9.out.box_at (i := 0) (j := 0) rfl rfl
  obtain ⟨r1, o1, _⟩ := V_4_9.out.box_at (i := 0) (j := 1) rfl rfl
  have VE := Lib.hid ((V_4_9.out.box_set (i := 0) rfl 0 (.int .i64 (A.go p1 c))).box_set (i := 0) rfl 1 (.int .i64 (B.go p2 c)))
  go_simp
  refine hK.out _ _ (((hHeld.set _ _ _ (List.forall_mem_cons.2 ⟨(by show ¬ w.heap.size = w.heap.size + 1 + 1 + 1; omega), List.forall_mem_cons.2 ⟨(by show ¬ w.heap.size = w.heap.size + 1 + 1 + 1; omega), List.forall_mem_cons.2 ⟨(by show ¬ w.heap.size = w.heap.size + 1 + 1 + 1; omega), List.forall_mem_cons.2 ⟨(by show ¬ w.heap.size = w.heap.size + 1 + 1 + 1; omega), List.forall_mem_cons.2 ⟨(by show ¬ w.heap.size + 1 = w.heap.size + 1 + 1 + 1; omega), List.forall_mem_cons.2 ⟨(by show ¬ w.heap.size + 1 = w.heap.size + 1 + 1 + 1; omega), List.forall_mem_cons.2 ⟨(by show ¬ w.heap.size + 1 = w.heap.size + 1 + 1 + 1; omega), List.forall_mem_cons.2 ⟨(by show ¬ w.heap.size + 1 = w.heap.size + 1 + 1 + 1; omega), List.forall_mem_cons.2 ⟨(by show ¬ w.heap.size + 1 + 1 = w.heap.size + 1 + 1 + 1; omega), List.forall_mem_cons.2 ⟨(by show ¬ w.heap.size + 1 + 1 = w.heap.size + 1 + 1 + 1; omega), fun _ h => by simp at h⟩⟩⟩⟩⟩⟩⟩⟩⟩⟩)).set _ _ _ (List.forall_mem_cons.2 ⟨(by show ¬ w.heap.size = w.heap.size + 1 + 1 + 1; omega), List.forall_mem_cons.2 ⟨(by show ¬ w.heap.size = w.heap.size + 1 + 1 + 1; omega), List.forall_mem_cons.2 ⟨(by show ¬ w.heap.size = w.heap.size + 1 + 1 + 1; omega), List.forall_mem_cons.2 ⟨(by show ¬ w.heap.size = w.heap.size + 1 + 1 + 1; omega), List.forall_mem_cons.2 ⟨(by show ¬ w.heap.size + 1 = w.heap.size + 1 + 1 + 1; omega), List.forall_mem_cons.2 ⟨(by show ¬ w.heap.size + 1 = w.heap.size + 1 + 1 + 1; omega), List.forall_mem_cons.2 ⟨(by show ¬ w.heap.size + 1 = w.heap.size + 1 + 1 + 1; omega), List.forall_mem_cons.2 ⟨(by show ¬ w.heap.size + 1 = w.heap.size + 1 + 1 + 1; omega), List.forall_mem_cons.2 ⟨(by show ¬ w.heap.size + 1 + 1 = w.heap.size + 1 + 1 + 1; omega), List.forall_mem_cons.2 ⟨(by show ¬ w.heap.size + 1 + 1 = w.heap.size + 1 + 1 + 1; omega), fun _ h => by simp at h⟩⟩⟩⟩⟩⟩⟩⟩⟩⟩))) (fun hHeld => ?_)
  clear hK K
  try simp only [Act.put, sA, sZ, sS]
  refine wpAnyH_done (by kernel_rfl) ?_ _
  obtain ⟨q0, _, _⟩ := VE.out.box_at (i := 0) (j := 0) rfl rfl
  obtain ⟨q1, _, _⟩ := VE.out.box_at (i := 0) (j := 1) rfl rfl
  go_wp2_with fail
  exact bodyPost_ret (v := .agg #[.int .i64 (A.go p1 c), .int .i64 (B.go p2 c)]) (by simp [results, Try.results35, go_sem, q0, q1]) rfl ⟨rfl, VE.out.below⟩
theorem at_bounds {A B : Au} {p1 p2 : Int} (hp : in2 A B (p1, p2)) (hA : A.n ≤ 1000000) (hB : B.n ≤ 1000000) : 0 ≤ (p1 + 1) * ((B.n : Int) + 1) ∧ (p1 + 1) * ((B.n : Int) + 1) ≤ 2000000000000 := by
  obtain ⟨⟨h1, h2⟩, _⟩ := hp
  have h1 : -1 ≤ p1 := h1
  have h2 : p1 < A.n := h2
  refine ⟨Int.mul_nonneg (by omega) (by omega), ?_⟩
  have a := Int.mul_le_mul (show p1 + 1 ≤ 1000000 by omega) (show (B.n : Int) + 1 ≤ 1000001 by omega) (by omega) (by decide)
  omega
set_option maxHeartbeats 1000000 in
theorem at_any (A B : Au) (p1 p2 : Int) (wd : Int) (I : Option Addr) (n c : Nat) (w : World) (hw : wd = (B.n : Int) + 1) (hp : in2 A B (p1, p2)) (hA : A.n ≤ 1000000) (hB : B.n ≤ 1000000) :
    Calls Try.prog 54 #[.agg #[.int .i64 wd, .slice I n c], .agg #[.int .i64 p1, .int .i64 p2]] w fun e w' => e = .returned (.int .i64 (pl2 B (p1, p2))) ∧ Below w.heap.size w w' := by
  have HE := Lib.hid (pl2_int hp)
  obtain ⟨b1, b2⟩ := at_bounds hp hA hB
  obtain ⟨⟨h1, h2⟩, h3, h4⟩ := hp
  have h1 : -1 ≤ p1 := h1
  have h2 : p1 < A.n := h2
  have h3 : -1 ≤ p2 := h3
  have h4 : p2 < B.n := h4
  have hw1 : 1 ≤ wd := by omega
  have hw2 : wd ≤ 1000001 := by omega
  rw [← hw] at HE b1 b2
  clear hw
  go_enter Try.func54, Try.ntmps54
  go_wp2
  go_ret
  exact ⟨ret_int HE.out, btwo (bnew _ _) (bnew _ _)⟩
theorem Tab2.lt {A B : Au} {l : List (Int × Int)} {tab : List Int} {p : Int × Int} (h : Tab2 A B l tab) (hp : in2 A B p) : pl2 B p < tab.length := by rw [h.len]; exact pl2_lt hp
theorem Tab2.small {A B : Au} {l : List (Int × Int)} {tab : List Int} (h : Tab2 A B l tab) (hA : A.n ≤ 1000000) (hB : B.n ≤ 1000000) : tab.length ≤ 2000000000000 := by
  rw [h.len]
  have := Nat.mul_le_mul (show A.n + 1 ≤ 1000001 by omega) (show B.n + 1 ≤ 1000001 by omega)
  omega
set_option maxHeartbeats 2000000 in
theorem get_any (A B : Au) (p1 p2 : Int) (wd : Int) (I : Option Addr) (n c : Nat) (l : List (Int × Int)) (tab : List Int) (w : World) (hw : wd = (B.n : Int) + 1) (hp : in2 A B (p1, p2)) (hA : A.n ≤ 1000000) (hB : B.n ≤ 1000000) (ht : Tab2 A B l tab) (hn : tab.length = n) (hI : CellsIn w I (ints tab)) (hv : ∀ x ∈ tab, 0 ≤ x ∧ x ≤ 2000000000001) :
    Calls Try.prog 46 #[.agg #[.int .i64 wd, .slice I n c], .agg #[.int .i64 p1, .int .i64 p2]] w fun e w' => e = .returned (.int .i64 (tab.getD (pl2 B (p1, p2)) 0 - 1)) ∧ Below w.heap.size w w' := by
  have hlt := ht.lt hp
  have hsm := ht.small hA hB
  obtain ⟨q, hq⟩ : ∃ q, q = pl2 B (p1, p2) := ⟨_, rfl⟩
  obtain ⟨b, off, rfl, hb, hcell⟩ := hI.int (j := q) (by omega)
  obtain ⟨v, hvq⟩ : ∃ v, v = tab.getD q 0 := ⟨_, rfl⟩
  rw [← hvq] at hcell
  have hv2 := hv v (by rw [hvq, getD_at (by omega)]; exact List.getElem_mem _)
  have hv0 := hv2.1
  have hv1 := hv2.2
  obtain ⟨wz, hwz⟩ : ∃ z, z = (w.alloc (.cells #[.int .i64 wd, .slice (some ⟨b, off, none⟩) n c] 65)).alloc (.cells #[.int .i64 p1, .int .i64 p2] 35) := ⟨_, rfl⟩
  have V := Lib.hid (show Hp w [box 35 (w.heap.size + 1) [.int .i64 p1, .int .i64 p2], box 65 w.heap.size [.int .i64 wd, .slice (some ⟨b, off, none⟩) n c]] wz by
    have := ((Hp.start w).box_new 65 [.int .i64 wd, .slice (some ⟨b, off, none⟩) n c]).box_new 35 [.int .i64 p1, .int .i64 p2]
    rw [hwz]; simpa using this)
  have HZ := Lib.hid hwz
  have HP := Lib.hid hp
  have HW := Lib.hid hw
  have hqn : q < n := by omega
  have hn2 : n ≤ 2000000000000 := by omega
  have HR := Lib.hid (show tab.getD (pl2 B (p1, p2)) 0 - 1 = v - 1 by rw [← hq, ← hvq])
  have HQ := Lib.hid hq
  have hwr : IntKind.i64.wrap (v - 1) = v - 1 := IntWalk.i64_in _ (by omega)
  clear hwz hp hw hI hv hlt hsm hq hvq ht hn hv2
  have hlt := Nat.lt_of_lt_of_le hb V.out.below.size
  have hcell := (V.out.below.cell (p := ⟨b, off + q, none⟩) hb).trans hcell
  go_enter Try.func46, Try.ntmps46
  go_upto_region 1 with fail
  rw [← HZ.out]
  have hKp : Keep [(⟨w.heap.size, 0, none⟩, .int .i64 wd), (⟨w.heap.size, 1, none⟩, .slice (some ⟨b, off, none⟩) n c), (⟨w.heap.size + 1, 0, none⟩, .int .i64 p1), (⟨w.heap.size + 1, 1, none⟩, .int .i64 p2), (⟨b, off + q, none⟩, .int .i64 v)] wz := List.forall_mem_cons.2 ⟨⟨(V.out.box_at (i := 1) (j := 0) rfl rfl).1, (V.out.box_at (i := 1) (j := 0) rfl rfl).2.2⟩, List.forall_mem_cons.2 ⟨⟨(V.out.box_at (i := 1) (j := 1) rfl rfl).1, (V.out.box_at (i := 1) (j := 1) rfl rfl).2.2⟩, List.forall_mem_cons.2 ⟨⟨(V.out.box_at (i := 0) (j := 0) rfl rfl).1, (V.out.box_at (i := 0) (j := 0) rfl rfl).2.2⟩, List.forall_mem_cons.2 ⟨⟨(V.out.box_at (i := 0) (j := 1) rfl rfl).1, (V.out.box_at (i := 0) (j := 1) rfl rfl).2.2⟩, List.forall_mem_cons.2 ⟨⟨hcell, hlt⟩, fun _ h => by simp at h⟩⟩⟩⟩⟩
  refine wp_region_held_drew (S := Keep _) (by kernel_rfl) hKp.drew (fun hHeld => ?_)
  have Vd := Lib.hid (V.out.go (bdrew _))
  refine tk 0 ?_ rfl ?_ ?_; rotate_left; focus (intro w hSw; clear hSw; go_simp; try (with_reducible rfl))
  try simp only [Act.put, sA, sZ, sS]
  refine tk 1 ?_ rfl ?_ ?_; rotate_left
  · intro wl hSw
    have hSw : Keep _ wl := hSw
    have k0 : wl.cell? ⟨w.heap.size, 1, none⟩ = some (.slice (some ⟨b, off, none⟩) n c) := (hSw _ (.tail _ (.head _))).1
    clear hSw
    go_simp
    try (with_reducible rfl)
  try simp only [Act.put, sA, sZ, sS]
  refine tk 2 ?_ rfl ?_ ?_; rotate_left
  · intro wl hSw
    have hSw : Keep _ wl := hSw
    have k0 : wl.cell? ⟨w.heap.size, 0, none⟩ = some (.int .i64 wd) := (hSw _ (.head _)).1
    have k1 : wl.cell? ⟨w.heap.size, 1, none⟩ = some (.slice (some ⟨b, off, none⟩) n c) := (hSw _ (.tail _ (.head _))).1
    clear hSw
    go_simp
    try (with_reducible rfl)
  try simp only [Act.put, sA, sZ, sS]
  refine tk 3 ?_ rfl ?_ ?_; rotate_left
  · intro wl hSw
    have hSw : Keep _ wl := hSw
    have k0 : wl.cell? ⟨w.heap.size + 1, 0, none⟩ = some (.int .i64 p1) := (hSw _ (.tail _ (.tail _ (.head _)))).1
    have k1 : wl.cell? ⟨w.heap.size + 1, 1, none⟩ = some (.int .i64 p2) := (hSw _ (.tail _ (.tail _ (.tail _ (.head _))))).1
    clear hSw
    go_simp
    try (with_reducible rfl)
  try simp only [Act.put, sA, sZ, sS]
  refine wpAnyH_ready (rs := [4]) (by kernel_rfl) (by simp) ?_
  refine AllReadyH.cons (List.getElem?_toArray.trans rfl) (fun K hK => ?_) AllReadyH.nil
  go_simp
  refine (at_any A B p1 p2 wd _ n c _ HW.out HP.out hA hB).mono ?_
  rintro e w_4 ⟨rfl, b_4⟩
  try go_wp2_with fail
  rw [← HQ.out]
  have V_4 := Lib.hid (Vd.out.go b_4)
  refine hK.out _ _ (hHeld.go b_4) (fun hHeld => ?_)
  clear hK K
  try simp only [Act.put, sA, sZ, sS]
  refine tk 5 ?_ rfl ?_ ?_; rotate_left; focus (intro w hSw; clear hSw; go_simp; try (with_reducible rfl))
  try simp only [Act.put, sA, sZ, sS]
  refine tk 6 ?_ rfl ?_ ?_; rotate_left
  · intro wl hSw
    have hSw : Keep _ wl := hSw
    have k0 : wl.cell? ⟨b, off + q, none⟩ = some (.int .i64 v) := (hSw _ (.tail _ (.tail _ (.tail _ (.tail _ (.head _)))))).1
    clear hSw
    go_simp
    try (with_reducible rfl)
  try simp only [Act.put, sA, sZ, sS]
  refine tk 7 ?_ rfl ?_ ?_; rotate_left; focus (intro w hSw; clear hSw; go_simp; try (with_reducible rfl))
  try simp only [Act.put, sA, sZ, sS]
  refine tk 8 ?_ rfl ?_ ?_; rotate_left; focus (intro w hSw; clear hSw; go_simp; try (with_reducible rfl))
  try simp only [Act.put, sA, sZ, sS]
  refine wpAnyH_done (by kernel_rfl) ?_ _
  go_wp2_with fail
  go_ret
  exact ⟨ret_int HR.out.symm, V_4.out.below⟩
/-- The values of a table are small. -/
def Sml (tab : List Int) : Prop := ∀ x ∈ tab, 0 ≤ x ∧ x ≤ 2000000000001
theorem Sml.set {tab : List Int} (h : Sml tab) (j : Nat) {x : Int} (h0 : 0 ≤ x) (h1 : x ≤ 2000000000001) : Sml (tab.set j x) := by
  intro y hy
  rcases List.mem_or_eq_of_mem_set hy with e | rfl
  · exact h y e
  · exact ⟨h0, h1⟩
theorem Sml.zeros (n : Nat) : Sml (List.replicate n 0) := fun x hx => by rw [(List.mem_replicate.1 hx).2]; omega
/-- Does the table know the pair? -/
def knw (B : Au) (tab : List Int) (p : Int × Int) : Bool := decide (p = (-1, -1)) || decide (tab.getD (pl2 B p) 0 ≠ 0)
set_option maxHeartbeats 2000000 in
theorem knows_no (A B : Au) (p1 p2 : Int) (wd : Int) (I : Option Addr) (n c : Nat) (l : List (Int × Int)) (tab : List Int) (w : World) (hw : wd = (B.n : Int) + 1) (hp : in2 A B (p1, p2)) (hA : A.n ≤ 1000000) (hB : B.n ≤ 1000000) (ht : Tab2 A B l tab) (hn : tab.length = n) (hI : CellsIn w I (ints tab)) (hv : Sml tab) (hno : p1 = -1 ∧ p2 = -1) :
    Calls Try.prog 34 #[.agg #[.int .i64 wd, .slice I n c], .agg #[.int .i64 p1, .int .i64 p2]] w fun e w' => e = .returned (.bool (knw B tab (p1, p2))) ∧ Below w.heap.size w w' := by
  obtain ⟨wz, hwz⟩ : ∃ z, z = (w.alloc (.cells #[.int .i64 wd, .slice I n c] 65)).alloc (.cells #[.int .i64 p1, .int .i64 p2] 35) := ⟨_, rfl⟩
  have V := Lib.hid (show Hp w [box 35 (w.heap.size + 1) [.int .i64 p1, .int .i64 p2], box 65 w.heap.size [.int .i64 wd, .slice I n c]] wz by
    have := ((Hp.start w).box_new 65 [.int .i64 wd, .slice I n c]).box_new 35 [.int .i64 p1, .int .i64 p2]
    rw [hwz]; simpa using this)
  have HZ := Lib.hid hwz
  have HP := Lib.hid hp
  have HW := Lib.hid hw
  have HN := Lib.hid hn
  have HT := Lib.hid ht
  have HI := Lib.hid hI
  have HV := Lib.hid hv
  obtain ⟨rfl, rfl⟩ := hno
  have HR := Lib.hid (show knw B tab (-1, -1) = true by simp [knw])
  clear hwz hp hw hn ht hI hv 
  go_enter Try.func34, Try.ntmps34
  go_upto_region 1 with fail
  rw [← HZ.out]
  have hKp : Keep [(⟨w.heap.size + 1, 0, none⟩, .int .i64 (-1)), (⟨w.heap.size + 1, 1, none⟩, .int .i64 (-1)), (⟨w.heap.size, 0, none⟩, .int .i64 wd), (⟨w.heap.size, 1, none⟩, .slice I n c)] wz := List.forall_mem_cons.2 ⟨⟨(V.out.box_at (i := 0) (j := 0) rfl rfl).1, (V.out.box_at (i := 0) (j := 0) rfl rfl).2.2⟩, List.forall_mem_cons.2 ⟨⟨(V.out.box_at (i := 0) (j := 1) rfl rfl).1, (V.out.box_at (i := 0) (j := 1) rfl rfl).2.2⟩, List.forall_mem_cons.2 ⟨⟨(V.out.box_at (i := 1) (j := 0) rfl rfl).1, (V.out.box_at (i := 1) (j := 0) rfl rfl).2.2⟩, List.forall_mem_cons.2 ⟨⟨(V.out.box_at (i := 1) (j := 1) rfl rfl).1, (V.out.box_at (i := 1) (j := 1) rfl rfl).2.2⟩, fun _ h => by simp at h⟩⟩⟩⟩
  refine wp_region_held_drew (S := Keep _) (by kernel_rfl) hKp.drew (fun hHeld => ?_)
  have Vd := Lib.hid (V.out.go (bdrew _))
  refine tk 0 ?_ rfl ?_ ?_; rotate_left
  · intro wl hSw
    have hSw : Keep _ wl := hSw
    have k0 : wl.cell? ⟨w.heap.size + 1, 0, none⟩ = some (.int .i64 (-1)) := (hSw _ (.head _)).1
    have k1 : wl.cell? ⟨w.heap.size + 1, 1, none⟩ = some (.int .i64 (-1)) := (hSw _ (.tail _ (.head _))).1
    clear hSw
    go_simp
    try (with_reducible rfl)
  try simp only [Act.put, sA, sZ, sS]
  refine wpAnyH_ready (rs := [1]) (by kernel_rfl) (by simp) ?_
  refine AllReadyH.cons (List.getElem?_toArray.trans rfl) (fun K hK => ?_) AllReadyH.nil
  go_simp
  refine (nowhere_any _).mono ?_
  rintro e w_1 ⟨rfl, b_1⟩
  try go_wp2_with fail
  have V_1 := Lib.hid (Vd.out.go b_1)
  refine hK.out _ _ (hHeld.go b_1) (fun hHeld => ?_)
  clear hK K
  try simp only [Act.put, sA, sZ, sS]
  refine tk 2 ?_ rfl ?_ ?_; rotate_left; focus (intro w hSw; clear hSw; go_simp; try (with_reducible rfl))
  try simp only [Act.put, sA, sZ, sS]
  refine tk 3 ?_ rfl ?_ ?_; rotate_left; focus (intro w hSw; clear hSw; go_simp; try (with_reducible rfl))
  try simp only [Act.put, sA, sZ, sS]
  refine tu 4 rfl ?_
  try simp only [Act.put, sA, sZ, sS]
  refine tu 5 rfl ?_
  try simp only [Act.put, sA, sZ, sS]
  refine tu 6 rfl ?_
  try simp only [Act.put, sA, sZ, sS]
  refine tu 7 rfl ?_
  try simp only [Act.put, sA, sZ, sS]
  refine tk 8 ?_ rfl ?_ ?_; rotate_left; focus (intro w hSw; clear hSw; go_simp; try (with_reducible rfl))
  try simp only [Act.put, sA, sZ, sS]
  refine tk 9 ?_ rfl ?_ ?_; rotate_left; focus (intro w hSw; clear hSw; go_simp; try (with_reducible rfl))
  try simp only [Act.put, sA, sZ, sS]
  refine wpAnyH_done (by kernel_rfl) ?_ _
  go_wp2_with fail
  go_ret
  exact ⟨ret_bool HR.out.symm, V_1.out.below⟩
set_option maxHeartbeats 2000000 in
theorem knows_is (A B : Au) (p1 p2 : Int) (wd : Int) (I : Option Addr) (n c : Nat) (l : List (Int × Int)) (tab : List Int) (w : World) (hw : wd = (B.n : Int) + 1) (hp : in2 A B (p1, p2)) (hA : A.n ≤ 1000000) (hB : B.n ≤ 1000000) (ht : Tab2 A B l tab) (hn : tab.length = n) (hI : CellsIn w I (ints tab)) (hv : Sml tab) (hno : ¬ (p1 = -1 ∧ p2 = -1)) :
    Calls Try.prog 34 #[.agg #[.int .i64 wd, .slice I n c], .agg #[.int .i64 p1, .int .i64 p2]] w fun e w' => e = .returned (.bool (knw B tab (p1, p2))) ∧ Below w.heap.size w w' := by
  obtain ⟨wz, hwz⟩ : ∃ z, z = (w.alloc (.cells #[.int .i64 wd, .slice I n c] 65)).alloc (.cells #[.int .i64 p1, .int .i64 p2] 35) := ⟨_, rfl⟩
  have V := Lib.hid (show Hp w [box 35 (w.heap.size + 1) [.int .i64 p1, .int .i64 p2], box 65 w.heap.size [.int .i64 wd, .slice I n c]] wz by
    have := ((Hp.start w).box_new 65 [.int .i64 wd, .slice I n c]).box_new 35 [.int .i64 p1, .int .i64 p2]
    rw [hwz]; simpa using this)
  have HZ := Lib.hid hwz
  have HP := Lib.hid hp
  have HW := Lib.hid hw
  have HN := Lib.hid hn
  have HT := Lib.hid ht
  have HI := Lib.hid hI
  have HV := Lib.hid hv
  have HE3 := Lib.hid (show ∀ (X Y : Result Next), (if p1 = -1 then (if p2 = -1 then X else Y) else Y) = Y by
    intro X Y
    split
    · split
      · rename_i a b; exact absurd ⟨a, b⟩ hno
      · rfl
    · rfl)
  have HR := Lib.hid (show knw B tab (p1, p2) = (tab.getD (pl2 B (p1, p2)) 0 - 1 != -1) by
    unfold knw
    rw [decide_eq_false (by intro e; injection e with e1 e2; exact hno ⟨e1, e2⟩), Bool.false_or, Bool.eq_iff_iff]; simp; omega)
  clear hwz hp hw hn ht hI hv hno
  go_enter Try.func34, Try.ntmps34
  go_upto_region 1 with fail
  rw [← HZ.out]
  have hKp : Keep [(⟨w.heap.size + 1, 0, none⟩, .int .i64 p1), (⟨w.heap.size + 1, 1, none⟩, .int .i64 p2), (⟨w.heap.size, 0, none⟩, .int .i64 wd), (⟨w.heap.size, 1, none⟩, .slice I n c)] wz := List.forall_mem_cons.2 ⟨⟨(V.out.box_at (i := 0) (j := 0) rfl rfl).1, (V.out.box_at (i := 0) (j := 0) rfl rfl).2.2⟩, List.forall_mem_cons.2 ⟨⟨(V.out.box_at (i := 0) (j := 1) rfl rfl).1, (V.out.box_at (i := 0) (j := 1) rfl rfl).2.2⟩, List.forall_mem_cons.2 ⟨⟨(V.out.box_at (i := 1) (j := 0) rfl rfl).1, (V.out.box_at (i := 1) (j := 0) rfl rfl).2.2⟩, List.forall_mem_cons.2 ⟨⟨(V.out.box_at (i := 1) (j := 1) rfl rfl).1, (V.out.box_at (i := 1) (j := 1) rfl rfl).2.2⟩, fun _ h => by simp at h⟩⟩⟩⟩
  refine wp_region_held_drew (S := Keep _) (by kernel_rfl) hKp.drew (fun hHeld => ?_)
  have Vd := Lib.hid (V.out.go (bdrew _))
  refine tk 0 ?_ rfl ?_ ?_; rotate_left
  · intro wl hSw
    have hSw : Keep _ wl := hSw
    have k0 : wl.cell? ⟨w.heap.size + 1, 0, none⟩ = some (.int .i64 p1) := (hSw _ (.head _)).1
    have k1 : wl.cell? ⟨w.heap.size + 1, 1, none⟩ = some (.int .i64 p2) := (hSw _ (.tail _ (.head _))).1
    clear hSw
    go_simp
    try (with_reducible rfl)
  try simp only [Act.put, sA, sZ, sS]
  refine wpAnyH_ready (rs := [1]) (by kernel_rfl) (by simp) ?_
  refine AllReadyH.cons (List.getElem?_toArray.trans rfl) (fun K hK => ?_) AllReadyH.nil
  go_simp
  refine (nowhere_any _).mono ?_
  rintro e w_1 ⟨rfl, b_1⟩
  try go_wp2_with fail
  have V_1 := Lib.hid (Vd.out.go b_1)
  refine hK.out _ _ (hHeld.go b_1) (fun hHeld => ?_)
  clear hK K
  try simp only [Act.put, sA, sZ, sS]
  refine tk 2 ?_ rfl ?_ ?_; rotate_left
  · intro w hSw; clear hSw; go_simp; exact HE3.out _ _
  try simp only [Act.put, sA, sZ, sS]
  refine tk 3 ?_ rfl ?_ ?_; rotate_left; focus (intro w hSw; clear hSw; go_simp; try (with_reducible rfl))
  try simp only [Act.put, sA, sZ, sS]
  refine tk 4 ?_ rfl ?_ ?_; rotate_left
  · intro wl hSw
    have hSw : Keep _ wl := hSw
    have k0 : wl.cell? ⟨w.heap.size, 0, none⟩ = some (.int .i64 wd) := (hSw _ (.tail _ (.tail _ (.head _)))).1
    have k1 : wl.cell? ⟨w.heap.size, 1, none⟩ = some (.slice I n c) := (hSw _ (.tail _ (.tail _ (.tail _ (.head _))))).1
    clear hSw
    go_simp
    try (with_reducible rfl)
  try simp only [Act.put, sA, sZ, sS]
  refine tk 5 ?_ rfl ?_ ?_; rotate_left
  · intro wl hSw
    have hSw : Keep _ wl := hSw
    have k0 : wl.cell? ⟨w.heap.size + 1, 0, none⟩ = some (.int .i64 p1) := (hSw _ (.head _)).1
    have k1 : wl.cell? ⟨w.heap.size + 1, 1, none⟩ = some (.int .i64 p2) := (hSw _ (.tail _ (.head _))).1
    clear hSw
    go_simp
    try (with_reducible rfl)
  try simp only [Act.put, sA, sZ, sS]
  refine wpAnyH_ready (rs := [6]) (by kernel_rfl) (by simp) ?_
  refine AllReadyH.cons (List.getElem?_toArray.trans rfl) (fun K hK => ?_) AllReadyH.nil
  go_simp
  refine (get_any A B p1 p2 wd I n c l tab _ HW.out HP.out hA hB HT.out HN.out (HI.out.below V_1.out.below) HV.out).mono ?_
  rintro e w_1_6 ⟨rfl, b_1_6⟩
  try go_wp2_with fail
  have V_1_6 := Lib.hid (V_1.out.go b_1_6)
  refine hK.out _ _ (hHeld.go b_1_6) (fun hHeld => ?_)
  clear hK K
  try simp only [Act.put, sA, sZ, sS]
  refine tk 7 ?_ rfl ?_ ?_; rotate_left; focus (intro w hSw; clear hSw; go_simp; try (with_reducible rfl))
  try simp only [Act.put, sA, sZ, sS]
  refine tk 8 ?_ rfl ?_ ?_; rotate_left; focus (intro w hSw; clear hSw; go_simp; try (with_reducible rfl))
  try simp only [Act.put, sA, sZ, sS]
  refine tk 9 ?_ rfl ?_ ?_; rotate_left; focus (intro w hSw; clear hSw; go_simp; try (with_reducible rfl))
  try simp only [Act.put, sA, sZ, sS]
  refine wpAnyH_done (by kernel_rfl) ?_ _
  go_wp2_with fail
  go_ret
  exact ⟨ret_bool HR.out.symm, V_1_6.out.below⟩
set_option maxHeartbeats 2000000 in
theorem put_any (A B : Au) (p1 p2 : Int) (wd x : Int) (gt n c : Nat) (ps : List (Int × Int)) (tab : List Int) (W w : World) (l : List Itm) (i : Nat) (hw : wd = (B.n : Int) + 1) (hp : in2 A B (p1, p2)) (hA : A.n ≤ 1000000) (hB : B.n ≤ 1000000) (ht : Tab2 A B ps tab)
    (h0 : 0 ≤ x) (h1 : x ≤ 2000000000000) (h : Hp W l w) (hi : l[i]? = some (nums (some ⟨gt, 0, none⟩) n c tab)) :
    Calls Try.prog 33 #[.agg #[.int .i64 wd, .slice (some ⟨gt, 0, none⟩) n c], .agg #[.int .i64 p1, .int .i64 p2], .int .i64 x] w
      fun e w' => e = .returned (.tuple #[]) ∧ Hp W (l.set i (nums (some ⟨gt, 0, none⟩) n c (tab.set (pl2 B (p1, p2)) (x + 1)))) w' := by
  have hlt := ht.lt hp
  have hsm := ht.small hA hB
  have hn := h.num_len hi
  obtain ⟨q, hq⟩ : ∃ q, q = pl2 B (p1, p2) := ⟨_, rfl⟩
  obtain ⟨wz, hwz⟩ : ∃ z, z = (w.alloc (.cells #[.int .i64 wd, .slice (some ⟨gt, 0, none⟩) n c] 65)).alloc (.cells #[.int .i64 p1, .int .i64 p2] 35) := ⟨_, rfl⟩
  have V := Lib.hid (show Hp W (box 35 (w.heap.size + 1) [.int .i64 p1, .int .i64 p2] :: box 65 w.heap.size [.int .i64 wd, .slice (some ⟨gt, 0, none⟩) n c] :: l) wz by
    have := (h.box_new 65 [.int .i64 wd, .slice (some ⟨gt, 0, none⟩) n c]).box_new 35 [.int .i64 p1, .int .i64 p2]
    rw [hwz]; simpa using this)
  have HI := Lib.hid (show (box 35 (w.heap.size + 1) [.int .i64 p1, .int .i64 p2] :: box 65 w.heap.size [.int .i64 wd, .slice (some ⟨gt, 0, none⟩) n c] :: l)[i + 1 + 1]? = some (nums (some ⟨gt, 0, none⟩) n c tab) by simpa using hi)
  have hql : q < tab.length := by omega
  have hgt := (V.out.num_at HI.out hql).2.2
  have hg2 := (h.num_at hi hql).2.2
  have HZ := Lib.hid hwz
  have HP := Lib.hid hp
  have HW := Lib.hid hw
  have HQ := Lib.hid hq
  have hqn : q < n := by omega
  have hn2 : n ≤ 2000000000000 := by omega
  have hwr : IntKind.i64.wrap (x + 1) = x + 1 := IntWalk.i64_in _ (by omega)
  rw [← hq]
  clear hwz hp hw hlt hsm hn hq h hi ht
  go_enter Try.func33, Try.ntmps33
  go_upto_region 1 with fail
  rw [← HZ.out]
  have hKp : Keep [(⟨w.heap.size + 1, 0, none⟩, .int .i64 p1), (⟨w.heap.size + 1, 1, none⟩, .int .i64 p2), (⟨w.heap.size, 0, none⟩, .int .i64 wd), (⟨w.heap.size, 1, none⟩, .slice (some ⟨gt, 0, none⟩) n c)] wz := List.forall_mem_cons.2 ⟨⟨(V.out.box_at (i := 0) (j := 0) rfl rfl).1, (V.out.box_at (i := 0) (j := 0) rfl rfl).2.2⟩, List.forall_mem_cons.2 ⟨⟨(V.out.box_at (i := 0) (j := 1) rfl rfl).1, (V.out.box_at (i := 0) (j := 1) rfl rfl).2.2⟩, List.forall_mem_cons.2 ⟨⟨(V.out.box_at (i := 1) (j := 0) rfl rfl).1, (V.out.box_at (i := 1) (j := 0) rfl rfl).2.2⟩, List.forall_mem_cons.2 ⟨⟨(V.out.box_at (i := 1) (j := 1) rfl rfl).1, (V.out.box_at (i := 1) (j := 1) rfl rfl).2.2⟩, fun _ h => by simp at h⟩⟩⟩⟩
  refine wp_region_held_drew (S := Keep _) (by kernel_rfl) hKp.drew (fun hHeld => ?_)
  have Vd := Lib.hid (V.out.go (bdrew _))
  refine tk 0 ?_ rfl ?_ ?_; rotate_left; focus (intro w hSw; clear hSw; go_simp; try (with_reducible rfl))
  try simp only [Act.put, sA, sZ, sS]
  refine tk 1 ?_ rfl ?_ ?_; rotate_left
  · intro wl hSw
    have hSw : Keep _ wl := hSw
    have k0 : wl.cell? ⟨w.heap.size, 1, none⟩ = some (.slice (some ⟨gt, 0, none⟩) n c) := (hSw _ (.tail _ (.tail _ (.tail _ (.head _))))).1
    clear hSw
    go_simp
    try (with_reducible rfl)
  try simp only [Act.put, sA, sZ, sS]
  refine tk 2 ?_ rfl ?_ ?_; rotate_left
  · intro wl hSw
    have hSw : Keep _ wl := hSw
    have k0 : wl.cell? ⟨w.heap.size, 0, none⟩ = some (.int .i64 wd) := (hSw _ (.tail _ (.tail _ (.head _)))).1
    have k1 : wl.cell? ⟨w.heap.size, 1, none⟩ = some (.slice (some ⟨gt, 0, none⟩) n c) := (hSw _ (.tail _ (.tail _ (.tail _ (.head _))))).1
    clear hSw
    go_simp
    try (with_reducible rfl)
  try simp only [Act.put, sA, sZ, sS]
  refine tk 3 ?_ rfl ?_ ?_; rotate_left
  · intro wl hSw
    have hSw : Keep _ wl := hSw
    have k0 : wl.cell? ⟨w.heap.size + 1, 0, none⟩ = some (.int .i64 p1) := (hSw _ (.head _)).1
    have k1 : wl.cell? ⟨w.heap.size + 1, 1, none⟩ = some (.int .i64 p2) := (hSw _ (.tail _ (.head _))).1
    clear hSw
    go_simp
    try (with_reducible rfl)
  try simp only [Act.put, sA, sZ, sS]
  refine tk 5 ?_ rfl ?_ ?_; rotate_left; focus (intro w hSw; clear hSw; go_simp; try (with_reducible rfl))
  try simp only [Act.put, sA, sZ, sS]
  refine tk 6 ?_ rfl ?_ ?_; rotate_left; focus (intro w hSw; clear hSw; go_simp; try (with_reducible rfl))
  try simp only [Act.put, sA, sZ, sS]
  refine wpAnyH_ready (rs := [4]) (by kernel_rfl) (by simp) ?_
  refine AllReadyH.cons (List.getElem?_toArray.trans rfl) (fun K hK => ?_) AllReadyH.nil
  go_simp
  refine (at_any A B p1 p2 wd _ n c _ HW.out HP.out hA hB).mono ?_
  rintro e w_4 ⟨rfl, b_4⟩
  try go_wp2_with fail
  rw [← HQ.out]
  have V_4 := Lib.hid (Vd.out.go b_4)
  refine hK.out _ _ (hHeld.go b_4) (fun hHeld => ?_)
  clear hK K
  try simp only [Act.put, sA, sZ, sS]
  refine tk 7 ?_ rfl ?_ ?_; rotate_left; focus (intro w hSw; clear hSw; go_simp; try (with_reducible rfl))
  try simp only [Act.put, sA, sZ, sS]
  refine wpAnyH_ready (rs := [8]) (by kernel_rfl) (by simp) ?_
  refine AllReadyH.cons (List.getElem?_toArray.trans rfl) (fun K hK => ?_) AllReadyH.nil
  obtain ⟨r0, o0, z0⟩ := V_4.out.num_at HI.out hql
  have VE := Lib.hid (V_4.out.num_set HI.out q (x + 1))
  go_simp
  refine hK.out _ _ (hHeld.set _ _ _ (List.forall_mem_cons.2 ⟨(by show ¬ w.heap.size + 1 = gt; omega), List.forall_mem_cons.2 ⟨(by show ¬ w.heap.size + 1 = gt; omega), List.forall_mem_cons.2 ⟨(by show ¬ w.heap.size = gt; omega), List.forall_mem_cons.2 ⟨(by show ¬ w.heap.size = gt; omega), fun _ h => by simp at h⟩⟩⟩⟩)) (fun hHeld => ?_)
  clear hK K
  try simp only [Act.put, sA, sZ, sS]
  refine wpAnyH_done (by kernel_rfl) ?_ _
  go_wp2_with fail
  go_end0
  exact ⟨rfl, VE.out.tail.tail⟩
end Go.Proofs.Ytdkdfmflghbhiaa
