/- The walk of DagValid. -/
import Derived.Test.YtefdklfflemofaaDDn
namespace Go.Proofs.Ytefdklfflemofaa
open Go.RowKit
set_option linter.unusedVariables false
set_option linter.unusedSimpArgs false
set_option maxRecDepth 100000

set_option maxHeartbeats 64000000 in
theorem lawvalid_any (g : Gr) (A : Option Addr) (n c : Nat) (w : World) (h : GrIn w A n c g) :
    Calls Try.prog 3 #[gval g A n c] w fun e w' => e = .returned (.bool true) ∧ Below w.heap.size w w' := by
  have H := Lib.hid h
  clear h
  obtain ⟨wz, hwz⟩ : ∃ z, z = w.alloc (.cells #[.int .i64 g.n, .slice A n c] 24) := ⟨_, rfl⟩
  have HZ := Lib.hid hwz
  obtain ⟨gb, hgb⟩ : ∃ gb, gb = w.heap.size := ⟨_, rfl⟩
  have V := Lib.hid (show Hp w [gbox gb g A n c] wz by rw [hwz, hgb]; exact (Hp.start w).gnew g A n c)
  clear hwz
  go_enter Try.func3, Try.ntmps3
  go_upto_region 1 with fail
  rw [← HZ.out, ← hgb]
  clear HZ hgb
  go_wp2_with fail
  refine (awake_any _).mono ?_
  rintro e w1 ⟨rfl, b1⟩
  have V1 := Lib.hid (V.out.go b1)
  clear b1 V
  obtain ⟨r0, r1, r9⟩ := V1.out.gb (i := 0) rfl
  by_cases hn : n ≤ 120
  case neg =>
    have hn2 : 120 < n := by omega
    go_wp2_with fail
    refine (awake_any _).mono ?_
    rintro e w3 ⟨rfl, b3⟩
    have V3 := Lib.hid (V1.out.go b3)
    clear b3
    go_wp2_with fail
    go_ret
    exact ⟨rfl, V3.out.below⟩
  go_wp2_with fail
  refine (own_any g A n c _ (H.out.below V1.out.below) (by omega)).mono ?_
  rintro e w2 ⟨C, d, rfl, hp2⟩
  have V2 := Lib.hid (V1.out.join hp2)
  have G2 := Lib.hid (hp2.grIn (i := 0) (g := g) rfl H.out.len (by omega))
  clear hp2 V1 r0 r1 r9
  obtain ⟨R, hR⟩ : ∃ R, R = g.rv.1 := ⟨_, rfl⟩
  obtain ⟨y, hy⟩ : ∃ y, y = g.rv.2 := ⟨_, rfl⟩
  have HR := Lib.hid hR
  have HY := Lib.hid hy
  have HRL := Lib.hid (show R.rs.length ≤ n by rw [hR]; have := rv_len g; have := H.out.len; omega)
  have HRV := Lib.hid (show ∀ W (A : Option Addr) (c : Nat), GrIn W A n c g → Calls Try.prog 12 #[gval g A n c] W fun e w' => ∃ (C : Option Addr) (m d : Nat), e = .returned (.tuple #[gval R C m d, .int .i64 y]) ∧ R.rs.length = m ∧ Hp W [arow C m d R.rs] w' from fun W A c h => by rw [hR, hy]; exact reverse_any g A n c W h)
  have HRW := Lib.hid (show ∀ W (A : Option Addr) (c : Nat), GrIn W A n c g → Calls Try.prog 14 #[gval g A n c] W fun e w' => ∃ (C : Option Addr) (m d : Nat), e = .returned (.tuple #[gval R C m d, .int .i64 y]) ∧ R.rs.length = m ∧ Hp W [arow C m d R.rs] w' from fun W A c h => by rw [hR, hy]; exact rreverse_any g A n c W h)
  clear hR hy
  go_wp2_with fail
  refine (HRV.out _ C d G2.out).mono ?_
  rintro e w3 ⟨C2, m2, d2, rfl, hm2, hp3⟩
  have HM2 := Lib.hid hm2
  have hmb2 : m2 ≤ 120 := by have := HRL.out; omega
  have V3 := Lib.hid (V2.out.join hp3)
  clear hp3 hm2 V2 G2
  obtain ⟨b3, hb3⟩ : ∃ b3, b3 = w3.heap.size := ⟨_, rfl⟩
  obtain ⟨w4, hw4⟩ : ∃ z, z = w3.alloc (.cells #[.int .i64 R.n, .slice C2 m2 d2] 24) := ⟨_, rfl⟩
  have H4 := Lib.hid hw4
  have V4 := Lib.hid (show Hp w [gbox b3 R C2 m2 d2, arow C2 m2 d2 R.rs, arow C n d g.rs, gbox gb g A n c] w4 by rw [hw4, hb3]; exact V3.out.gnew R C2 m2 d2)
  clear hw4
  go_upto_region 4 with fail
  rw [← H4.out, ← hb3]
  clear H4 hb3 V3
  obtain ⟨r0, r1, r9⟩ := V4.out.gb (i := 3) rfl
  go_wp2_with fail
  refine (HRW.out _ A c (H.out.below V4.out.below)).mono ?_
  rintro e w5 ⟨C3, m3, d3, rfl, hm3, hp5⟩
  have HM3 := Lib.hid hm3
  have hmb3 : m3 ≤ 120 := by have := HRL.out; omega
  have V5 := Lib.hid (V4.out.join hp5)
  clear hp5 hm3 V4 r0 r1 r9
  obtain ⟨b5, hb5⟩ : ∃ b5, b5 = w5.heap.size := ⟨_, rfl⟩
  obtain ⟨w6, hw6⟩ : ∃ z, z = w5.alloc (.cells #[.int .i64 R.n, .slice C3 m3 d3] 24) := ⟨_, rfl⟩
  have H6 := Lib.hid hw6
  have V6 := Lib.hid (show Hp w [gbox b5 R C3 m3 d3, arow C3 m3 d3 R.rs, gbox b3 R C2 m2 d2, arow C2 m2 d2 R.rs, arow C n d g.rs, gbox gb g A n c] w6 by rw [hw6, hb5]; exact V5.out.gnew R C3 m3 d3)
  clear hw6
  go_upto_region 5 with fail
  rw [← H6.out, ← hb5]
  clear H6 hb5 V5
  obtain ⟨v, hv⟩ : ∃ v, v = g.vE := ⟨_, rfl⟩
  have HVA := Lib.hid (show ∀ W, GrIn W A n c g → Calls Try.prog 15 #[gval g A n c] W fun e w' => e = .returned (.int .i64 v) ∧ Below W.heap.size W w' from fun W h => by rw [hv]; exact valid_any g A n c W h)
  have HVB := Lib.hid (show ∀ W, GrIn W A n c g → Calls Try.prog 16 #[gval g A n c] W fun e w' => e = .returned (.int .i64 v) ∧ Below W.heap.size W w' from fun W h => by rw [hv]; exact rvalid_any g A n c W h)
  have HSA := Lib.hid (show ∀ W, Hp w [gbox b5 R C3 m3 d3, arow C3 m3 d3 R.rs, gbox b3 R C2 m2 d2, arow C2 m2 d2 R.rs, arow C n d g.rs, gbox gb g A n c] W → Calls Try.prog 17 #[gval R C2 m2 d2, gval R C3 m3 d3] W fun e w' => e = .returned (.bool true) ∧ Below W.heap.size W w' from fun W hW =>
    (same_any R R C2 C3 m2 d2 m3 d3 W (hW.grIn (i := 3) rfl HM2.out (by omega)) (hW.grIn (i := 1) rfl HM3.out (by omega)) (by omega) (by omega)).mono fun e w' ⟨b, h1, h2, h3⟩ => ⟨by rw [h1, h2.2 rfl], h3⟩)
  have e1 : (v != v) = false := bne_no rfl
  have e2 : (y != y) = false := bne_no rfl
  clear hv
  obtain ⟨r0, r1, r9⟩ := V6.out.gb (i := 5) rfl
  obtain ⟨s0, s1, s9⟩ := V6.out.gb (i := 2) rfl
  obtain ⟨t0, t1, t9⟩ := V6.out.gb (i := 0) rfl
  have hKp : Keep [(⟨gb, 0, none⟩, .int .i64 g.n), (⟨gb, 1, none⟩, .slice A n c), (⟨b3, 0, none⟩, .int .i64 R.n), (⟨b3, 1, none⟩, .slice C2 m2 d2), (⟨b5, 0, none⟩, .int .i64 R.n), (⟨b5, 1, none⟩, .slice C3 m3 d3)] w6 := List.forall_mem_cons.2 ⟨⟨r0, r9⟩, List.forall_mem_cons.2 ⟨⟨r1, r9⟩, List.forall_mem_cons.2 ⟨⟨s0, s9⟩, List.forall_mem_cons.2 ⟨⟨s1, s9⟩, List.forall_mem_cons.2 ⟨⟨t0, t9⟩, List.forall_mem_cons.2 ⟨⟨t1, t9⟩, fun _ h => by simp at h⟩⟩⟩⟩⟩⟩
  refine wp_region_held_drew (S := Keep _) (by kernel_rfl) hKp.drew (fun hHeld => ?_)
  have V6d := Lib.hid (V6.out.go (bdrew _))
  refine tk 0 ?_ rfl ?_ ?_; rotate_left
  · intro wl hSw
    have hSw : Keep _ wl := hSw
    have k0 : wl.cell? ⟨gb, 0, none⟩ = some (.int .i64 g.n) := (hSw _ (.head _)).1
    have k1 : wl.cell? ⟨gb, 1, none⟩ = some (.slice A n c) := (hSw _ (.tail _ (.head _))).1
    clear hSw
    go_simp
    try (with_reducible rfl)
  try simp only [Act.put, sA, sZ, sS]
  refine tk 2 ?_ rfl ?_ ?_; rotate_left
  · intro wl hSw
    have hSw : Keep _ wl := hSw
    have k0 : wl.cell? ⟨gb, 0, none⟩ = some (.int .i64 g.n) := (hSw _ (.head _)).1
    have k1 : wl.cell? ⟨gb, 1, none⟩ = some (.slice A n c) := (hSw _ (.tail _ (.head _))).1
    clear hSw
    go_simp
    try (with_reducible rfl)
  try simp only [Act.put, sA, sZ, sS]
  refine wpAnyH_ready (rs := [1]) (by kernel_rfl) (by simp) ?_
  refine AllReadyH.cons (List.getElem?_toArray.trans rfl) (fun K hK => ?_) AllReadyH.nil
  go_simp
  refine (HVA.out _ (H.out.below V6d.out.below)).mono ?_
  rintro e w_1 ⟨rfl, b_1⟩
  try go_wp2_with fail
  have V_1 := Lib.hid (V6d.out.go b_1)
  refine hK.out _ _ (hHeld.go b_1) (fun hHeld => ?_)
  clear hK K
  try simp only [Act.put, sA, sZ, sS]
  refine wpAnyH_ready (rs := [3]) (by kernel_rfl) (by simp) ?_
  refine AllReadyH.cons (List.getElem?_toArray.trans rfl) (fun K hK => ?_) AllReadyH.nil
  go_simp
  refine (HVB.out _ (H.out.below V_1.out.below)).mono ?_
  rintro e w_1_3 ⟨rfl, b_1_3⟩
  try go_wp2_with fail
  have V_1_3 := Lib.hid (V_1.out.go b_1_3)
  refine hK.out _ _ (hHeld.go b_1_3) (fun hHeld => ?_)
  clear hK K
  try simp only [Act.put, sA, sZ, sS]
  refine tk 4 ?_ rfl ?_ ?_; rotate_left; focus (intro w hSw; clear hSw; go_simp; try (with_reducible rfl))
  try simp only [Act.put, sA, sZ, sS]
  refine tk 5 ?_ rfl ?_ ?_; rotate_left; focus (intro w hSw; clear hSw; go_simp; try (with_reducible rfl))
  try simp only [Act.put, sA, sZ, sS]
  refine tk 6 ?_ rfl ?_ ?_; rotate_left; focus (intro w hSw; clear hSw; go_simp; try (with_reducible rfl))
  try simp only [Act.put, sA, sZ, sS]
  refine tk 7 ?_ rfl ?_ ?_; rotate_left; focus (intro w hSw; clear hSw; go_simp; try (with_reducible rfl))
  try simp only [Act.put, sA, sZ, sS]
  refine tk 8 ?_ rfl ?_ ?_; rotate_left; focus (intro w hSw; clear hSw; go_simp; try (with_reducible rfl))
  try simp only [Act.put, sA, sZ, sS]
  refine tk 9 ?_ rfl ?_ ?_; rotate_left; focus (intro w hSw; clear hSw; go_simp; try (with_reducible rfl))
  try simp only [Act.put, sA, sZ, sS]
  refine tk 10 ?_ rfl ?_ ?_; rotate_left; focus (intro w hSw; clear hSw; go_simp; try (with_reducible rfl))
  try simp only [Act.put, sA, sZ, sS]
  refine tk 11 ?_ rfl ?_ ?_; rotate_left
  · intro wl hSw
    have hSw : Keep _ wl := hSw
    have k0 : wl.cell? ⟨b3, 0, none⟩ = some (.int .i64 R.n) := (hSw _ (.tail _ (.tail _ (.head _)))).1
    have k1 : wl.cell? ⟨b3, 1, none⟩ = some (.slice C2 m2 d2) := (hSw _ (.tail _ (.tail _ (.tail _ (.head _))))).1
    clear hSw
    go_simp
    try (with_reducible rfl)
  try simp only [Act.put, sA, sZ, sS]
  refine tk 12 ?_ rfl ?_ ?_; rotate_left
  · intro wl hSw
    have hSw : Keep _ wl := hSw
    have k0 : wl.cell? ⟨b5, 0, none⟩ = some (.int .i64 R.n) := (hSw _ (.tail _ (.tail _ (.tail _ (.tail _ (.head _)))))).1
    have k1 : wl.cell? ⟨b5, 1, none⟩ = some (.slice C3 m3 d3) := (hSw _ (.tail _ (.tail _ (.tail _ (.tail _ (.tail _ (.head _))))))).1
    clear hSw
    go_simp
    try (with_reducible rfl)
  try simp only [Act.put, sA, sZ, sS]
  refine wpAnyH_ready (rs := [13]) (by kernel_rfl) (by simp) ?_
  refine AllReadyH.cons (List.getElem?_toArray.trans rfl) (fun K hK => ?_) AllReadyH.nil
  go_simp
  refine (HSA.out _ V_1_3.out).mono ?_
  rintro e w_1_3_13 ⟨rfl, b_1_3_13⟩
  try go_wp2_with fail
  have V_1_3_13 := Lib.hid (V_1_3.out.go b_1_3_13)
  refine hK.out _ _ (hHeld.go b_1_3_13) (fun hHeld => ?_)
  clear hK K
  try simp only [Act.put, sA, sZ, sS]
  refine tk 14 ?_ rfl ?_ ?_; rotate_left; focus (intro w hSw; clear hSw; go_simp; try (with_reducible rfl))
  try simp only [Act.put, sA, sZ, sS]
  refine tk 15 ?_ rfl ?_ ?_; rotate_left; focus (intro w hSw; clear hSw; go_simp; try (with_reducible rfl))
  try simp only [Act.put, sA, sZ, sS]
  refine wpAnyH_done (by kernel_rfl) ?_ _
  clear hKp hHeld r0 r1 r9 s0 s1 s9 t0 t1 t9 e1 e2
  by_cases hy0 : y = 0
  case neg =>
    have e3 : (y != 0) = true := bne_yes hy0
    clear hy0
    go_wp2_with fail
    go_ret
    exact ⟨rfl, V_1_3_13.out.below⟩
  have HRR := Lib.hid (show R.rv = (g, 0) by rw [HR.out]; exact rv_rv (rv_zero (by rw [← HY.out]; exact hy0)))
  subst hy0
  have HR2 := Lib.hid (show ∀ W, GrIn W C2 m2 d2 R → Calls Try.prog 12 #[gval R C2 m2 d2] W fun e w' => ∃ (C : Option Addr) (m d : Nat), e = .returned (.tuple #[gval g C m d, .int .i64 0]) ∧ g.rs.length = m ∧ Hp W [arow C m d g.rs] w' from fun W h => by
    have := reverse_any R C2 m2 d2 W h
    unfold RevPost at this
    rw [HRR.out] at this
    exact this)
  obtain ⟨s0, s1, s9⟩ := V_1_3_13.out.gb (i := 2) rfl
  go_wp2_with fail
  refine (HR2.out _ (V_1_3_13.out.grIn (i := 3) rfl HM2.out (by omega))).mono ?_
  rintro e w7 ⟨C4, m4, d4, rfl, hm4, hp7⟩
  have HM4 := Lib.hid hm4
  have hmb4 : m4 ≤ 120 := by have := H.out.len; omega
  have V7 := Lib.hid (V_1_3_13.out.join hp7)
  clear hp7 hm4 s0 s1 s9
  obtain ⟨b7, hb7⟩ : ∃ b7, b7 = w7.heap.size := ⟨_, rfl⟩
  obtain ⟨w8, hw8⟩ : ∃ z, z = w7.alloc (.cells #[.int .i64 g.n, .slice C4 m4 d4] 24) := ⟨_, rfl⟩
  have H8 := Lib.hid hw8
  have V8 := Lib.hid (show Hp w [gbox b7 g C4 m4 d4, arow C4 m4 d4 g.rs, gbox b5 R C3 m3 d3, arow C3 m3 d3 R.rs, gbox b3 R C2 m2 d2, arow C2 m2 d2 R.rs, arow C n d g.rs, gbox gb g A n c] w8 by rw [hw8, hb7]; exact V7.out.gnew g C4 m4 d4)
  clear hw8
  go_upto_region 10 with fail
  rw [← H8.out, ← hb7]
  clear H8 hb7 V7
  obtain ⟨r0, r1, r9⟩ := V8.out.gb (i := 7) rfl
  obtain ⟨s0, s1, s9⟩ := V8.out.gb (i := 0) rfl
  go_wp2_with fail
  refine (same_any g g C4 A m4 d4 n c _ (V8.out.grIn (i := 1) rfl HM4.out (by omega)) (H.out.below V8.out.below) (by omega) (by omega)).mono ?_
  rintro e w9 ⟨b, rfl, hb, b9⟩
  have V9 := Lib.hid (V8.out.go b9)
  obtain rfl : b = true := hb.2 rfl
  clear b9 hb
  go_wp2_with fail
  go_ret
  exact ⟨rfl, V9.out.below⟩
end Go.Proofs.Ytefdklfflemofaa
