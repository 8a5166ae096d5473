/- Top: the walk of TopReversed. -/
import Derived.Test.YtgdfjblfpeedjaaDEz
import Derived.Test.YtgdfjblfpeedjaaDEo
import Derived.Test.YtgdfjblfpeedjaaDDt
import Derived.Test.YtgdfjblfpeedjaaDDn
import Derived.Test.YtgdfjblfpeedjaaDCX
namespace Go.Proofs.Ytgdfjblfpeedjaa
open Go.RowKit
set_option linter.unusedVariables false
set_option linter.unusedSimpArgs false
set_option maxRecDepth 100000

set_option maxHeartbeats 64000000 in
theorem topreversed_any (x : Int) (A : Option Addr) (n c : Nat) (L : List Nat) (y : Int) (w : World) (hx : 0 ≤ x ∧ x ≤ 255) (hl : L.length = n) (hn : n ≤ 70368744177664) (hL : ∀ v ∈ L, v ≤ 65535) (hc : CellsIn w A (words L)) (hy : 0 ≤ y ∧ y ≤ 255) :
    Calls Try.prog 3 #[.int .u8 x, .slice A n c, .int .u8 y] w fun e w' => e = .returned (.bool true) ∧ Below w.heap.size w w' := by
  obtain ⟨x, rfl⟩ := Int.eq_ofNat_of_zero_le hx.1
  obtain ⟨y0, y1⟩ := hy
  have hx2 : x ≤ 255 := by omega
  have HM := Lib.hid (show ∀ W, Below w.heap.size w W → Calls Try.prog 5 #[.int .u8 (x : Int), .slice A n c] W (MadePost W) from fun W hW => rmade_any x A n c L W hx2 hl hn hL (hc.below hW))
  clear hx hl hL hc
  go_enter Try.func3, Try.ntmps3
  go_wp2_with fail
  refine (awakeT_any _).mono ?_
  rintro e w1 ⟨rfl, b1⟩
  have V1 := Lib.hid (show Hp w [] w1 from (Hp.start w).go b1)
  clear b1
  by_cases hn40 : n ≤ 40
  case neg =>
    have hn2 : 40 < n := by omega
    go_wp2_with fail
    refine (awakeT_any _).mono ?_
    rintro e w3 ⟨rfl, b3⟩
    have V3 := Lib.hid (V1.out.go b3)
    clear b3
    go_wp2_with fail
    go_ret
    exact ⟨rfl, V3.out.below⟩
  go_wp2_with fail
  refine (HM.out _ V1.out.below).mono ?_
  rintro e w2 ⟨g, C, m, d, rfl, hO, hg12, hm, hm40, hp⟩
  have V2 := Lib.hid (show Hp w [arow C m d g.rs] w2 from V1.out.join hp)
  have HML := Lib.hid hm
  have HV := Lib.hid hO.vE
  have HO := Lib.hid hO
  have n1 := hO.n1
  obtain ⟨N, hN⟩ : ∃ N, N = g.n.toNat := ⟨_, rfl⟩
  have hgN : g.n = (N : Int) := by omega
  clear hO hm hp V1 hN HM
  have HGN := Lib.hid hgN
  have hgv : gval g C m d = .agg #[.int .i64 (N : Int), .slice C m d] := by unfold gval; rw [hgN]
  obtain ⟨nW, hnW⟩ : ∃ z, z = g.wV y := ⟨_, rfl⟩
  obtain ⟨fW, hfW⟩ : ∃ z, z = g.wE y := ⟨_, rfl⟩
  have HnW := Lib.hid hnW
  have HfW := Lib.hid hfW
  have HREV := Lib.hid (show ∀ W, GrIn W C m d g → Calls Try.prog 6 #[.agg #[.int .i64 (N : Int), .slice C m d]] W (RevPost g W) from fun W h => by rw [← hgv]; exact reverse_any g C m d W h)
  have HBE := Lib.hid (show ∀ W, GrIn W C m d g → Calls Try.prog 8 #[.agg #[.int .i64 (N : Int), .slice C m d]] W (BestPost g W) from fun W h => by rw [← hgv]; exact best_any g C m d W h)
  have HTR := Lib.hid (show ∀ W, GrIn W C m d g → Calls Try.prog 9 #[.agg #[.int .i64 (N : Int), .slice C m d]] W (TrimPost g W) from fun W h => by rw [← hgv]; exact trim_any g C m d W h)
  have HWA := Lib.hid (show ∀ W, GrIn W C m d g → Calls Try.prog 7 #[.agg #[.int .i64 (N : Int), .slice C m d], .int .i64 y] W fun e w' => e = .returned (.tuple #[.int .i64 nW, .int .i64 fW]) ∧ Below W.heap.size W w' from fun W h => by rw [← hgv, hnW, hfW]; exact ways_any g C m d y W h HV.out y0 (by omega))
  have g1 : IntKind.i64.wrap y = y := IntWalk.i64_in _ (by omega)
  have q1 : (nW != nW) = false := by simp
  have q2 : (fW != fW) = false := by simp
  have q3 : (nW == nW) = true := by simp
  have q4 : (fW == fW) = true := by simp
  rw [hgv]
  clear hgv hgN hnW hfW n1 hg12
  obtain ⟨bg, hbg⟩ : ∃ b, b = w2.heap.size := ⟨_, rfl⟩
  obtain ⟨w3, hw3⟩ : ∃ z, z = w2.alloc (.cells #[.int .i64 (N : Int), .slice C m d] 26) := ⟨_, rfl⟩
  have HW3 := Lib.hid hw3
  have V3 := Lib.hid (show Hp w [box 26 bg [.int .i64 (N : Int), .slice C m d], arow C m d g.rs] w3 by rw [hw3, hbg]; exact V2.out.box_new _ [.int .i64 (N : Int), .slice C m d])
  clear hw3
  go_upto_region 4 with fail
  rw [← HW3.out, ← hbg]
  clear HW3 hbg V2
  obtain ⟨r0, _, r9⟩ := V3.out.box_at (i := 0) (j := 0) rfl rfl
  obtain ⟨r1, _, _⟩ := V3.out.box_at (i := 0) (j := 1) rfl rfl
  go_wp2_with fail
  refine (HREV.out _ (V3.out.grIn (i := 1) rfl HML.out (by omega))).mono ?_
  rintro e w4 ⟨C2, k2, d2, rfl, hk2, hp⟩
  have V4 := V3.out.join hp
  have ev := rv_ok HV.out
  have e2 : g.rv.2 = 0 := by rw [ev]
  have e1 : g.rv.1.n = (N : Int) := by rw [ev]; exact HGN.out
  have e3 := rv_good HV.out
  have e4 := cs_rev HV.out
  obtain ⟨R, hR⟩ : ∃ R, R = g.rv.1 := ⟨_, rfl⟩
  rw [e2]
  rw [← hR] at e1 e3 e4 hk2 V4 ⊢
  rw [e1]
  have hk6 : k2 ≤ 6000 := by have := (Gr.ok e3).len; omega
  have HRP := Lib.hid e4
  have HRV := Lib.hid e3
  have HRL := Lib.hid hk2
  have hrv : gval R C2 k2 d2 = .agg #[.int .i64 (N : Int), .slice C2 k2 d2] := by unfold gval; rw [e1]
  have HBR := Lib.hid (show ∀ W, GrIn W C2 k2 d2 R → Calls Try.prog 8 #[.agg #[.int .i64 (N : Int), .slice C2 k2 d2]] W (BestPost R W) from fun W h => by rw [← hrv]; exact best_any R C2 k2 d2 W h)
  have HWR := Lib.hid (show ∀ W, GrIn W C2 k2 d2 R → Calls Try.prog 7 #[.agg #[.int .i64 (N : Int), .slice C2 k2 d2], .int .i64 y] W fun e w' => e = .returned (.tuple #[.int .i64 nW, .int .i64 fW]) ∧ Below W.heap.size W w' from fun W h => by
    have h2 := ways_any R C2 k2 d2 y W h e3 y0 (by omega)
    rw [hrv, (wV_perm e4 y).1, (wV_perm e4 y).2, ← HnW.out, ← HfW.out] at h2
    exact h2)
  have HV4 := Lib.hid V4
  clear hp ev e2 e1 e3 e4 hR hk2 hrv V4 V3 r0 r1 r9 HREV
  obtain ⟨bk, hbk⟩ : ∃ b, b = w4.heap.size := ⟨_, rfl⟩
  obtain ⟨w5, hw5⟩ : ∃ z, z = w4.alloc (.cells #[.int .i64 (N : Int), .slice C2 k2 d2] 26) := ⟨_, rfl⟩
  have HW5 := Lib.hid hw5
  have V5 := Lib.hid (show Hp w [box 26 bk [.int .i64 (N : Int), .slice C2 k2 d2], arow C2 k2 d2 R.rs, box 26 bg [.int .i64 (N : Int), .slice C m d], arow C m d g.rs] w5 by rw [hw5, hbk]; exact HV4.out.box_new _ [.int .i64 (N : Int), .slice C2 k2 d2])
  have HBK := Lib.hid hbk
  clear hw5 hbk
  go_upto_region 5 with fail
  rw [← HW5.out, ← HBK.out]
  clear HW5 HBK HV4
  obtain ⟨r0, _, r9⟩ := V5.out.box_at (i := 2) (j := 0) rfl rfl
  obtain ⟨r1, _, _⟩ := V5.out.box_at (i := 2) (j := 1) rfl rfl
  go_wp2_with fail
  refine (HWA.out _ (V5.out.grIn (i := 3) rfl HML.out (by omega))).mono ?_
  rintro e w6 ⟨rfl, b6⟩
  have V6 := Lib.hid (V5.out.go b6)
  clear b6 V5 r0 r1 r9 HWA
  obtain ⟨r0, _, r9⟩ := V6.out.box_at (i := 0) (j := 0) rfl rfl
  obtain ⟨r1, _, _⟩ := V6.out.box_at (i := 0) (j := 1) rfl rfl
  go_wp2_with fail
  refine (HWR.out _ (V6.out.grIn (i := 1) rfl HRL.out (by omega))).mono ?_
  rintro e w7 ⟨rfl, b7⟩
  have V7 := Lib.hid (V6.out.go b7)
  clear b7 V6 r0 r1 r9 HWR
  obtain ⟨r0, _, r9⟩ := V7.out.box_at (i := 2) (j := 0) rfl rfl
  obtain ⟨r1, _, _⟩ := V7.out.box_at (i := 2) (j := 1) rfl rfl
  go_wp2_with fail
  refine (HBE.out _ (V7.out.grIn (i := 3) rfl HML.out (by omega))).mono ?_
  rintro e w8 ⟨A1, m1, c1, A2, m2, c2, L1, P, E, rfl, hm1, hm2, hba, hp⟩
  have V8 := Lib.hid (V7.out.join hp)
  have HM2 := Lib.hid hm2
  have HBA := Lib.hid hba
  clear hp hm1 hm2 hba V7 r0 r1 r9 HBE
  obtain ⟨r0, _, r9⟩ := V8.out.box_at (i := 2) (j := 0) rfl rfl
  obtain ⟨r1, _, _⟩ := V8.out.box_at (i := 2) (j := 1) rfl rfl
  go_wp2_with fail
  refine (HBR.out _ (V8.out.grIn (i := 3) rfl HRL.out (by omega))).mono ?_
  rintro e w9 ⟨A3, m3, c3, A4, m4, c4, L2, P2, E2, rfl, hm3, hm4, hba2, hp⟩
  have V9 := Lib.hid (V8.out.join hp)
  have HM4 := Lib.hid hm4
  have hbs := best_same HV.out HRV.out HRP.out HBA.out hba2
  clear hp hm3 hm4 hba2 V8 r0 r1 r9 HBR
  obtain ⟨r0, _, r9⟩ := V9.out.box_at (i := 6) (j := 0) rfl rfl
  obtain ⟨r1, _, _⟩ := V9.out.box_at (i := 6) (j := 1) rfl rfl
  go_wp2_with fail
  refine (HTR.out _ (V9.out.grIn (i := 7) rfl HML.out (by omega))).mono ?_
  rintro e w10 ⟨C3, k3, d3, B3, bn3, bc3, rfl, hk3, hbn3, hp⟩
  have V10 := V9.out.join hp
  clear hp V9 r0 r1 r9 HTR hbn3
  rcases hbs with ⟨rfl, rfl, hcs⟩ | ⟨rfl, rfl, hcs, hp1, hp2, hpe⟩
  · have hT := tr_none HV.out ((wy_cs HO.out).2 hcs)
    rw [hT] at V10 ⊢
    have B10 := Lib.hid V10.below
    clear V10 hT hcs hk3
    dsimp only
    go_wp2_with fail
    go_ret
    exact ⟨by first | rfl | simp, btwo B10.out (bnew _ _)⟩
  · have hw : ¬ g.wy 0 = 0 := fun e => hcs ((wy_cs HO.out).1 e)
    have hT := tr_ok HV.out hw
    have e4 := cs_tr HV.out hw
    have e3 := (tg_ok HV.out hw).vE
    rw [hT] at V10 hk3 ⊢
    dsimp only at V10 hk3 ⊢
    obtain ⟨T, hTT⟩ : ∃ T, T = g.tg := ⟨_, rfl⟩
    rw [← hTT] at V10 hk3 e4 e3 ⊢
    have hTO := Gr.ok e3
    obtain ⟨M, hMn⟩ := Int.eq_ofNat_of_zero_le (show 0 ≤ T.n by have := hTO.n1; omega)
    have hk36 : k3 ≤ 6000 := by have := hTO.len; omega
    rw [hMn]
    have htv : gval T C3 k3 d3 = .agg #[.int .i64 (M : Int), .slice C3 k3 d3] := by unfold gval; rw [hMn]
    have HTP := Lib.hid e4
    have HTV := Lib.hid e3
    have HTL := Lib.hid hk3
    have HBT := Lib.hid (show ∀ W, GrIn W C3 k3 d3 T → Calls Try.prog 8 #[.agg #[.int .i64 (M : Int), .slice C3 k3 d3]] W (BestPost T W) from fun W h => by rw [← htv]; exact best_any T C3 k3 d3 W h)
    have HWT := Lib.hid (show ∀ W, GrIn W C3 k3 d3 T → Calls Try.prog 7 #[.agg #[.int .i64 (M : Int), .slice C3 k3 d3], .int .i64 y] W fun e w' => e = .returned (.tuple #[.int .i64 nW, .int .i64 fW]) ∧ Below W.heap.size W w' from fun W h => by
      have h2 := ways_any T C3 k3 d3 y W h e3 y0 (by omega)
      rw [htv, (wV_perm e4 y).1, (wV_perm e4 y).2, ← HnW.out, ← HfW.out] at h2
      exact h2)
    have HV10 := Lib.hid V10
    have HPE := Lib.hid hpe
    rw [HM2.out] at hp1
    rw [HM4.out] at hp2
    clear hw hT e4 e3 hTT hTO hMn htv V10 hcs hpe hk3
    obtain ⟨bt, hbt⟩ : ∃ b, b = w10.heap.size := ⟨_, rfl⟩
    obtain ⟨w11, hw11⟩ : ∃ z, z = w10.alloc (.cells #[.int .i64 (M : Int), .slice C3 k3 d3] 26) := ⟨_, rfl⟩
    have h11 := HV10.out.box_new 26 [.int .i64 (M : Int), .slice C3 k3 d3]
    rw [← hbt] at h11
    have V11 := Lib.hid (show Hp w (box 26 bt [.int .i64 (M : Int), .slice C3 k3 d3] :: ([arow C3 k3 d3 T.rs, nums B3 bn3 bc3 g.tn] ++ ([nums A3 m3 c3 L2, nums A4 m4 c4 P2] ++ ([nums A1 m1 c1 L1, nums A2 m2 c2 P] ++ [box 26 bk [.int .i64 (N : Int), .slice C2 k2 d2], arow C2 k2 d2 R.rs, box 26 bg [.int .i64 (N : Int), .slice C m d], arow C m d g.rs])))) w11 by rw [hw11]; exact h11)
    have HW11 := Lib.hid hw11
    have HBB := Lib.hid hbt
    clear hw11 hbt h11
    go_upto_region 12 with fail
    rw [← HW11.out, ← HBB.out]
    clear HW11 HBB HV10
    obtain ⟨r0, _, r9⟩ := V11.out.box_at (i := 0) (j := 0) rfl rfl
    obtain ⟨r1, _, _⟩ := V11.out.box_at (i := 0) (j := 1) rfl rfl
    go_wp2_with fail
    refine (HBT.out _ (V11.out.grIn (i := 1) rfl HTL.out (by omega))).mono ?_
    rintro e w12 ⟨A5, m5, c5, A6, m6, c6, L3, P3, E3, rfl, hm5, hm6, hba3, hp⟩
    have V12 := Lib.hid (V11.out.join hp)
    have hb3 := best_same HV.out HTV.out HTP.out HBA.out hba3
    rcases hb3 with ⟨e10, _⟩ | ⟨_, rfl, _, _, hp3, hpe3⟩
    · exact absurd e10 (by decide)
    rw [hm6] at hp3
    have HM6 := Lib.hid hm6
    have HPE3 := Lib.hid hpe3
    clear hp hm5 hm6 hba3 hpe3 V11 r0 r1 r9 HBT
    obtain ⟨r0, _, r9⟩ := V12.out.box_at (i := 2) (j := 0) rfl rfl
    obtain ⟨r1, _, _⟩ := V12.out.box_at (i := 2) (j := 1) rfl rfl
    go_wp2_with fail
    refine (HWT.out _ (V12.out.grIn (i := 3) rfl HTL.out (by omega))).mono ?_
    rintro e w13 ⟨rfl, b13⟩
    have V13 := Lib.hid (V12.out.go b13)
    clear b13 V12 r0 r1 r9 HWT
    obtain ⟨ga, rfl⟩ := V13.out.head (i := 8) rfl (A := A2) (c := c2) rfl hp1
    obtain ⟨gc, rfl⟩ := V13.out.head (i := 6) rfl (A := A4) (c := c4) rfl hp2
    obtain ⟨ge, rfl⟩ := V13.out.head (i := 1) rfl (A := A6) (c := c6) rfl hp3
    obtain ⟨a0, _, a9⟩ := V13.out.num_at (i := 8) rfl (j := 0) (by rw [HM2.out]; exact hp1)
    obtain ⟨c0, _, c9⟩ := V13.out.num_at (i := 6) rfl (j := 0) (by rw [HM4.out]; exact hp2)
    obtain ⟨d0, _, d9⟩ := V13.out.num_at (i := 1) rfl (j := 0) (by rw [HM6.out]; exact hp3)
    rw [HPE.out] at c0
    rw [HPE3.out] at d0
    obtain ⟨z, hz⟩ : ∃ z, z = P.getD 0 0 := ⟨_, rfl⟩
    rw [← hz] at a0 c0 d0
    have q5 : (z == z) = true := by simp
    have p1 : (0 : Int) < (m2 : Int) := by omega
    have p2 : (0 : Int) < (m4 : Int) := by omega
    have p3 : (0 : Int) < (m6 : Int) := by omega
    have BB := Lib.hid V13.out.below
    clear hz
    go_upto_region 16 with fail
    have hKp : Keep [(⟨ga, 0, none⟩, .int .i64 z), (⟨gc, 0, none⟩, .int .i64 z), (⟨ge, 0, none⟩, .int .i64 z)] w13 := List.forall_mem_cons.2 ⟨⟨a0, a9⟩, List.forall_mem_cons.2 ⟨⟨c0, c9⟩, List.forall_mem_cons.2 ⟨⟨d0, d9⟩, fun _ h => by simp at h⟩⟩⟩
    refine wp_region_held_drew (S := Keep _) (by kernel_rfl) hKp.drew (fun hHeld => ?_)
    refine tk 0 ?_ rfl ?_ ?_; rotate_left; focus (intro w hSw; clear hSw; go_simp; try (with_reducible rfl))
    try simp only [Act.put, sA, sZ, sS]
    refine tk 1 ?_ rfl ?_ ?_; rotate_left; focus (intro w hSw; clear hSw; go_simp; try (with_reducible rfl))
    try simp only [Act.put, sA, sZ, sS]
    refine tk 2 ?_ rfl ?_ ?_; rotate_left; focus (intro w hSw; clear hSw; go_simp; try (with_reducible rfl))
    try simp only [Act.put, sA, sZ, sS]
    refine tk 3 ?_ rfl ?_ ?_; rotate_left; focus (intro w hSw; clear hSw; go_simp; try (with_reducible rfl))
    try simp only [Act.put, sA, sZ, sS]
    refine tk 4 ?_ rfl ?_ ?_; rotate_left; focus (intro w hSw; clear hSw; go_simp; try (with_reducible rfl))
    try simp only [Act.put, sA, sZ, sS]
    refine tk 5 ?_ rfl ?_ ?_; rotate_left; focus (intro w hSw; clear hSw; go_simp; try (with_reducible rfl))
    try simp only [Act.put, sA, sZ, sS]
    refine tk 6 ?_ rfl ?_ ?_; rotate_left; focus (intro w hSw; clear hSw; go_simp; try (with_reducible rfl))
    try simp only [Act.put, sA, sZ, sS]
    refine tk 7 ?_ rfl ?_ ?_; rotate_left; focus (intro w hSw; clear hSw; go_simp; try (with_reducible rfl))
    try simp only [Act.put, sA, sZ, sS]
    refine tk 8 ?_ rfl ?_ ?_; rotate_left; focus (intro w hSw; clear hSw; go_simp; try (with_reducible rfl))
    try simp only [Act.put, sA, sZ, sS]
    refine tk 9 ?_ rfl ?_ ?_; rotate_left; focus (intro w hSw; clear hSw; go_simp; try (with_reducible rfl))
    try simp only [Act.put, sA, sZ, sS]
    refine tk 10 ?_ rfl ?_ ?_; rotate_left; focus (intro w hSw; clear hSw; go_simp; try (with_reducible rfl))
    try simp only [Act.put, sA, sZ, sS]
    refine tk 11 ?_ rfl ?_ ?_; rotate_left; focus (intro w hSw; clear hSw; go_simp; try (with_reducible rfl))
    try simp only [Act.put, sA, sZ, sS]
    refine tk 12 ?_ rfl ?_ ?_; rotate_left; focus (intro w hSw; clear hSw; go_simp; try (with_reducible rfl))
    try simp only [Act.put, sA, sZ, sS]
    refine tk 13 ?_ rfl ?_ ?_; rotate_left; focus (intro w hSw; clear hSw; go_simp; try (with_reducible rfl))
    try simp only [Act.put, sA, sZ, sS]
    refine tk 14 ?_ rfl ?_ ?_; rotate_left; focus (intro w hSw; clear hSw; go_simp; try (with_reducible rfl))
    try simp only [Act.put, sA, sZ, sS]
    refine tk 15 ?_ rfl ?_ ?_; rotate_left; focus (intro w hSw; clear hSw; go_simp; try (with_reducible rfl))
    try simp only [Act.put, sA, sZ, sS]
    refine tk 16 ?_ rfl ?_ ?_; rotate_left; focus (intro w hSw; clear hSw; go_simp; try (with_reducible rfl))
    try simp only [Act.put, sA, sZ, sS]
    refine tk 17 ?_ rfl ?_ ?_; rotate_left; focus (intro w hSw; clear hSw; go_simp; try (with_reducible rfl))
    try simp only [Act.put, sA, sZ, sS]
    refine tk 18 ?_ rfl ?_ ?_; rotate_left; focus (intro w hSw; clear hSw; go_simp; try (with_reducible rfl))
    try simp only [Act.put, sA, sZ, sS]
    refine tk 19 ?_ rfl ?_ ?_; rotate_left; focus (intro w hSw; clear hSw; go_simp; try (with_reducible rfl))
    try simp only [Act.put, sA, sZ, sS]
    refine tk 20 ?_ rfl ?_ ?_; rotate_left; focus (intro w hSw; clear hSw; go_simp; try (with_reducible rfl))
    try simp only [Act.put, sA, sZ, sS]
    refine tk 21 ?_ rfl ?_ ?_; rotate_left; focus (intro w hSw; clear hSw; go_simp; try (with_reducible rfl))
    try simp only [Act.put, sA, sZ, sS]
    refine tk 22 ?_ rfl ?_ ?_; rotate_left; focus (intro w hSw; clear hSw; go_simp; try (with_reducible rfl))
    try simp only [Act.put, sA, sZ, sS]
    refine tk 23 ?_ rfl ?_ ?_; rotate_left; focus (intro w hSw; clear hSw; go_simp; try (with_reducible rfl))
    try simp only [Act.put, sA, sZ, sS]
    refine tk 24 ?_ rfl ?_ ?_; rotate_left; focus (intro w hSw; clear hSw; go_simp; try (with_reducible rfl))
    try simp only [Act.put, sA, sZ, sS]
    refine tk 25 ?_ rfl ?_ ?_; rotate_left; focus (intro w hSw; clear hSw; go_simp; try (with_reducible rfl))
    try simp only [Act.put, sA, sZ, sS]
    refine tk 26 ?_ rfl ?_ ?_; rotate_left; focus (intro w hSw; clear hSw; go_simp; try (with_reducible rfl))
    try simp only [Act.put, sA, sZ, sS]
    refine tk 27 ?_ rfl ?_ ?_; rotate_left; focus (intro w hSw; clear hSw; go_simp; try (with_reducible rfl))
    try simp only [Act.put, sA, sZ, sS]
    refine tk 28 ?_ rfl ?_ ?_; rotate_left
    · intro wl hSw
      have hSw : Keep _ wl := hSw
      have k0 := (hSw _ (.head _)).1
      dsimp only at k0
      clear hSw
      go_simp
      try (with_reducible rfl)
    try simp only [Act.put, sA, sZ, sS]
    refine tk 29 ?_ rfl ?_ ?_; rotate_left; focus (intro w hSw; clear hSw; go_simp; try (with_reducible rfl))
    try simp only [Act.put, sA, sZ, sS]
    refine tk 30 ?_ rfl ?_ ?_; rotate_left; focus (intro w hSw; clear hSw; go_simp; try (with_reducible rfl))
    try simp only [Act.put, sA, sZ, sS]
    refine tk 31 ?_ rfl ?_ ?_; rotate_left
    · intro wl hSw
      have hSw : Keep _ wl := hSw
      have k0 := (hSw _ (.tail _ (.head _))).1
      dsimp only at k0
      clear hSw
      go_simp
      try (with_reducible rfl)
    try simp only [Act.put, sA, sZ, sS]
    refine tk 32 ?_ rfl ?_ ?_; rotate_left; focus (intro w hSw; clear hSw; go_simp; try (with_reducible rfl))
    try simp only [Act.put, sA, sZ, sS]
    refine tk 33 ?_ rfl ?_ ?_; rotate_left; focus (intro w hSw; clear hSw; go_simp; try (with_reducible rfl))
    try simp only [Act.put, sA, sZ, sS]
    refine tk 34 ?_ rfl ?_ ?_; rotate_left; focus (intro w hSw; clear hSw; go_simp; try (with_reducible rfl))
    try simp only [Act.put, sA, sZ, sS]
    refine tk 35 ?_ rfl ?_ ?_; rotate_left; focus (intro w hSw; clear hSw; go_simp; try (with_reducible rfl))
    try simp only [Act.put, sA, sZ, sS]
    refine tk 36 ?_ rfl ?_ ?_; rotate_left; focus (intro w hSw; clear hSw; go_simp; try (with_reducible rfl))
    try simp only [Act.put, sA, sZ, sS]
    refine tk 37 ?_ rfl ?_ ?_; rotate_left
    · intro wl hSw
      have hSw : Keep _ wl := hSw
      have k0 := (hSw _ (.head _)).1
      dsimp only at k0
      clear hSw
      go_simp
      try (with_reducible rfl)
    try simp only [Act.put, sA, sZ, sS]
    refine tk 38 ?_ rfl ?_ ?_; rotate_left; focus (intro w hSw; clear hSw; go_simp; try (with_reducible rfl))
    try simp only [Act.put, sA, sZ, sS]
    refine tk 39 ?_ rfl ?_ ?_; rotate_left; focus (intro w hSw; clear hSw; go_simp; try (with_reducible rfl))
    try simp only [Act.put, sA, sZ, sS]
    refine tk 40 ?_ rfl ?_ ?_; rotate_left
    · intro wl hSw
      have hSw : Keep _ wl := hSw
      have k0 := (hSw _ (.tail _ (.tail _ (.head _)))).1
      dsimp only at k0
      clear hSw
      go_simp
      try (with_reducible rfl)
    try simp only [Act.put, sA, sZ, sS]
    refine tk 41 ?_ rfl ?_ ?_; rotate_left; focus (intro w hSw; clear hSw; go_simp; try (with_reducible rfl))
    try simp only [Act.put, sA, sZ, sS]
    refine tk 42 ?_ rfl ?_ ?_; rotate_left; focus (intro w hSw; clear hSw; go_simp; try (with_reducible rfl))
    try simp only [Act.put, sA, sZ, sS]
    refine tk 43 ?_ rfl ?_ ?_; rotate_left; focus (intro w hSw; clear hSw; go_simp; try (with_reducible rfl))
    try simp only [Act.put, sA, sZ, sS]
    refine tk 44 ?_ rfl ?_ ?_; rotate_left; focus (intro w hSw; clear hSw; go_simp; try (with_reducible rfl))
    try simp only [Act.put, sA, sZ, sS]
    refine tk 45 ?_ rfl ?_ ?_; rotate_left; focus (intro w hSw; clear hSw; go_simp; try (with_reducible rfl))
    try simp only [Act.put, sA, sZ, sS]
    refine tk 46 ?_ rfl ?_ ?_; rotate_left; focus (intro w hSw; clear hSw; go_simp; try (with_reducible rfl))
    try simp only [Act.put, sA, sZ, sS]
    refine tk 47 ?_ rfl ?_ ?_; rotate_left; focus (intro w hSw; clear hSw; go_simp; try (with_reducible rfl))
    try simp only [Act.put, sA, sZ, sS]
    refine tk 48 ?_ rfl ?_ ?_; rotate_left; focus (intro w hSw; clear hSw; go_simp; try (with_reducible rfl))
    try simp only [Act.put, sA, sZ, sS]
    refine tk 49 ?_ rfl ?_ ?_; rotate_left; focus (intro w hSw; clear hSw; go_simp; try (with_reducible rfl))
    try simp only [Act.put, sA, sZ, sS]
    refine tk 50 ?_ rfl ?_ ?_; rotate_left; focus (intro w hSw; clear hSw; go_simp; try (with_reducible rfl))
    try simp only [Act.put, sA, sZ, sS]
    refine tk 51 ?_ rfl ?_ ?_; rotate_left; focus (intro w hSw; clear hSw; go_simp; try (with_reducible rfl))
    try simp only [Act.put, sA, sZ, sS]
    refine tk 52 ?_ rfl ?_ ?_; rotate_left; focus (intro w hSw; clear hSw; go_simp; try (with_reducible rfl))
    try simp only [Act.put, sA, sZ, sS]
    refine tk 53 ?_ rfl ?_ ?_; rotate_left; focus (intro w hSw; clear hSw; go_simp; try (with_reducible rfl))
    try simp only [Act.put, sA, sZ, sS]
    refine wpAnyH_done (by kernel_rfl) ?_ _
    have B14 := Lib.hid (btwo BB.out (bdrew w13))
    clear hHeld hKp
    go_wp2_with fail
    go_ret
    exact ⟨by first | rfl | simp, B14.out⟩
end Go.Proofs.Ytgdfjblfpeedjaa
