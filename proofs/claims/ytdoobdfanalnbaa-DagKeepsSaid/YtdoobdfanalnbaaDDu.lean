/- The walk of DagKeeps. -/
import Derived.Test.YtdoobdfanalnbaaDDs
import Derived.Test.YtdoobdfanalnbaaDDt
import Derived.Test.YtdoobdfanalnbaaDDr
import Derived.Test.YtdoobdfanalnbaaDDq
import Derived.Test.YtdoobdfanalnbaaDDn
import Derived.Test.YtdoobdfanalnbaaDCp
import Derived.Test.YtdoobdfanalnbaaDBd
namespace Go.Proofs.Ytdoobdfanalnbaa
open Go.RowKit
set_option linter.unusedVariables false
set_option linter.unusedSimpArgs false
set_option maxRecDepth 100000

theorem co_len (g : Gr) : g.co.length ≤ 2000 := by
  unfold Gr.co
  rw [srt_len, List.length_map]
  exact pth_len g
set_option maxHeartbeats 64000000 in
theorem lawkeeps_any (x : Int) (A : Option Addr) (n c : Nat) (L : List Nat) (w : World) (hx : 0 ≤ x ∧ x ≤ 255) (hl : L.length = n) (hn : n ≤ 70368744177664) (hL : ∀ v ∈ L, v ≤ 65535) (hc : CellsIn w A (words L)) :
    Calls Try.prog 4 #[.int .u8 x, .slice A n c] w fun e w' => e = .returned (.bool true) ∧ Below w.heap.size w w' := by
  obtain ⟨x, rfl⟩ := Int.eq_ofNat_of_zero_le hx.1
  have hx2 : x ≤ 255 := by omega
  have HM := Lib.hid (show ∀ W, Below w.heap.size w W → Calls Try.prog 21 #[.int .u8 (x : Int), .slice A n c] W (MadePost W) from fun W hW => rmade_any x A n c L W hx2 hl hn hL (hc.below hW))
  clear hx hl hL hc
  go_enter Try.func4, Try.ntmps4
  go_wp2_with fail
  refine (awake_any _).mono ?_
  rintro e w1 ⟨rfl, b1⟩
  have V1 := Lib.hid (show Hp w [] w1 from (Hp.start w).go b1)
  clear b1
  by_cases hn40 : n ≤ 40
  case neg =>
    have hn2 : 40 < n := by omega
    go_wp2_with fail
    refine (awake_any _).mono ?_
    rintro e w3 ⟨rfl, b3⟩
    have V3 := Lib.hid (V1.out.go b3)
    clear b3
    go_wp2_with fail
    go_ret
    exact ⟨rfl, V3.out.below⟩
  go_wp2_with fail
  refine (HM.out _ V1.out.below).mono ?_
  rintro e w2 ⟨g, C, m, d, rfl, hO, hg12, hm, hm40, hp⟩
  have V2 := Lib.hid (show Hp w [arow C m d g.rs] w2 from V1.out.join hp)
  have HO := Lib.hid hO
  have HML := Lib.hid hm
  have HV := Lib.hid hO.vE
  clear hO hm hp V1 hg12
  obtain ⟨bg, hbg⟩ : ∃ b, b = w2.heap.size := ⟨_, rfl⟩
  obtain ⟨w3, hw3⟩ : ∃ z, z = w2.alloc (.cells #[.int .i64 g.n, .slice C m d] 24) := ⟨_, rfl⟩
  have HW3 := Lib.hid hw3
  have V3 := Lib.hid (show Hp w [gbox bg g C m d, arow C m d g.rs] w3 by rw [hw3, hbg]; exact V2.out.gnew g C m d)
  clear hw3
  go_upto_region 4 with fail
  rw [← HW3.out, ← hbg]
  clear HW3 hbg V2
  obtain ⟨y, hy⟩ : ∃ y, y = g.pth.2 := ⟨_, rfl⟩
  have HPA := Lib.hid (show ∀ W, GrIn W C m d g → Calls Try.prog 22 #[gval g C m d] W fun e w' => ∃ (Q : Option Addr) (qn qc : Nat), e = .returned (.tuple #[.slice Q qn qc, .int .i64 y]) ∧ Below W.heap.size W w' from fun W h => (rpaths_any g C m d W h).mono fun e w' ⟨Q, qn, qc, us, h1, _, _, h4⟩ => ⟨Q, qn, qc, by rw [h1, hy], h4.below⟩)
  have HY := Lib.hid hy
  clear hy
  obtain ⟨r0, r1, r9⟩ := V3.out.gb (i := 0) rfl
  go_wp2_with fail
  refine (HPA.out _ (V3.out.grIn (i := 1) rfl HML.out (by omega))).mono ?_
  rintro e w4 ⟨Q, qn, qc, rfl, b4⟩
  have V4 := Lib.hid (V3.out.go b4)
  clear b4 r0 r1 r9 V3 HPA
  by_cases hy0 : y = 0
  case neg =>
    have e1 : (y != 0) = true := bne_yes hy0
    clear hy0
    go_wp2_with fail
    go_ret
    exact ⟨rfl, V4.out.below⟩
  have HP0 := Lib.hid (show g.pth.2 = 0 by rw [← HY.out]; exact hy0)
  subst hy0
  obtain ⟨R, hR⟩ : ∃ R, R = g.rv.1 := ⟨_, rfl⟩
  obtain ⟨K, hK⟩ : ∃ K, K = g.co := ⟨_, rfl⟩
  have HRR := Lib.hid (show ∀ W, GrIn W C m d g → Calls Try.prog 23 #[gval g C m d] W fun e w' => ∃ (C : Option Addr) (m d : Nat), e = .returned (.tuple #[gval R C m d, .int .i64 0]) ∧ R.rs.length = m ∧ Hp W [arow C m d R.rs] w' from fun W h => by
    have := reverse_any g C m d W h
    unfold RevPost at this
    rw [rv_err, HV.out, ← hR] at this
    exact this)
  have HRL := Lib.hid (show R.rs.length ≤ 40 by rw [hR]; have := rvg_len g; have := HML.out; omega)
  have HRV := Lib.hid (show R.vE = 0 by rw [hR]; exact rv_good HV.out)
  have HRC := Lib.hid (show R.co = K by rw [hR, hK]; exact pth_of HP0.out (rv_good HV.out) (cs_rev HV.out))
  have HKL := Lib.hid (show K.length ≤ 2000 by rw [hK]; exact co_len g)
  have HCG := Lib.hid (show ∀ W, GrIn W C m d g → Calls Try.prog 25 #[gval g C m d] W (NumsP W K) from fun W h => by rw [hK]; exact costs_any g C m d W h)
  have HK0 := Lib.hid (show g.wy 0 = 0 → K = [] from fun h => by rw [hK]; exact co_none HP0.out h)
  have HTK := Lib.hid (show ¬ g.wy 0 = 0 → g.tg.co = K from fun h => by rw [hK]; exact pth_of HP0.out (tr_valid HV.out h) (cs_tr HV.out h))
  have HEQ := Lib.hid (show ∀ (W : World) (B1 B2 : Option Addr) (n1 d1 n2 d2 : Nat), K.length = n1 → K.length = n2 → CellsIn W B1 (ints K) → CellsIn W B2 (ints K) → Calls Try.prog 20 #[.slice B1 n1 d1, .slice B2 n2 d2] W fun e w' => e = .returned (.bool true) ∧ Below W.heap.size W w' from fun W B1 B2 n1 d1 n2 d2 h1 h2 c1 c2 =>
    (equal_nums B1 B2 n1 d1 n2 d2 K K W h1 h2 (by have := HKL.out; omega) (by have := HKL.out; omega) c1 c2).mono fun e w' ⟨h1, h2⟩ => ⟨by rw [h1, decide_eq_true rfl], h2⟩)
  clear hR hK
  obtain ⟨r0, r1, r9⟩ := V4.out.gb (i := 0) rfl
  go_wp2_with fail
  refine (HRR.out _ (V4.out.grIn (i := 1) rfl HML.out (by omega))).mono ?_
  rintro e w5 ⟨C2, m2, d2, rfl, hm2, hp5⟩
  have HM2 := Lib.hid hm2
  have hm2b : m2 ≤ 40 := by have := HRL.out; omega
  have V5 := Lib.hid (V4.out.join hp5)
  clear hp5 hm2 V4 r0 r1 r9
  obtain ⟨bh, hbh⟩ : ∃ b, b = w5.heap.size := ⟨_, rfl⟩
  obtain ⟨w6, hw6⟩ : ∃ z, z = w5.alloc (.cells #[.int .i64 R.n, .slice C2 m2 d2] 24) := ⟨_, rfl⟩
  have HW6 := Lib.hid hw6
  have V6 := Lib.hid (show Hp w [gbox bh R C2 m2 d2, arow C2 m2 d2 R.rs, gbox bg g C m d, arow C m d g.rs] w6 by rw [hw6, hbh]; exact V5.out.gnew R C2 m2 d2)
  clear hw6
  go_upto_region 8 with fail
  rw [← HW6.out, ← hbh]
  clear HW6 hbh V5
  have HVL := Lib.hid (show ∀ W, GrIn W C2 m2 d2 R → Calls Try.prog 24 #[gval R C2 m2 d2] W fun e w' => e = .returned (.int .i64 0) ∧ Below W.heap.size W w' from fun W h => by rw [← HRV.out]; exact rvalid_any R C2 m2 d2 W h)
  have HCR := Lib.hid (show ∀ W, GrIn W C2 m2 d2 R → Calls Try.prog 25 #[gval R C2 m2 d2] W (NumsP W K) from fun W h => by rw [← HRC.out]; exact costs_any R C2 m2 d2 W h)
  obtain ⟨s0, s1, s9⟩ := V6.out.gb (i := 0) rfl
  obtain ⟨t0, t1, t9⟩ := V6.out.gb (i := 2) rfl
  have hKp : Keep [(⟨bh, 0, none⟩, .int .i64 R.n), (⟨bh, 1, none⟩, .slice C2 m2 d2), (⟨bg, 0, none⟩, .int .i64 g.n), (⟨bg, 1, none⟩, .slice C m d)] w6 := List.forall_mem_cons.2 ⟨⟨s0, s9⟩, List.forall_mem_cons.2 ⟨⟨s1, s9⟩, List.forall_mem_cons.2 ⟨⟨t0, t9⟩, List.forall_mem_cons.2 ⟨⟨t1, t9⟩, fun _ h => by simp at h⟩⟩⟩⟩
  refine wp_region_held_drew (S := Keep _) (by kernel_rfl) hKp.drew (fun hHeld => ?_)
  have V6d := Lib.hid (V6.out.go (bdrew _))
  refine tk 0 ?_ rfl ?_ ?_; rotate_left; focus (intro w hSw; clear hSw; go_simp; try (with_reducible rfl))
  try simp only [Act.put, sA, sZ, sS]
  refine tk 1 ?_ rfl ?_ ?_; rotate_left; focus (intro w hSw; clear hSw; go_simp; try (with_reducible rfl))
  try simp only [Act.put, sA, sZ, sS]
  refine tk 2 ?_ rfl ?_ ?_; rotate_left; focus (intro w hSw; clear hSw; go_simp; try (with_reducible rfl))
  try simp only [Act.put, sA, sZ, sS]
  refine tk 3 ?_ rfl ?_ ?_; rotate_left
  · intro wl hSw
    have hSw : Keep _ wl := hSw
    have k0 : wl.cell? ⟨bh, 0, none⟩ = some (.int .i64 R.n) := (hSw _ (.head _)).1
    have k1 : wl.cell? ⟨bh, 1, none⟩ = some (.slice C2 m2 d2) := (hSw _ (.tail _ (.head _))).1
    clear hSw
    go_simp
    try (with_reducible rfl)
  try simp only [Act.put, sA, sZ, sS]
  refine wpAnyH_ready (rs := [4]) (by kernel_rfl) (by simp) ?_
  refine AllReadyH.cons (List.getElem?_toArray.trans rfl) (fun K hK => ?_) AllReadyH.nil
  go_simp
  refine (HVL.out _ (V6d.out.grIn (i := 1) rfl HM2.out (by omega))).mono ?_
  rintro e w_4 ⟨rfl, b_4⟩
  try go_wp2_with fail
  have V_4 := Lib.hid (V6d.out.go b_4)
  refine hK.out _ _ (hHeld.go b_4) (fun hHeld => ?_)
  clear hK K
  try simp only [Act.put, sA, sZ, sS]
  refine tk 5 ?_ rfl ?_ ?_; rotate_left; focus (intro w hSw; clear hSw; go_simp; try (with_reducible rfl))
  try simp only [Act.put, sA, sZ, sS]
  refine tk 6 ?_ rfl ?_ ?_; rotate_left; focus (intro w hSw; clear hSw; go_simp; try (with_reducible rfl))
  try simp only [Act.put, sA, sZ, sS]
  refine tk 7 ?_ rfl ?_ ?_; rotate_left; focus (intro w hSw; clear hSw; go_simp; try (with_reducible rfl))
  try simp only [Act.put, sA, sZ, sS]
  refine tk 8 ?_ rfl ?_ ?_; rotate_left
  · intro wl hSw
    have hSw : Keep _ wl := hSw
    have k0 : wl.cell? ⟨bh, 0, none⟩ = some (.int .i64 R.n) := (hSw _ (.head _)).1
    have k1 : wl.cell? ⟨bh, 1, none⟩ = some (.slice C2 m2 d2) := (hSw _ (.tail _ (.head _))).1
    clear hSw
    go_simp
    try (with_reducible rfl)
  try simp only [Act.put, sA, sZ, sS]
  refine tk 10 ?_ rfl ?_ ?_; rotate_left
  · intro wl hSw
    have hSw : Keep _ wl := hSw
    have k0 : wl.cell? ⟨bg, 0, none⟩ = some (.int .i64 g.n) := (hSw _ (.tail _ (.tail _ (.head _)))).1
    have k1 : wl.cell? ⟨bg, 1, none⟩ = some (.slice C m d) := (hSw _ (.tail _ (.tail _ (.tail _ (.head _))))).1
    clear hSw
    go_simp
    try (with_reducible rfl)
  try simp only [Act.put, sA, sZ, sS]
  refine wpAnyH_ready (rs := [9]) (by kernel_rfl) (by simp) ?_
  refine AllReadyH.cons (List.getElem?_toArray.trans rfl) (fun K hK => ?_) AllReadyH.nil
  go_simp
  refine (HCR.out _ (V_4.out.grIn (i := 1) rfl HM2.out (by omega))).mono ?_
  rintro e w_4_9 ⟨B1, n1, d1, rfl, hl1, hp1⟩
  try go_wp2_with fail
  have hb1 := hp1.below
  have HL1 := Lib.hid hl1
  clear hl1
  have V_4_9 := Lib.hid (V_4.out.join hp1)
  refine hK.out _ _ (hHeld.go hb1) (fun hHeld => ?_)
  clear hK K
  try simp only [Act.put, sA, sZ, sS]
  refine wpAnyH_ready (rs := [11]) (by kernel_rfl) (by simp) ?_
  refine AllReadyH.cons (List.getElem?_toArray.trans rfl) (fun K hK => ?_) AllReadyH.nil
  go_simp
  refine (HCG.out _ (V_4_9.out.grIn (i := 4) rfl HML.out (by omega))).mono ?_
  rintro e w_4_9_11 ⟨B2, n2, d2', rfl, hl2, hp2⟩
  try go_wp2_with fail
  have hb2 := hp2.below
  have HL2 := Lib.hid hl2
  clear hl2
  have V_4_9_11 := Lib.hid (V_4_9.out.join hp2)
  refine hK.out _ _ (hHeld.go hb2) (fun hHeld => ?_)
  clear hK K
  try simp only [Act.put, sA, sZ, sS]
  refine wpAnyH_ready (rs := [12]) (by kernel_rfl) (by simp) ?_
  refine AllReadyH.cons (List.getElem?_toArray.trans rfl) (fun K hK => ?_) AllReadyH.nil
  go_simp
  refine (HEQ.out _ B1 B2 n1 d1 n2 d2' HL1.out HL2.out (V_4_9_11.out.cells (i := 1) rfl rfl) (V_4_9_11.out.cells (i := 0) rfl rfl)).mono ?_
  rintro e w_4_9_11_12 ⟨rfl, b_4_9_11_12⟩
  try go_wp2_with fail
  have V_4_9_11_12 := Lib.hid (V_4_9_11.out.go b_4_9_11_12)
  refine hK.out _ _ (hHeld.go b_4_9_11_12) (fun hHeld => ?_)
  clear hK K
  try simp only [Act.put, sA, sZ, sS]
  refine tk 13 ?_ rfl ?_ ?_; rotate_left; focus (intro w hSw; clear hSw; go_simp; try (with_reducible rfl))
  try simp only [Act.put, sA, sZ, sS]
  refine tk 14 ?_ rfl ?_ ?_; rotate_left; focus (intro w hSw; clear hSw; go_simp; try (with_reducible rfl))
  try simp only [Act.put, sA, sZ, sS]
  refine wpAnyH_done (by kernel_rfl) ?_ _
  clear hKp hHeld s0 s1 s9 t0 t1 t9 hb1 hb2 hp1 hp2
  have V7 := Lib.hid (show Hp w [gbox bg g C m d, arow C m d g.rs] _ from V_4_9_11_12.out.pick [4, 5] (by decide) rfl)
  clear V_4_9_11_12 V6
  obtain ⟨Z, hZ⟩ : ∃ Z, Z = g.tr.1 := ⟨_, rfl⟩
  obtain ⟨K2, hK2⟩ : ∃ K, K = g.tr.2.1 := ⟨_, rfl⟩
  obtain ⟨y2, hy2⟩ : ∃ y, y = g.tr.2.2 := ⟨_, rfl⟩
  have HTR := Lib.hid (show ∀ W, GrIn W C m d g → Calls Try.prog 17 #[gval g C m d] W fun e w' => ∃ (C : Option Addr) (m d : Nat) (B : Option Addr) (bn bc : Nat), e = .returned (.tuple #[gval Z C m d, .slice B bn bc, .int .i64 y2]) ∧ Z.rs.length = m ∧ Hp W [arow C m d Z.rs, nums B bn bc K2] w' from fun W h => (trim_any g C m d W h).mono fun e w' ⟨C, m, d, B, bn, bc, h1, h2, _, h4⟩ => by
    rw [hZ, hK2, hy2]; exact ⟨C, m, d, B, bn, bc, h1, h2, h4⟩)
  have HZL := Lib.hid (show Z.rs.length ≤ 6000 by rw [hZ]; exact (tr_len g).1)
  have HT0 := Lib.hid (show g.wy 0 = 0 → y2 = 10 from fun h => by rw [hy2, tr_none HV.out h])
  have HT1 := Lib.hid (show ¬ g.wy 0 = 0 → y2 = 0 ∧ Z.vE = 0 ∧ Z.co = K from fun h => by
    rw [hy2, hZ, tr_ok HV.out h]
    exact ⟨rfl, tr_valid HV.out h, HTK.out h⟩)
  clear hZ hK2 hy2 HRR HVL HCR HL1 HL2
  obtain ⟨r0, r1, r9⟩ := V7.out.gb (i := 0) rfl
  go_wp2_with fail
  refine (HTR.out _ (V7.out.grIn (i := 1) rfl HML.out (by omega))).mono ?_
  rintro e w8 ⟨C3, m3, d3, B3, bn3, bc3, rfl, hm3, hp8⟩
  have HM3 := Lib.hid hm3
  have hm3b : m3 ≤ 6000 := by have := HZL.out; omega
  have V8 := Lib.hid (V7.out.join hp8)
  clear hp8 hm3 V7 r0 r1 r9
  obtain ⟨bk, hbk⟩ : ∃ b, b = w8.heap.size := ⟨_, rfl⟩
  obtain ⟨w9, hw9⟩ : ∃ z, z = w8.alloc (.cells #[.int .i64 Z.n, .slice C3 m3 d3] 24) := ⟨_, rfl⟩
  have HW9 := Lib.hid hw9
  have V9 := Lib.hid (show Hp w [gbox bk Z C3 m3 d3, arow C3 m3 d3 Z.rs, nums B3 bn3 bc3 K2, gbox bg g C m d, arow C m d g.rs] w9 by rw [hw9, hbk]; exact V8.out.gnew Z C3 m3 d3)
  clear hw9
  go_upto_region 11 with fail
  rw [← HW9.out, ← hbk]
  clear HW9 hbk V8
  by_cases hw0 : g.wy 0 = 0
  case pos =>
    obtain rfl : y2 = 10 := HT0.out hw0
    have HKE := Lib.hid (HK0.out hw0)
    clear hw0
    obtain ⟨r0, r1, r9⟩ := V9.out.gb (i := 3) rfl
    go_wp2_with fail
    refine (HCG.out _ (V9.out.grIn (i := 4) rfl HML.out (by omega))).mono ?_
    rintro e w10 ⟨B4, n4, d4, rfl, hl4, hp4⟩
    have V10 := Lib.hid (V9.out.join hp4)
    obtain rfl : n4 = 0 := by rw [← hl4, HKE.out]; rfl
    clear hl4 hp4
    go_wp2_with fail
    go_ret
    exact ⟨rfl, V10.out.below⟩
  obtain ⟨hy2, hzv, hzc⟩ := HT1.out hw0
  have HZV := Lib.hid hzv
  have HZC := Lib.hid hzc
  subst hy2
  clear hzv hzc hw0
  have HVL := Lib.hid (show ∀ W, GrIn W C3 m3 d3 Z → Calls Try.prog 24 #[gval Z C3 m3 d3] W fun e w' => e = .returned (.int .i64 0) ∧ Below W.heap.size W w' from fun W h => by rw [← HZV.out]; exact rvalid_any Z C3 m3 d3 W h)
  have HCZ := Lib.hid (show ∀ W, GrIn W C3 m3 d3 Z → Calls Try.prog 25 #[gval Z C3 m3 d3] W (NumsP W K) from fun W h => by rw [← HZC.out]; exact costs_any Z C3 m3 d3 W h)
  go_upto_region 13 with fail
  obtain ⟨s0, s1, s9⟩ := V9.out.gb (i := 0) rfl
  obtain ⟨t0, t1, t9⟩ := V9.out.gb (i := 3) rfl
  have hKp : Keep [(⟨bk, 0, none⟩, .int .i64 Z.n), (⟨bk, 1, none⟩, .slice C3 m3 d3), (⟨bg, 0, none⟩, .int .i64 g.n), (⟨bg, 1, none⟩, .slice C m d)] w9 := List.forall_mem_cons.2 ⟨⟨s0, s9⟩, List.forall_mem_cons.2 ⟨⟨s1, s9⟩, List.forall_mem_cons.2 ⟨⟨t0, t9⟩, List.forall_mem_cons.2 ⟨⟨t1, t9⟩, fun _ h => by simp at h⟩⟩⟩⟩
  refine wp_region_held_drew (S := Keep _) (by kernel_rfl) hKp.drew (fun hHeld => ?_)
  have V9d := Lib.hid (V9.out.go (bdrew _))
  refine tk 0 ?_ rfl ?_ ?_; rotate_left
  · intro wl hSw
    have hSw : Keep _ wl := hSw
    have k0 : wl.cell? ⟨bk, 0, none⟩ = some (.int .i64 Z.n) := (hSw _ (.head _)).1
    have k1 : wl.cell? ⟨bk, 1, none⟩ = some (.slice C3 m3 d3) := (hSw _ (.tail _ (.head _))).1
    clear hSw
    go_simp
    try (with_reducible rfl)
  try simp only [Act.put, sA, sZ, sS]
  refine wpAnyH_ready (rs := [1]) (by kernel_rfl) (by simp) ?_
  refine AllReadyH.cons (List.getElem?_toArray.trans rfl) (fun K hK => ?_) AllReadyH.nil
  go_simp
  refine (HVL.out _ (V9d.out.grIn (i := 1) rfl HM3.out (by omega))).mono ?_
  rintro e w_1 ⟨rfl, b_1⟩
  try go_wp2_with fail
  have V_1 := Lib.hid (V9d.out.go b_1)
  refine hK.out _ _ (hHeld.go b_1) (fun hHeld => ?_)
  clear hK K
  try simp only [Act.put, sA, sZ, sS]
  refine tk 2 ?_ rfl ?_ ?_; rotate_left; focus (intro w hSw; clear hSw; go_simp; try (with_reducible rfl))
  try simp only [Act.put, sA, sZ, sS]
  refine tk 3 ?_ rfl ?_ ?_; rotate_left; focus (intro w hSw; clear hSw; go_simp; try (with_reducible rfl))
  try simp only [Act.put, sA, sZ, sS]
  refine tk 4 ?_ rfl ?_ ?_; rotate_left
  · intro wl hSw
    have hSw : Keep _ wl := hSw
    have k0 : wl.cell? ⟨bk, 0, none⟩ = some (.int .i64 Z.n) := (hSw _ (.head _)).1
    have k1 : wl.cell? ⟨bk, 1, none⟩ = some (.slice C3 m3 d3) := (hSw _ (.tail _ (.head _))).1
    clear hSw
    go_simp
    try (with_reducible rfl)
  try simp only [Act.put, sA, sZ, sS]
  refine tk 6 ?_ rfl ?_ ?_; rotate_left
  · intro wl hSw
    have hSw : Keep _ wl := hSw
    have k0 : wl.cell? ⟨bg, 0, none⟩ = some (.int .i64 g.n) := (hSw _ (.tail _ (.tail _ (.head _)))).1
    have k1 : wl.cell? ⟨bg, 1, none⟩ = some (.slice C m d) := (hSw _ (.tail _ (.tail _ (.tail _ (.head _))))).1
    clear hSw
    go_simp
    try (with_reducible rfl)
  try simp only [Act.put, sA, sZ, sS]
  refine wpAnyH_ready (rs := [5]) (by kernel_rfl) (by simp) ?_
  refine AllReadyH.cons (List.getElem?_toArray.trans rfl) (fun K hK => ?_) AllReadyH.nil
  go_simp
  refine (HCZ.out _ (V_1.out.grIn (i := 1) rfl HM3.out (by omega))).mono ?_
  rintro e w_1_5 ⟨B1, n1, d1, rfl, hl1, hp1⟩
  try go_wp2_with fail
  have hb1 := hp1.below
  have HL1 := Lib.hid hl1
  clear hl1
  have V_1_5 := Lib.hid (V_1.out.join hp1)
  refine hK.out _ _ (hHeld.go hb1) (fun hHeld => ?_)
  clear hK K
  try simp only [Act.put, sA, sZ, sS]
  refine wpAnyH_ready (rs := [7]) (by kernel_rfl) (by simp) ?_
  refine AllReadyH.cons (List.getElem?_toArray.trans rfl) (fun K hK => ?_) AllReadyH.nil
  go_simp
  refine (HCG.out _ (V_1_5.out.grIn (i := 5) rfl HML.out (by omega))).mono ?_
  rintro e w_1_5_7 ⟨B2, n2, d2', rfl, hl2, hp2⟩
  try go_wp2_with fail
  have hb2 := hp2.below
  have HL2 := Lib.hid hl2
  clear hl2
  have V_1_5_7 := Lib.hid (V_1_5.out.join hp2)
  refine hK.out _ _ (hHeld.go hb2) (fun hHeld => ?_)
  clear hK K
  try simp only [Act.put, sA, sZ, sS]
  refine wpAnyH_ready (rs := [8]) (by kernel_rfl) (by simp) ?_
  refine AllReadyH.cons (List.getElem?_toArray.trans rfl) (fun K hK => ?_) AllReadyH.nil
  go_simp
  refine (HEQ.out _ B1 B2 n1 d1 n2 d2' HL1.out HL2.out (V_1_5_7.out.cells (i := 1) rfl rfl) (V_1_5_7.out.cells (i := 0) rfl rfl)).mono ?_
  rintro e w_1_5_7_8 ⟨rfl, b_1_5_7_8⟩
  try go_wp2_with fail
  have V_1_5_7_8 := Lib.hid (V_1_5_7.out.go b_1_5_7_8)
  refine hK.out _ _ (hHeld.go b_1_5_7_8) (fun hHeld => ?_)
  clear hK K
  try simp only [Act.put, sA, sZ, sS]
  refine tk 9 ?_ rfl ?_ ?_; rotate_left; focus (intro w hSw; clear hSw; go_simp; try (with_reducible rfl))
  try simp only [Act.put, sA, sZ, sS]
  refine tk 10 ?_ rfl ?_ ?_; rotate_left; focus (intro w hSw; clear hSw; go_simp; try (with_reducible rfl))
  try simp only [Act.put, sA, sZ, sS]
  refine wpAnyH_done (by kernel_rfl) ?_ _
  clear hKp hHeld
  go_wp2_with fail
  go_ret
  exact ⟨rfl, V_1_5_7_8.out.below⟩
end Go.Proofs.Ytdoobdfanalnbaa
