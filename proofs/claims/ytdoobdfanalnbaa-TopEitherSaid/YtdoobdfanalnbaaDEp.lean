/- Top: the walk of TopEither. -/
import Derived.Test.YtdoobdfanalnbaaDEo
import Derived.Test.YtdoobdfanalnbaaDDt
import Derived.Test.YtdoobdfanalnbaaDDl
import Derived.Test.YtdoobdfanalnbaaDDh
import Derived.Test.YtdoobdfanalnbaaDAf
namespace Go.Proofs.Ytdoobdfanalnbaa
open Go.RowKit
set_option linter.unusedVariables false
set_option linter.unusedSimpArgs false
set_option maxRecDepth 100000

theorem cut_chkT {g : Gr} (h : g.cutV.2 = 0) : g.ccV g.cutV.1 = true := by
  unfold Gr.cutV at h ⊢
  split
  · rename_i hv; rw [if_pos hv] at h; exact absurd h hv
  · rename_i hv
    rw [if_neg hv] at h
    split
    · rename_i hm; rw [if_pos hm] at h; cases h
    · rename_i hm
      exact cut_ok (Classical.not_not.1 hv) (by simpa using hm)
theorem either_math {g : Gr} (hv : g.vE = 0) {L P : List Int} {E : Int} (h : BestAns g L P E) :
    (E = 0 ∧ g.rck L P = true ∧ g.cutV.2 = 11 ∧ ∀ l, g.ccV l = false) ∨ (E = 10 ∧ g.cutV.2 = 0 ∧ g.ccV g.cutV.1 = true ∧ (∀ l, g.chk l = false) ∧ ∀ l q, g.rck l q = false) := by
  have hO := Gr.ok hv
  have n1 := hO.n1
  rcases h with ⟨h, _⟩ | ⟨_, Z, hZ, ⟨h1, h2, h3, h4⟩ | ⟨h1, h2, h3, h4⟩⟩
  · exact absurd hv h
  · right
    have hno := no_path hv hZ h1
    have hw : ∀ p, ¬ walkP g.rs 0 p = some (g.n - 1) := fun p hp => by
      have := hno p
      unfold Gr.chk at this
      rw [decide_eq_true ⟨hv, hp⟩] at this
      cases this
    have hrc : ¬ g.rc.getD (g.n - 1).toNat false = true := fun e => by
      obtain ⟨p, hp⟩ := (rc_iff hO (by omega)).1 e
      exact hw p hp
    have hc : g.cutV.2 = 0 := by unfold Gr.cutV; rw [if_neg (fun x => x hv), if_neg hrc]
    refine ⟨h4, hc, cut_chkT hc, hno, fun l q => ?_⟩
    unfold Gr.rck
    rw [cst_no hv (hw l), decide_eq_false (fun e => by have := e.1; cases this)]; rfl
  · left
    have hr : g.rck L P = true := by rw [h2, h3]; exact best_rck hv hZ rfl h1
    have hw : walkP g.rs 0 L = some (g.n - 1) := by
      by_cases hw : walkP g.rs 0 L = some (g.n - 1)
      · exact hw
      · unfold Gr.rck at hr
        rw [cst_no hv hw, decide_eq_false (fun e => by have := e.1; cases this)] at hr
        cases hr
    have hrc : g.rc.getD (g.n - 1).toNat false = true := (rc_iff hO (by omega)).2 ⟨L, hw⟩
    refine ⟨h4, hr, by unfold Gr.cutV; rw [if_neg (fun x => x hv), if_pos hrc], fun l => ?_⟩
    cases e : g.ccV l with
    | false => rfl
    | true =>
      have h5 := (cut_none e).2
      have h6 := (some_wy hO).1 hrc
      omega
theorem cut_lenT (g : Gr) : g.cutV.1.length ≤ 2000 := by
  unfold Gr.cutV
  split
  · exact Nat.zero_le _
  · rename_i hv
    have hO := Gr.ok (Classical.not_not.1 hv)
    split
    · exact Nat.zero_le _
    · have h1 := memL_len g.rc
      rw [rc_len] at h1
      have h2 := hO.n2
      show (memL g.rc).length ≤ 2000
      omega
theorem follow_len (g : Gr) (P : List Int) : ∀ (Z : List Int) (s : List Int × Int), (Z.foldl (followS g P) s).1.length ≤ s.1.length + Z.length
  | [], s => Nat.le_refl _
  | i :: Z, s => by
    have h := follow_len g P Z (followS g P s i)
    have h2 : (followS g P s i).1.length ≤ s.1.length + 1 := by
      unfold followS
      split
      · simp
      · omega
    rw [List.foldl_cons, List.length_cons]
    omega
theorem best_len {g : Gr} (hv : g.vE = 0) {L P : List Int} {E : Int} (h : BestAns g L P E) : L.length ≤ 6000 ∧ P.length ≤ 2000 := by
  have hO := Gr.ok hv
  rcases h with ⟨h, _⟩ | ⟨_, Z, hZ, ⟨h1, h2, h3, h4⟩ | ⟨h1, h2, h3, h4⟩⟩
  · exact absurd hv h
  · subst h2; subst h3; exact ⟨Nat.zero_le _, Nat.zero_le _⟩
  · refine ⟨?_, ?_⟩
    · rw [h2]
      have := follow_len g (costsC g g.n.toNat Z) Z ([], 0)
      have e : Z.length = g.rs.length := by rw [hZ.1.length_eq, idL_len]
      have := hO.len
      unfold followL
      simp only [List.length_nil, Nat.zero_add] at *
      omega
    · rw [h3, (costs_ok hO hZ).1]
      have := hO.n2
      omega
set_option maxHeartbeats 64000000 in
theorem topeither_any (x : Int) (A : Option Addr) (n c : Nat) (L : List Nat) (B : Option Addr) (lm ld : Nat) (l : List Int) (w : World) (hx : 0 ≤ x ∧ x ≤ 255) (hl : L.length = n) (hn : n ≤ 70368744177664) (hL : ∀ v ∈ L, v ≤ 65535) (hc : CellsIn w A (words L))
    (hll : l.length = lm) (hlm : lm ≤ 17592186044416) (hld : lm ≤ ld) (hB : CellsIn w B (ints l)) :
    Calls Try.prog 12 #[.int .u8 x, .slice A n c, .slice B lm ld] w fun e w' => e = .returned (.bool true) ∧ Below w.heap.size w w' := by
  obtain ⟨x, rfl⟩ := Int.eq_ofNat_of_zero_le hx.1
  have hx2 : x ≤ 255 := by omega
  have HM := Lib.hid (show ∀ W, Below w.heap.size w W → Calls Try.prog 21 #[.int .u8 (x : Int), .slice A n c] W (MadePost W) from fun W hW => rmade_any x A n c L W hx2 hl hn hL (hc.below hW))
  have HLL := Lib.hid hll
  have HB := Lib.hid hB
  clear hx hl hL hc hll hB
  go_enter Try.func12, Try.ntmps12
  go_wp2_with fail
  refine (awakeT_any _).mono ?_
  rintro e w1 ⟨rfl, b1⟩
  have V1 := Lib.hid (show Hp w [] w1 from (Hp.start w).go b1)
  clear b1
  by_cases hn40 : n ≤ 40
  case neg =>
    have hn2 : 40 < n := by omega
    go_wp2_with fail
    refine (awakeT_any _).mono ?_
    rintro e w3 ⟨rfl, b3⟩
    have V3 := Lib.hid (V1.out.go b3)
    clear b3
    go_wp2_with fail
    go_ret
    exact ⟨rfl, V3.out.below⟩
  by_cases hl40 : lm ≤ 40
  case neg =>
    have hn2 : 40 < lm := by omega
    go_wp2_with fail
    refine (awakeT_any _).mono ?_
    rintro e w3 ⟨rfl, b3⟩
    have V3 := Lib.hid (V1.out.go b3)
    clear b3
    go_wp2_with fail
    go_ret
    exact ⟨rfl, V3.out.below⟩
  go_wp2_with fail
  refine (HM.out _ V1.out.below).mono ?_
  rintro e w2 ⟨g, C, m, d, rfl, hO, hg12, hm, hm40, hp⟩
  have V2 := Lib.hid (show Hp w [arow C m d g.rs] w2 from V1.out.join hp)
  have HML := Lib.hid hm
  have HV := Lib.hid hO.vE
  have n1 := hO.n1
  obtain ⟨N, hN⟩ : ∃ N, N = g.n.toNat := ⟨_, rfl⟩
  have hgN : g.n = (N : Int) := by omega
  clear hO hm hp V1 hN
  have HGN := Lib.hid hgN
  have hN12 : N ≤ 12 := by omega
  clear hg12 n1
  obtain ⟨bg, hbg⟩ : ∃ b, b = w2.heap.size := ⟨_, rfl⟩
  have hgv : gval g C m d = .agg #[.int .i64 (N : Int), .slice C m d] := by unfold gval; rw [hgN]
  obtain ⟨w3, hw3⟩ : ∃ z, z = w2.alloc (.cells #[.int .i64 (N : Int), .slice C m d] 24) := ⟨_, rfl⟩
  have HW3 := Lib.hid hw3
  have V3 := Lib.hid (show Hp w [box 24 bg [.int .i64 (N : Int), .slice C m d], arow C m d g.rs] w3 by rw [hw3, hbg]; exact V2.out.box_new _ [.int .i64 (N : Int), .slice C m d])
  clear hw3
  have HBE := Lib.hid (show ∀ W, GrIn W C m d g → Calls Try.prog 27 #[.agg #[.int .i64 (N : Int), .slice C m d]] W (BestPost g W) from fun W h => by rw [← hgv]; exact best_any g C m d W h)
  have HCU := Lib.hid (show ∀ W, GrIn W C m d g → Calls Try.prog 45 #[.agg #[.int .i64 (N : Int), .slice C m d]] W (CutPost g W) from fun W h => by rw [← hgv]; exact cut_any g C m d W h)
  have HCC := Lib.hid (show ∀ W (B : Option Addr) (q e : Nat) (L : List Int), GrIn W C m d g → L.length = q → q ≤ 17592186044416 → CellsIn W B (ints L) → Calls Try.prog 46 #[.agg #[.int .i64 (N : Int), .slice C m d], .slice B q e] W fun e w' => e = .returned (.bool (g.ccV L)) ∧ Below W.heap.size W w' from fun W B q e L h h1 h2 h3 => by rw [← hgv]; exact checkCut_any g C B m d q e L W h h1 h2 h3)
  have HCK := Lib.hid (show ∀ W (B : Option Addr) (q e : Nat) (L : List Int), GrIn W C m d g → L.length = q → q ≤ 17592186044416 → CellsIn W B (ints L) → Calls Try.prog 47 #[.agg #[.int .i64 (N : Int), .slice C m d], .slice B q e] W fun e w' => e = .returned (.bool (g.chk L)) ∧ Below W.heap.size W w' from fun W B q e L h h1 h2 h3 => by rw [← hgv]; exact check_any g C m d B q e L W h h1 h2 h3)
  have HRK := Lib.hid (show ∀ W (B P : Option Addr) (q e q2 e2 : Nat) (L M : List Int), GrIn W C m d g → L.length = q → q ≤ 17592186044416 → CellsIn W B (ints L) → M.length = q2 → q2 ≤ 17592186044416 → CellsIn W P (ints M) → Calls Try.prog 31 #[.agg #[.int .i64 (N : Int), .slice C m d], .slice B q e, .slice P q2 e2] W fun e w' => e = .returned (.bool (g.rck L M)) ∧ Below W.heap.size W w' from fun W B P q e q2 e2 L M h h1 h2 h3 h4 h5 h6 => by rw [← hgv]; exact rtcheck_any g C B P m d q e q2 e2 L M W h h1 h2 h3 h4 h5 h6)
  clear hgv
  rw [show gval g C m d = .agg #[.int .i64 (N : Int), .slice C m d] by unfold gval; rw [hgN]]
  clear hgN
  go_upto_region 4 with fail
  rw [← HW3.out, ← hbg]
  clear HW3 hbg V2
  obtain ⟨r0, _, r9⟩ := V3.out.box_at (i := 0) (j := 0) rfl rfl
  obtain ⟨r1, _, _⟩ := V3.out.box_at (i := 0) (j := 1) rfl rfl
  go_wp2_with fail
  refine (HBE.out _ (V3.out.grIn (i := 1) rfl HML.out (by omega))).mono ?_
  rintro e w4 ⟨A1, m1, c1, A2, m2, c2, L1, P, E, rfl, hm1, hm2, hba, hp⟩
  have V4 := Lib.hid (V3.out.join hp)
  obtain ⟨hq1, hq2⟩ := best_len HV.out hba
  rw [hm1] at hq1
  rw [hm2] at hq2
  have HM1 := Lib.hid hm1
  have HM2 := Lib.hid hm2
  have HBA := Lib.hid (either_math HV.out hba)
  clear hp hm1 hm2 hba r0 r1 r9 V3
  obtain ⟨r0, _, r9⟩ := V4.out.box_at (i := 2) (j := 0) rfl rfl
  obtain ⟨r1, _, _⟩ := V4.out.box_at (i := 2) (j := 1) rfl rfl
  go_wp2_with fail
  refine (HCU.out _ (V4.out.grIn (i := 3) rfl HML.out (by omega))).mono ?_
  rintro e w5 ⟨A3, m3, c3, rfl, hm3, hp⟩
  have V5 := Lib.hid (V4.out.join hp)
  have hq3 := cut_lenT g
  rw [hm3] at hq3
  have HM3 := Lib.hid hm3
  clear hp hm3 r0 r1 r9 V4
  obtain ⟨r0, _, r9⟩ := V5.out.box_at (i := 3) (j := 0) rfl rfl
  obtain ⟨r1, _, _⟩ := V5.out.box_at (i := 3) (j := 1) rfl rfl
  rcases HBA.out with ⟨hE, hr, hf, hcc⟩ | ⟨hE, hf, hcu, hck, hrk⟩
  · subst hE
    rw [hf]
    have HR := Lib.hid hr
    have HCCF := Lib.hid hcc
    clear hr hf hcc
    go_wp2_with fail
    refine (HRK.out _ A1 A2 m1 c1 m2 c2 L1 P (V5.out.grIn (i := 4) rfl HML.out (by omega)) HM1.out (by omega) (V5.out.cells (i := 1) rfl rfl) HM2.out (by omega) (V5.out.cells (i := 2) rfl rfl)).mono ?_
    rintro e w6 ⟨rfl, b6⟩
    rw [HR.out]
    have V6 := Lib.hid (V5.out.go b6)
    clear b6 r0 r1 r9 V5
    obtain ⟨r0, _, r9⟩ := V6.out.box_at (i := 3) (j := 0) rfl rfl
    obtain ⟨r1, _, _⟩ := V6.out.box_at (i := 3) (j := 1) rfl rfl
    go_wp2_with fail
    refine (HCC.out _ B lm ld l (V6.out.grIn (i := 4) rfl HML.out (by omega)) HLL.out hlm (HB.out.below V6.out.below)).mono ?_
    rintro e w7 ⟨rfl, b7⟩
    rw [HCCF.out l]
    have V7 := Lib.hid (V6.out.go b7)
    clear b7 r0 r1 r9 V6
    go_wp2_with fail
    go_ret
    exact ⟨rfl, V7.out.below⟩
  subst hE
  rw [hf]
  have HCU2 := Lib.hid hcu
  have HCKF := Lib.hid hck
  have HRKF := Lib.hid hrk
  clear hcu hf hck hrk
  have HC1 := Lib.hid (show ∀ W (B : Option Addr) (q e : Nat), GrIn W C m d g → g.cutV.1.length = q → q ≤ 17592186044416 → CellsIn W B (ints g.cutV.1) → Calls Try.prog 46 #[.agg #[.int .i64 (N : Int), .slice C m d], .slice B q e] W fun e w' => e = .returned (.bool true) ∧ Below W.heap.size W w' from fun W B q e h h1 h2 h3 => by rw [← HCU2.out]; exact HCC.out W B q e _ h h1 h2 h3)
  have HK1 := Lib.hid (show ∀ W (B : Option Addr) (q e : Nat) (L : List Int), GrIn W C m d g → L.length = q → q ≤ 17592186044416 → CellsIn W B (ints L) → Calls Try.prog 47 #[.agg #[.int .i64 (N : Int), .slice C m d], .slice B q e] W fun e w' => e = .returned (.bool false) ∧ Below W.heap.size W w' from fun W B q e L h h1 h2 h3 => by rw [← HCKF.out L]; exact HCK.out W B q e L h h1 h2 h3)
  have HR1 := Lib.hid (show ∀ W (B P : Option Addr) (q e q2 e2 : Nat) (L M : List Int), GrIn W C m d g → L.length = q → q ≤ 17592186044416 → CellsIn W B (ints L) → M.length = q2 → q2 ≤ 17592186044416 → CellsIn W P (ints M) → Calls Try.prog 31 #[.agg #[.int .i64 (N : Int), .slice C m d], .slice B q e, .slice P q2 e2] W fun e w' => e = .returned (.bool false) ∧ Below W.heap.size W w' from fun W B P q e q2 e2 L M h h1 h2 h3 h4 h5 h6 => by rw [← HRKF.out L M]; exact HRK.out W B P q e q2 e2 L M h h1 h2 h3 h4 h5 h6)
  go_upto_region 9 with fail
  obtain ⟨k, hk, hkl⟩ : ∃ k : Nat, min (lm : Int) (N : Int) = (k : Int) ∧ k ≤ lm := ⟨min lm N, by omega, by omega⟩
  rw [hk]
  clear hk
  have hkd : k ≤ ld := by omega
  have HBT := Lib.hid (show CellsIn w B (ints (l.take k)) from fun h0 => by
    have h1 : 0 < (ints l).length := by rw [ints_len] at h0 ⊢; rw [List.length_take] at h0; omega
    obtain ⟨b, off, e, hlt, hcell⟩ := HB.out h1
    refine ⟨b, off, e, hlt, fun j u hu => hcell j u ?_⟩
    have hj := (List.getElem?_eq_some_iff.1 hu).1
    rw [ints_len, List.length_take] at hj
    unfold ints at hu ⊢
    rw [List.getElem?_map, List.getElem?_take, if_pos (by omega)] at hu
    rw [List.getElem?_map]
    exact hu)
  have HTK := Lib.hid (show (l.take k).length = k by rw [List.length_take, HLL.out]; omega)

  have hKp : Keep [(⟨bg, 0, none⟩, .int .i64 (N : Int)), (⟨bg, 1, none⟩, .slice C m d)] w5 := List.forall_mem_cons.2 ⟨⟨r0, r9⟩, List.forall_mem_cons.2 ⟨⟨r1, r9⟩, fun _ h => by simp at h⟩⟩
  refine wp_region_held_drew (S := Keep _) (by kernel_rfl) hKp.drew (fun hHeld => ?_)
  have V5d := Lib.hid (V5.out.go (bdrew _))
  refine tk 0 ?_ rfl ?_ ?_; rotate_left; focus (intro w hSw; clear hSw; go_simp; try (with_reducible rfl))
  try simp only [Act.put, sA, sZ, sS]
  refine tk 1 ?_ rfl ?_ ?_; rotate_left; focus (intro w hSw; clear hSw; go_simp; try (with_reducible rfl))
  try simp only [Act.put, sA, sZ, sS]
  refine tk 2 ?_ rfl ?_ ?_; rotate_left; focus (intro w hSw; clear hSw; go_simp; try (with_reducible rfl))
  try simp only [Act.put, sA, sZ, sS]
  refine tk 3 ?_ rfl ?_ ?_; rotate_left; focus (intro w hSw; clear hSw; go_simp; try (with_reducible rfl))
  try simp only [Act.put, sA, sZ, sS]
  refine tk 4 ?_ rfl ?_ ?_; rotate_left; focus (intro w hSw; clear hSw; go_simp; try (with_reducible rfl))
  try simp only [Act.put, sA, sZ, sS]
  refine tk 5 ?_ rfl ?_ ?_; rotate_left; focus (intro w hSw; clear hSw; go_simp; try (with_reducible rfl))
  try simp only [Act.put, sA, sZ, sS]
  refine tk 6 ?_ rfl ?_ ?_; rotate_left; focus (intro w hSw; clear hSw; go_simp; try (with_reducible rfl))
  try simp only [Act.put, sA, sZ, sS]
  refine tk 7 ?_ rfl ?_ ?_; rotate_left
  · intro wl hSw
    have hSw : Keep _ wl := hSw
    have k0 : wl.cell? ⟨bg, 0, none⟩ = some (.int .i64 (N : Int)) := (hSw _ (.head _)).1
    have k1 : wl.cell? ⟨bg, 1, none⟩ = some (.slice C m d) := (hSw _ (.tail _ (.head _))).1
    clear hSw
    go_simp
    try (with_reducible rfl)
  try simp only [Act.put, sA, sZ, sS]
  refine tk 8 ?_ rfl ?_ ?_; rotate_left; focus (intro w hSw; clear hSw; go_simp; try (with_reducible rfl))
  try simp only [Act.put, sA, sZ, sS]
  refine wpAnyH_ready (rs := [9]) (by kernel_rfl) (by simp) ?_
  refine AllReadyH.cons (List.getElem?_toArray.trans rfl) (fun K hK => ?_) AllReadyH.nil
  go_simp
  refine (HC1.out _ A3 m3 c3 (V5d.out.grIn (i := 4) rfl HML.out (by omega)) HM3.out (by omega) (V5d.out.cells (i := 0) rfl rfl)).mono ?_
  rintro e w_9 ⟨rfl, b_9⟩
  try go_wp2_with fail
  have V_9 := Lib.hid (V5d.out.go b_9)
  refine hK.out _ _ (hHeld.go b_9) (fun hHeld => ?_)
  clear hK K
  try simp only [Act.put, sA, sZ, sS]
  refine tk 10 ?_ rfl ?_ ?_; rotate_left; focus (intro w hSw; clear hSw; go_simp; try (with_reducible rfl))
  try simp only [Act.put, sA, sZ, sS]
  refine tk 11 ?_ rfl ?_ ?_; rotate_left; focus (intro w hSw; clear hSw; go_simp; try (with_reducible rfl))
  try simp only [Act.put, sA, sZ, sS]
  refine tk 12 ?_ rfl ?_ ?_; rotate_left
  · intro wl hSw
    have hSw : Keep _ wl := hSw
    have k0 : wl.cell? ⟨bg, 0, none⟩ = some (.int .i64 (N : Int)) := (hSw _ (.head _)).1
    have k1 : wl.cell? ⟨bg, 1, none⟩ = some (.slice C m d) := (hSw _ (.tail _ (.head _))).1
    clear hSw
    go_simp
    try (with_reducible rfl)
  try simp only [Act.put, sA, sZ, sS]
  refine tk 13 ?_ rfl ?_ ?_; rotate_left; focus (intro w hSw; clear hSw; go_simp; try (with_reducible rfl))
  try simp only [Act.put, sA, sZ, sS]
  refine tk 14 ?_ rfl ?_ ?_; rotate_left; focus (intro w hSw; clear hSw; go_simp; try (with_reducible rfl))
  try simp only [Act.put, sA, sZ, sS]
  refine tk 15 ?_ rfl ?_ ?_; rotate_left; focus (intro w hSw; clear hSw; go_simp; try (with_reducible rfl))
  try simp only [Act.put, sA, sZ, sS]
  refine tk 16 ?_ rfl ?_ ?_; rotate_left; focus (intro w hSw; clear hSw; go_simp; try (with_reducible rfl))
  try simp only [Act.put, sA, sZ, sS]
  refine wpAnyH_ready (rs := [17]) (by kernel_rfl) (by simp) ?_
  refine AllReadyH.cons (List.getElem?_toArray.trans rfl) (fun K hK => ?_) AllReadyH.nil
  go_simp
  refine (HR1.out _ B _ lm ld k _ l (l.take k) (V_9.out.grIn (i := 4) rfl HML.out (by omega)) HLL.out hlm (HB.out.below V_9.out.below) HTK.out (by omega) (HBT.out.below V_9.out.below)).mono ?_
  rintro e w_9_17 ⟨rfl, b_9_17⟩
  try go_wp2_with fail
  have V_9_17 := Lib.hid (V_9.out.go b_9_17)
  refine hK.out _ _ (hHeld.go b_9_17) (fun hHeld => ?_)
  clear hK K
  try simp only [Act.put, sA, sZ, sS]
  refine tk 18 ?_ rfl ?_ ?_; rotate_left; focus (intro w hSw; clear hSw; go_simp; try (with_reducible rfl))
  try simp only [Act.put, sA, sZ, sS]
  refine tk 19 ?_ rfl ?_ ?_; rotate_left; focus (intro w hSw; clear hSw; go_simp; try (with_reducible rfl))
  try simp only [Act.put, sA, sZ, sS]
  refine tk 20 ?_ rfl ?_ ?_; rotate_left; focus (intro w hSw; clear hSw; go_simp; try (with_reducible rfl))
  try simp only [Act.put, sA, sZ, sS]
  refine tk 21 ?_ rfl ?_ ?_; rotate_left
  · intro wl hSw
    have hSw : Keep _ wl := hSw
    have k0 : wl.cell? ⟨bg, 0, none⟩ = some (.int .i64 (N : Int)) := (hSw _ (.head _)).1
    have k1 : wl.cell? ⟨bg, 1, none⟩ = some (.slice C m d) := (hSw _ (.tail _ (.head _))).1
    clear hSw
    go_simp
    try (with_reducible rfl)
  try simp only [Act.put, sA, sZ, sS]
  refine tk 22 ?_ rfl ?_ ?_; rotate_left; focus (intro w hSw; clear hSw; go_simp; try (with_reducible rfl))
  try simp only [Act.put, sA, sZ, sS]
  refine wpAnyH_ready (rs := [23]) (by kernel_rfl) (by simp) ?_
  refine AllReadyH.cons (List.getElem?_toArray.trans rfl) (fun K hK => ?_) AllReadyH.nil
  go_simp
  refine (HK1.out _ B lm ld l (V_9_17.out.grIn (i := 4) rfl HML.out (by omega)) HLL.out hlm (HB.out.below V_9_17.out.below)).mono ?_
  rintro e w_9_17_23 ⟨rfl, b_9_17_23⟩
  try go_wp2_with fail
  have V_9_17_23 := Lib.hid (V_9_17.out.go b_9_17_23)
  refine hK.out _ _ (hHeld.go b_9_17_23) (fun hHeld => ?_)
  clear hK K
  try simp only [Act.put, sA, sZ, sS]
  refine tk 24 ?_ rfl ?_ ?_; rotate_left; focus (intro w hSw; clear hSw; go_simp; try (with_reducible rfl))
  try simp only [Act.put, sA, sZ, sS]
  refine tk 25 ?_ rfl ?_ ?_; rotate_left; focus (intro w hSw; clear hSw; go_simp; try (with_reducible rfl))
  try simp only [Act.put, sA, sZ, sS]
  refine tk 26 ?_ rfl ?_ ?_; rotate_left; focus (intro w hSw; clear hSw; go_simp; try (with_reducible rfl))
  try simp only [Act.put, sA, sZ, sS]
  refine wpAnyH_done (by kernel_rfl) ?_ _
  clear hKp hHeld
  go_wp2_with fail
  go_ret
  exact ⟨rfl, V_9_17_23.out.below⟩

open Go.ChangeShapes Go.WideShapes Go.ChangeAt in
theorem open_wordC {H : Type} {enc : TypeId × Value → H} {W : World} {r : Reach} {b0 : Nat} {v : Value} {d : DataW H} {p : List MemPlace} (hv : Value.okWide Try.prog W r b0 27 v)
    (h : DataW.Trod enc Try.prog W 0 (fun _ => true) true 27 v d p) (hw : ∀ m ∈ d.weights Try.prog 27, m ≤ reachBytes) :
    ∃ (A : Option Addr) (n c : Nat) (L : List Int), v = .slice A n c ∧ L.length = n ∧ n ≤ 17592186044416 ∧ n ≤ c ∧ CellsIn W A (ints L) := by
  obtain ⟨fuel, hf⟩ := h
  obtain ⟨av, lv, cv, rfl⟩ := okWide_slice Try.underlying27 hv
  obtain ⟨A, n, c, L, e, h1, h2, h3, h4⟩ := open_nums (v := .slice av lv cv) (by simpa [Value.cells] using hf) hw
  exact ⟨A, n, c, L, e, h1, by omega, h2, h4⟩

end Go.Proofs.Ytdoobdfanalnbaa
