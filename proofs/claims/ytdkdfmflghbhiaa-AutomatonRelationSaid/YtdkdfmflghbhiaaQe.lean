/- Contract of the program: two automata side by side. -/
import Derived.Test.YtdkdfmflghbhiaaQd
namespace Go.Proofs.Ytdkdfmflghbhiaa
open Go.RowKit
set_option linter.unusedVariables false
set_option linter.unusedSimpArgs false
set_option maxRecDepth 100000

theorem knw_yes {A B : Au} {k : Nat} {ps : List (Int × Int)} {pa : List Nat} {nx tab : List Int} {p : Int × Int} (h : Rch A B k ps pa nx tab) (hp : in2 A B p) (hk : knw B tab p = true) :
    (no2 p ∧ tab.getD (pl2 B p) 0 - 1 = -1) ∨ ∃ j : Nat, ps[j]? = some p ∧ tab.getD (pl2 B p) 0 - 1 = (j : Int) := by
  by_cases e : p = (-1, -1)
  · refine .inl ⟨e, ?_⟩
    rw [h.tab.no p hp (fun j hj => h.bfs.ns j p hj e)]; rfl
  · rcases h.tab.look hp with ⟨j, h1, h2⟩ | ⟨_, h2⟩
    · exact .inr ⟨j, h1, by rw [h2]; omega⟩
    · unfold knw at hk
      rw [h2, decide_eq_false e] at hk
      simp at hk
theorem knw_no {A B : Au} {k : Nat} {ps : List (Int × Int)} {pa : List Nat} {nx tab : List Int} {p : Int × Int} (h : Rch A B k ps pa nx tab) (hp : in2 A B p) (hk : knw B tab p = false) :
    ¬ no2 p ∧ (∀ j : Nat, ps[j]? ≠ some p) := by
  unfold knw at hk
  rw [Bool.or_eq_false_iff] at hk
  refine ⟨fun e => of_decide_eq_false hk.1 e, fun j hj => ?_⟩
  have := h.tab.yes j p hj
  have h2 := of_decide_eq_false hk.2
  omega
theorem Rch.sml {A B : Au} {k : Nat} {ps : List (Int × Int)} {pa : List Nat} {nx tab : List Int} (h : Rch A B k ps pa nx tab) (hA : A.n ≤ 1000) (hB : B.n ≤ 1000) : ps.length ≤ 1002001 ∧ pa.length = ps.length ∧ 0 < ps.length := by
  have h1 := few2 h.tab.inl h.bfs.nd
  have h2 := Nat.mul_le_mul (show A.n + 1 ≤ 1001 by omega) (show B.n + 1 ≤ 1001 by omega)
  exact ⟨by omega, h.bfs.len, (List.getElem?_eq_some_iff.1 h.bfs.first).1⟩
theorem get_val (v : Int) (A B : Au) (p1 p2 : Int) (wd : Int) (I : Option Addr) (n c : Nat) (l : List (Int × Int)) (tab : List Int) (w : World) (hv2 : v = tab.getD (pl2 B (p1, p2)) 0 - 1) (hw : wd = (B.n : Int) + 1) (hp : in2 A B (p1, p2)) (hA : A.n ≤ 1000000) (hB : B.n ≤ 1000000) (ht : Tab2 A B l tab) (hn : tab.length = n) (hI : CellsIn w I (ints tab)) (hv : ∀ x ∈ tab, 0 ≤ x ∧ x ≤ 2000000000001) :
    Calls Try.prog 46 #[.agg #[.int .i64 wd, .slice I n c], .agg #[.int .i64 p1, .int .i64 p2]] w fun e w' => e = .returned (.int .i64 v) ∧ Below w.heap.size w w' := by
  rw [hv2]; exact get_any A B p1 p2 wd I n c l tab w hw hp hA hB ht hn hI hv
theorem knows_any (A B : Au) (p1 p2 : Int) (wd : Int) (I : Option Addr) (n c : Nat) (l : List (Int × Int)) (tab : List Int) (w : World) (hw : wd = (B.n : Int) + 1) (hp : in2 A B (p1, p2)) (hA : A.n ≤ 1000000) (hB : B.n ≤ 1000000) (ht : Tab2 A B l tab) (hn : tab.length = n) (hI : CellsIn w I (ints tab)) (hv : Sml tab) :
    Calls Try.prog 34 #[.agg #[.int .i64 wd, .slice I n c], .agg #[.int .i64 p1, .int .i64 p2]] w fun e w' => e = .returned (.bool (knw B tab (p1, p2))) ∧ Below w.heap.size w w' := by
  by_cases h : p1 = -1 ∧ p2 = -1
  · exact knows_no A B p1 p2 wd I n c l tab w hw hp hA hB ht hn hI hv h
  · exact knows_is A B p1 p2 wd I n c l tab w hw hp hA hB ht hn hI hv h
/-- The memory of the search, with P places looked at. -/
def ReachSt (x y : DV) (A B : Au) (k : Nat) (W : World) (gt gtb N P lo : Nat) (wr : World) : Prop :=
  ∃ ps pa nx tab Ap np cp An nn cn Af nf cf, nx.length = P ∧ lo ≤ ps.length ∧ Rch A B k ps pa nx tab ∧ Sml tab ∧ Hp W [box 52 (W.heap.size + 1 + 1 + 1) [.int .i64 A.lt, .slice Ap np cp, .slice An nn cn, .slice Af nf cf], nums (some ⟨gt, 0, none⟩) N N tab, prow 35 Ap np cp ps, nums Af nf cf (fdOf pa), nums An nn cn nx, box 65 gtb [.int .i64 ((y.n : Int) + 1), .slice (some ⟨gt, 0, none⟩) N N], box 52 (W.heap.size + 1 + 1) [.int .i64 0, .slice none 0 0, .slice none 0 0, .slice none 0 0], box 25 (W.heap.size + 1) [.int .i64 B.lt, .int .i64 B.st, .slice y.A y.n y.c, .slice y.B y.m y.d], box 25 W.heap.size [.int .i64 A.lt, .int .i64 A.st, .slice x.A x.n x.c, .slice x.B x.m x.d]] wr
/-- What the search returns. -/
def ReachPost (A B : Au) (k : Nat) (W : World) (e : Ending) (w' : World) : Prop :=
  ∃ ps pa nx Ap np cp An nn cn Af nf cf, e = .returned (.agg #[.int .i64 (k : Int), .slice Ap np cp, .slice An nn cn, .slice Af nf cf]) ∧ Rch2 A B k ps pa nx ∧
    Hp W [prow 35 Ap np cp ps, nums An nn cn nx, nums Af nf cf (fdOf pa)] w'
set_option maxHeartbeats 16000000 in
theorem reach_any (x y : DV) (A B : Au) (k : Nat) (W : World) (hA : Good W x A k) (hB : Good W y B k) :
    Calls Try.prog 21 #[.agg #[.int .i64 A.lt, .int .i64 A.st, .slice x.A x.n x.c, .slice x.B x.m x.d], .agg #[.int .i64 B.lt, .int .i64 B.st, .slice y.A y.n y.c, .slice y.B y.m y.d]] W (ReachPost A B k W) := by
  have hAs := hA.few
  have hBs := hB.few
  have hAn : A.n ≤ 1000000 := by omega
  have hBn : B.n ≤ 1000000 := by omega
  have hxn : x.n = A.n := hA.dfa.n.symm
  have hyn : y.n = B.n := hB.dfa.n.symm
  have hlt : A.lt = k := hA.right.lt
  have hk0 := hA.right.pos
  have hk8 := hA.k8
  obtain ⟨w1, hw1⟩ : ∃ z, z = (((W.alloc (.cells #[.int .i64 A.lt, .int .i64 A.st, .slice x.A x.n x.c, .slice x.B x.m x.d] 25)).alloc (.cells #[.int .i64 B.lt, .int .i64 B.st, .slice y.A y.n y.c, .slice y.B y.m y.d] 25)).alloc (.cells #[.int .i64 0, .slice none 0 0, .slice none 0 0, .slice none 0 0] 52)).alloc (.cells #[.int .i64 A.lt, .slice none 0 0, .slice none 0 0, .slice none 0 0] 52) := ⟨_, rfl⟩
  have V1 := Lib.hid (show Hp W [box 52 (W.heap.size + 1 + 1 + 1) [.int .i64 A.lt, .slice none 0 0, .slice none 0 0, .slice none 0 0], box 52 (W.heap.size + 1 + 1) [.int .i64 0, .slice none 0 0, .slice none 0 0, .slice none 0 0], box 25 (W.heap.size + 1) [.int .i64 B.lt, .int .i64 B.st, .slice y.A y.n y.c, .slice y.B y.m y.d], box 25 W.heap.size [.int .i64 A.lt, .int .i64 A.st, .slice x.A x.n x.c, .slice x.B x.m x.d]] w1 by
    have := ((((Hp.start W).box_new 25 [.int .i64 A.lt, .int .i64 A.st, .slice x.A x.n x.c, .slice x.B x.m x.d]).box_new 25 [.int .i64 B.lt, .int .i64 B.st, .slice y.A y.n y.c, .slice y.B y.m y.d]).box_new 52 [.int .i64 0, .slice none 0 0, .slice none 0 0, .slice none 0 0]).box_new 52 [.int .i64 A.lt, .slice none 0 0, .slice none 0 0, .slice none 0 0]
    rw [hw1]; simpa using this)
  have HW1 := Lib.hid hw1
  have HA := Lib.hid hA
  have HB := Lib.hid hB
  have HLT := Lib.hid hlt
  have HXN := Lib.hid hxn
  have HYN := Lib.hid hyn
  clear hw1 hA hB hlt hxn hyn
  go_enter Try.func21, Try.ntmps21
  go_upto_region 2 with fail
  rw [← HW1.out]
  obtain ⟨a0, _, a9⟩ := V1.out.box_at (i := 3) (j := 0) rfl rfl
  obtain ⟨a1, _, _⟩ := V1.out.box_at (i := 3) (j := 1) rfl rfl
  obtain ⟨a2, _, _⟩ := V1.out.box_at (i := 3) (j := 2) rfl rfl
  obtain ⟨a3, _, _⟩ := V1.out.box_at (i := 3) (j := 3) rfl rfl
  obtain ⟨b0, _, b9⟩ := V1.out.box_at (i := 2) (j := 0) rfl rfl
  obtain ⟨b1, _, _⟩ := V1.out.box_at (i := 2) (j := 1) rfl rfl
  obtain ⟨b2, _, _⟩ := V1.out.box_at (i := 2) (j := 2) rfl rfl
  obtain ⟨b3, _, _⟩ := V1.out.box_at (i := 2) (j := 3) rfl rfl
  go_wp2_with fail
  refine (newTable_any _ _ _ _ _ _ _ _ _ _ _ _ _ _ _ _ ((A.n + 1) * (B.n + 1)) W _ _ V1.out (by rw [HXN.out]; exact hAn) (by rw [HYN.out]; exact hBn) (by rw [HXN.out, HYN.out])).mono ?_
  rintro e w2 ⟨gt, rfl, hv2⟩
  obtain ⟨N, hN⟩ : ∃ N, N = (A.n + 1) * (B.n + 1) := ⟨_, rfl⟩
  rw [← hN] at hv2 ⊢
  have hNb : N ≤ 1002001 := by
    have := Nat.mul_le_mul (show A.n + 1 ≤ 1001 by omega) (show B.n + 1 ≤ 1001 by omega)
    omega
  have HN := Lib.hid hN
  have V2 := Lib.hid hv2
  clear a0 a1 a2 a3 a9 b0 b1 b2 b3 b9 hv2 hN V1 HW1
  obtain ⟨a1, _, a9⟩ := V2.out.box_at (i := 4) (j := 1) rfl rfl
  obtain ⟨b1, _, b9⟩ := V2.out.box_at (i := 3) (j := 1) rfl rfl
  obtain ⟨w3, hw3⟩ : ∃ z, z = (w2.alloc (.cells #[.int .i64 ((y.n : Int) + 1), .slice (some ⟨gt, 0, none⟩) N N] 65)).alloc (.cells #[.int .i64 A.st, .int .i64 B.st] 35) := ⟨_, rfl⟩
  have V3 := Lib.hid (show Hp W [box 35 (w2.heap.size + 1) [.int .i64 A.st, .int .i64 B.st], box 65 w2.heap.size [.int .i64 ((y.n : Int) + 1), .slice (some ⟨gt, 0, none⟩) N N], nums (some ⟨gt, 0, none⟩) N N (List.replicate N 0), box 52 (W.heap.size + 1 + 1 + 1) [.int .i64 A.lt, .slice none 0 0, .slice none 0 0, .slice none 0 0], box 52 (W.heap.size + 1 + 1) [.int .i64 0, .slice none 0 0, .slice none 0 0, .slice none 0 0], box 25 (W.heap.size + 1) [.int .i64 B.lt, .int .i64 B.st, .slice y.A y.n y.c, .slice y.B y.m y.d], box 25 W.heap.size [.int .i64 A.lt, .int .i64 A.st, .slice x.A x.n x.c, .slice x.B x.m x.d]] w3 by
    have := (V2.out.box_new 65 [.int .i64 ((y.n : Int) + 1), .slice (some ⟨gt, 0, none⟩) N N]).box_new 35 [.int .i64 A.st, .int .i64 B.st]
    rw [hw3]; simpa using this)
  have HW3 := Lib.hid hw3
  clear hw3
  go_upto_region 4 with fail
  rw [← HW3.out]
  clear a1 a9 b1 b9 HW3 V2
  by_cases hs : A.st = -1 ∧ B.st = -1
  · have HS := Lib.hid hs
    have HE4 := Lib.hid (show ∀ (X Y : Result Next), (if A.st = -1 then (if B.st = -1 then X else Y) else Y) = X from fun X Y => (if_pos hs.1).trans (if_pos hs.2))
    clear hs
    have hKp : Keep [(⟨w2.heap.size + 1, 0, none⟩, .int .i64 A.st), (⟨w2.heap.size + 1, 1, none⟩, .int .i64 B.st)] w3 := List.forall_mem_cons.2 ⟨⟨(V3.out.box_at (i := 0) (j := 0) rfl rfl).1, (V3.out.box_at (i := 0) (j := 0) rfl rfl).2.2⟩, List.forall_mem_cons.2 ⟨⟨(V3.out.box_at (i := 0) (j := 1) rfl rfl).1, (V3.out.box_at (i := 0) (j := 1) rfl rfl).2.2⟩, fun _ h => by simp at h⟩⟩
    refine wp_region_held_drew (S := Keep _) (by kernel_rfl) hKp.drew (fun hHeld => ?_)
    have V3d := Lib.hid (V3.out.go (bdrew _))
    refine tk 0 ?_ rfl ?_ ?_; rotate_left
    · intro wl hSw
      have hSw : Keep _ wl := hSw
      have k0 : wl.cell? ⟨w2.heap.size + 1, 0, none⟩ = some (.int .i64 A.st) := (hSw _ (.head _)).1
      have k1 : wl.cell? ⟨w2.heap.size + 1, 1, none⟩ = some (.int .i64 B.st) := (hSw _ (.tail _ (.head _))).1
      clear hSw
      go_simp
      try (with_reducible rfl)
    try simp only [Act.put, sA, sZ, sS]
    refine wpAnyH_ready (rs := [1]) (by kernel_rfl) (by simp) ?_
    refine AllReadyH.cons (List.getElem?_toArray.trans rfl) (fun K hK => ?_) AllReadyH.nil
    go_simp
    refine (nowhere_any _).mono ?_
    rintro e w_1 ⟨rfl, b_1⟩
    try go_wp2_with fail
    have V_1 := Lib.hid (V3d.out.go b_1)
    refine hK.out _ _ (hHeld.go b_1) (fun hHeld => ?_)
    clear hK K
    try simp only [Act.put, sA, sZ, sS]
    refine tk 2 ?_ rfl ?_ ?_; rotate_left
    · intro w hSw; clear hSw; go_simp; exact HE4.out _ _
    try simp only [Act.put, sA, sZ, sS]
    refine wpAnyH_done (by kernel_rfl) ?_ _
    obtain ⟨r0, _, _⟩ := V_1.out.box_at (i := 3) (j := 0) rfl rfl
    obtain ⟨r1, _, _⟩ := V_1.out.box_at (i := 3) (j := 1) rfl rfl
    obtain ⟨r2, _, _⟩ := V_1.out.box_at (i := 3) (j := 2) rfl rfl
    obtain ⟨r3, _, _⟩ := V_1.out.box_at (i := 3) (j := 3) rfl rfl
    obtain ⟨s0, o0, s9⟩ := V_1.out.box_at (i := 4) (j := 0) rfl rfl
    obtain ⟨s1, o1, _⟩ := V_1.out.box_at (i := 4) (j := 1) rfl rfl
    obtain ⟨s2, o2, _⟩ := V_1.out.box_at (i := 4) (j := 2) rfl rfl
    obtain ⟨s3, o3, _⟩ := V_1.out.box_at (i := 4) (j := 3) rfl rfl
    have VE := Lib.hid ((((V_1.out.box_set (i := 4) rfl 0 (.int .i64 A.lt)).box_set (i := 4) rfl 1 (.slice none 0 0)).box_set (i := 4) rfl 2 (.slice none 0 0)).box_set (i := 4) rfl 3 (.slice none 0 0))
    obtain ⟨q0, _, _⟩ := VE.out.box_at (i := 4) (j := 0) rfl rfl
    obtain ⟨q1, _, _⟩ := VE.out.box_at (i := 4) (j := 1) rfl rfl
    obtain ⟨q2, _, _⟩ := VE.out.box_at (i := 4) (j := 2) rfl rfl
    obtain ⟨q3, _, _⟩ := VE.out.box_at (i := 4) (j := 3) rfl rfl
    go_wp2_with fail
    refine bodyPost_ret (v := .agg #[.int .i64 A.lt, .slice none 0 0, .slice none 0 0, .slice none 0 0]) (by simp [results, Try.results21, go_sem, q0, q1, q2, q3]) rfl ?_
    have hs := HS.out
    have HVE := VE.out
    rw [HLT.out] at HVE ⊢
    refine ⟨[], [], [], none, 0, 0, none, 0, 0, none, 0, 0, rfl, Rch2.none (Prod.ext hs.1 hs.2), ?_⟩
    exact ((((Hp.start W).go HVE.below).nil_row (nums none 0 0 []) rfl rfl rfl).nil_row (nums none 0 0 []) rfl rfl rfl).nil_row (prow 35 none 0 0 []) rfl rfl rfl
  · have HE3 := Lib.hid (show ∀ (X Y : Result Next), (if A.st = -1 then (if B.st = -1 then X else Y) else Y) = Y by
      intro X Y
      split
      · split
        · rename_i a b; exact absurd ⟨a, b⟩ hs
        · rfl
      · rfl)
    have HS := Lib.hid (show ¬ no2 (A.st, B.st) from fun e => hs ⟨congrArg Prod.fst e, congrArg Prod.snd e⟩)
    clear hs
    have hKp : Keep [(⟨w2.heap.size + 1, 0, none⟩, .int .i64 A.st), (⟨w2.heap.size + 1, 1, none⟩, .int .i64 B.st)] w3 := List.forall_mem_cons.2 ⟨⟨(V3.out.box_at (i := 0) (j := 0) rfl rfl).1, (V3.out.box_at (i := 0) (j := 0) rfl rfl).2.2⟩, List.forall_mem_cons.2 ⟨⟨(V3.out.box_at (i := 0) (j := 1) rfl rfl).1, (V3.out.box_at (i := 0) (j := 1) rfl rfl).2.2⟩, fun _ h => by simp at h⟩⟩
    refine wp_region_held_drew (S := Keep _) (by kernel_rfl) hKp.drew (fun hHeld => ?_)
    have V3d := Lib.hid (V3.out.go (bdrew _))
    refine tk 0 ?_ rfl ?_ ?_; rotate_left
    · intro wl hSw
      have hSw : Keep _ wl := hSw
      have k0 : wl.cell? ⟨w2.heap.size + 1, 0, none⟩ = some (.int .i64 A.st) := (hSw _ (.head _)).1
      have k1 : wl.cell? ⟨w2.heap.size + 1, 1, none⟩ = some (.int .i64 B.st) := (hSw _ (.tail _ (.head _))).1
      clear hSw
      go_simp
      try (with_reducible rfl)
    try simp only [Act.put, sA, sZ, sS]
    refine wpAnyH_ready (rs := [1]) (by kernel_rfl) (by simp) ?_
    refine AllReadyH.cons (List.getElem?_toArray.trans rfl) (fun K hK => ?_) AllReadyH.nil
    go_simp
    refine (nowhere_any _).mono ?_
    rintro e w_1 ⟨rfl, b_1⟩
    try go_wp2_with fail
    have V_1 := Lib.hid (V3d.out.go b_1)
    refine hK.out _ _ (hHeld.go b_1) (fun hHeld => ?_)
    clear hK K
    try simp only [Act.put, sA, sZ, sS]
    refine tk 2 ?_ rfl ?_ ?_; rotate_left
    · intro w hSw; clear hSw; go_simp; exact HE3.out _ _
    try simp only [Act.put, sA, sZ, sS]
    refine wpAnyH_done (by kernel_rfl) ?_ _
    have V5 := Lib.hid ((show Hp W _ _ from (((V_1.out.nil_end (prow 35 none 0 0 []) rfl rfl rfl).nil_end (nums none 0 0 []) rfl rfl rfl).nil_end (nums none 0 0 []) rfl rfl rfl)).pick [3, 2, 7, 8, 9, 1, 4, 5, 6] (by decide) (l' := [box 52 (W.heap.size + 1 + 1 + 1) [.int .i64 A.lt, .slice none 0 0, .slice none 0 0, .slice none 0 0], nums (some ⟨gt, 0, none⟩) N N (List.replicate N 0), prow 35 none 0 0 [], nums none 0 0 [], nums none 0 0 [], box 65 w2.heap.size [.int .i64 ((y.n : Int) + 1), .slice (some ⟨gt, 0, none⟩) N N], box 52 (W.heap.size + 1 + 1) [.int .i64 0, .slice none 0 0, .slice none 0 0, .slice none 0 0], box 25 (W.heap.size + 1) [.int .i64 B.lt, .int .i64 B.st, .slice y.A y.n y.c, .slice y.B y.m y.d], box 25 W.heap.size [.int .i64 A.lt, .int .i64 A.st, .slice x.A x.n x.c, .slice x.B x.m x.d]]) rfl)
    obtain ⟨t0, _, t9⟩ := V5.out.box_at (i := 5) (j := 0) rfl rfl
    obtain ⟨t1, _, _⟩ := V5.out.box_at (i := 5) (j := 1) rfl rfl
    obtain ⟨s0, _, s9⟩ := V_1.out.box_at (i := 0) (j := 0) rfl rfl
    obtain ⟨s1, _, _⟩ := V_1.out.box_at (i := 0) (j := 1) rfl rfl
    clear hHeld hKp V3 V3d
    go_wp2_with fail
    refine (add_any A B A.lt A.st B.st _ (-1) (W.heap.size + 1 + 1 + 1) gt N N none 0 0 none 0 0 none 0 0 [] [] (List.replicate N 0) W _ _ (by rw [HYN.out]) (in2_start HA.out.right HB.out.right) hAn hBn (by rw [HN.out]; exact Tab2.start) (by omega) (by omega) V5.out).mono ?_
    rintro e w6 ⟨Ap, cp, Af, cf, rfl, hv6⟩
    have V6 := Lib.hid hv6
    clear hv6 t0 t1 t9 s0 s1 s9
    obtain ⟨gtb, hgtb⟩ : ∃ g, g = w2.heap.size := ⟨_, rfl⟩
    rw [← hgtb] at V6 ⊢
    have HR := Lib.hid (Rch.start HA.out.right HB.out.right HS.out)
    have H6 := Lib.hid (show ReachSt x y A B k W gt gtb N 0 0 w6 from ⟨[(A.st, B.st)], [0], [], _, Ap, 1, cp, none, 0, 0, Af, 1, cf, rfl, Nat.zero_le _, HR.out, (Sml.zeros _).set _ (by decide) (by decide), by rw [← HN.out]; exact V6.out⟩)
    clear V6 V5 HR hgtb
    go_wp2_with fail
    go_loopw [8] (fun iv wr => ∃ i : Nat, iv = .int .i64 (i : Int) ∧ i ≤ N ∧ ReachSt x y A B k W gt gtb N (i * k) i wr) (fun iv _ => N - (intOf iv).toNat)
    case atStart => exact ⟨0, rfl, Nat.zero_le _, by rw [Nat.zero_mul]; exact H6.out⟩
    case round =>
      obtain ⟨i, rfl, hiN, ps, pa, nx, tab, Ap, np, cp, An, nn, cn, Af, nf, cf, hP, hlo, hR, hS, hV⟩ := hrel
      obtain ⟨wo, rfl⟩ : ∃ wo : World, wo = wr := ⟨_, rfl⟩
      have V := Lib.hid hV
      have hnp := V.out.pair_len (i := 2) rfl
      have hpsN : ps.length ≤ N := by rw [HN.out]; exact few2 hR.tab.inl hR.bfs.nd
      obtain ⟨sm1, sm2, sm3⟩ := hR.sml hAs hBs
      have HR := Lib.hid hR
      have HSM := Lib.hid hS
      have HPP := Lib.hid hP
      have HNP := Lib.hid hnp
      clear hR hS hV hP
      by_cases hlt : i < np
      · have H0 := Lib.hid (show ReachSt x y A B k W gt gtb N (i * k + 0) (i + 1) wo from ⟨ps, pa, nx, tab, Ap, np, cp, An, nn, cn, Af, nf, cf, HPP.out, by omega, HR.out, HSM.out, V.out⟩)
        have hiN1 : i < N := by omega
        have hnpb : np ≤ 2000000000000 := by omega
        obtain ⟨r0, _, r9⟩ := V.out.box_at (i := 0) (j := 0) rfl rfl
        obtain ⟨r1, _, _⟩ := V.out.box_at (i := 0) (j := 1) rfl rfl
        rw [HLT.out] at r0
        clear HR HSM HPP hnp HNP hpsN sm1 sm2 sm3 hlo
        go_wp2_with fail
        clear r0 r1 r9 V
        go_loopw [38] (fun cv wr => ∃ c : Nat, cv = .int .i64 (c : Int) ∧ c ≤ k ∧ ReachSt x y A B k W gt gtb N (i * k + c) (i + 1) wr) (fun cv _ => k - (intOf cv).toNat)
        case atStart => exact ⟨0, rfl, Nat.zero_le _, H0.out⟩
        case round =>
          clear H0 hlt hnpb
          obtain ⟨c, rfl, hck, ps, pa, nx, tab, Ap, np, cp, An, nn, cn, Af, nf, cf, hP, hlo, hR, hS, hV⟩ := hrel
          by_cases hc : c < k
          · have V := Lib.hid hV
            have hnp := V.out.pair_len (i := 2) rfl
            have hnn := V.out.num_len (i := 4) rfl
            have hnt := V.out.num_len (i := 1) rfl
            obtain ⟨sm1, sm2, sm3⟩ := hR.sml hAs hBs
            have hle := hR.le
            have hnb : nn ≤ 10000000 := by
              have := Nat.mul_le_mul sm1 hk8
              omega
            have hnf := V.out.num_len (i := 3) rfl
            rw [fdOf_len] at hnf
            have hpsN : ps.length ≤ N := by rw [HN.out]; exact few2 hR.tab.inl hR.bfs.nd
            obtain ⟨p1, p2, hp12⟩ : ∃ p1 p2, ps[i]? = some (p1, p2) := ⟨ps[i].1, ps[i].2, List.getElem?_eq_getElem (by omega)⟩
            obtain ⟨gp, rfl⟩ := V.out.head (i := 2) (A := Ap) (c := cp) rfl rfl (show 0 < np by omega)
            have hin := hR.tab.inl i _ hp12
            have hdv : nx.length / k = i ∧ nx.length % k = c := by rw [hP]; exact pos_div hc
            have HDV := Lib.hid hdv
            have HR := Lib.hid hR
            have HSM := Lib.hid hS
            have HPP := Lib.hid hP
            have HIN := Lib.hid hin
            have HP12 := Lib.hid hp12
            have HNN := Lib.hid hnn
            have HNP := Lib.hid hnp
            have HNT := Lib.hid hnt
            have HNF := Lib.hid hnf
            have HG := Lib.hid (in2_step HA.out.right HB.out.right (p1, p2) c)
            have hinp : i < np := by omega
            have hnpb : np ≤ 2000000000000 := by omega
            have hnfb : nf ≤ 2000000000000 := by omega
            clear hR hS hP hin hp12 hnn hnp hnt hnf hdv hle hV sm1 sm2 sm3 hlo hpsN
            obtain ⟨wi, rfl⟩ : ∃ wi : World, wi = wr := ⟨_, rfl⟩
            go_upto_region 13 with fail
            go_cut [10] (fun s10 wx => ∃ gto, s10 = .pointer (some ⟨gto, 0, none⟩) ∧ Hp W [box 35 gto [.int .i64 (A.go p1 c), .int .i64 (B.go p2 c)], box 52 (W.heap.size + 1 + 1 + 1) [.int .i64 A.lt, .slice (some ⟨gp, 0, none⟩) np cp, .slice An nn cn, .slice Af nf cf], nums (some ⟨gt, 0, none⟩) N N tab, prow 35 (some ⟨gp, 0, none⟩) np cp ps, nums Af nf cf (fdOf pa), nums An nn cn nx, box 65 gtb [.int .i64 ((y.n : Int) + 1), .slice (some ⟨gt, 0, none⟩) N N], box 52 (W.heap.size + 1 + 1) [.int .i64 0, .slice none 0 0, .slice none 0 0, .slice none 0 0], box 25 (W.heap.size + 1) [.int .i64 B.lt, .int .i64 B.st, .slice y.A y.n y.c, .slice y.B y.m y.d], box 25 W.heap.size [.int .i64 A.lt, .int .i64 A.st, .slice x.A x.n x.c, .slice x.B x.m x.d]] wx)
            case first =>
              have hKp : Keep [(⟨W.heap.size, 0, none⟩, .int .i64 A.lt), (⟨W.heap.size, 1, none⟩, .int .i64 A.st), (⟨W.heap.size, 2, none⟩, .slice x.A x.n x.c), (⟨W.heap.size, 3, none⟩, .slice x.B x.m x.d), (⟨(W.heap.size + 1), 0, none⟩, .int .i64 B.lt), (⟨(W.heap.size + 1), 1, none⟩, .int .i64 B.st), (⟨(W.heap.size + 1), 2, none⟩, .slice y.A y.n y.c), (⟨(W.heap.size + 1), 3, none⟩, .slice y.B y.m y.d), (⟨(W.heap.size + 1 + 1 + 1), 1, none⟩, .slice (some ⟨gp, 0, none⟩) np cp), (⟨gp, i * 2, none⟩, .int .i64 p1), (⟨gp, i * 2 + 1, none⟩, .int .i64 p2)] wi := List.forall_mem_cons.2 ⟨⟨(V.out.box_at (i := 8) (j := 0) rfl rfl).1, (V.out.box_at (i := 8) (j := 0) rfl rfl).2.2⟩, List.forall_mem_cons.2 ⟨⟨(V.out.box_at (i := 8) (j := 1) rfl rfl).1, (V.out.box_at (i := 8) (j := 1) rfl rfl).2.2⟩, List.forall_mem_cons.2 ⟨⟨(V.out.box_at (i := 8) (j := 2) rfl rfl).1, (V.out.box_at (i := 8) (j := 2) rfl rfl).2.2⟩, List.forall_mem_cons.2 ⟨⟨(V.out.box_at (i := 8) (j := 3) rfl rfl).1, (V.out.box_at (i := 8) (j := 3) rfl rfl).2.2⟩, List.forall_mem_cons.2 ⟨⟨(V.out.box_at (i := 7) (j := 0) rfl rfl).1, (V.out.box_at (i := 7) (j := 0) rfl rfl).2.2⟩, List.forall_mem_cons.2 ⟨⟨(V.out.box_at (i := 7) (j := 1) rfl rfl).1, (V.out.box_at (i := 7) (j := 1) rfl rfl).2.2⟩, List.forall_mem_cons.2 ⟨⟨(V.out.box_at (i := 7) (j := 2) rfl rfl).1, (V.out.box_at (i := 7) (j := 2) rfl rfl).2.2⟩, List.forall_mem_cons.2 ⟨⟨(V.out.box_at (i := 7) (j := 3) rfl rfl).1, (V.out.box_at (i := 7) (j := 3) rfl rfl).2.2⟩, List.forall_mem_cons.2 ⟨⟨(V.out.box_at (i := 0) (j := 1) rfl rfl).1, (V.out.box_at (i := 0) (j := 1) rfl rfl).2.2⟩, List.forall_mem_cons.2 ⟨⟨(V.out.pair_at (i := 2) rfl HP12.out).1, (V.out.pair_at (i := 2) rfl HP12.out).2.2⟩, List.forall_mem_cons.2 ⟨⟨(V.out.pair_at (i := 2) rfl HP12.out).2.1, (V.out.pair_at (i := 2) rfl HP12.out).2.2⟩, fun _ h => by simp at h⟩⟩⟩⟩⟩⟩⟩⟩⟩⟩⟩
              refine wp_region_held_drew (S := Keep _) (by kernel_rfl) hKp.drew (fun hHeld => ?_)
              have Vd := Lib.hid (V.out.go (bdrew _))
              refine tk 0 ?_ rfl ?_ ?_; rotate_left
              · intro wl hSw
                have hSw : Keep _ wl := hSw
                have k0 : wl.cell? ⟨W.heap.size, 0, none⟩ = some (.int .i64 A.lt) := (hSw _ (.head _)).1
                have k1 : wl.cell? ⟨W.heap.size, 1, none⟩ = some (.int .i64 A.st) := (hSw _ (.tail _ (.head _))).1
                have k2 : wl.cell? ⟨W.heap.size, 2, none⟩ = some (.slice x.A x.n x.c) := (hSw _ (.tail _ (.tail _ (.head _)))).1
                have k3 : wl.cell? ⟨W.heap.size, 3, none⟩ = some (.slice x.B x.m x.d) := (hSw _ (.tail _ (.tail _ (.tail _ (.head _))))).1
                clear hSw
                go_simp
                try (with_reducible rfl)
              try simp only [Act.put, sA, sZ, sS]
              refine tk 1 ?_ rfl ?_ ?_; rotate_left
              · intro wl hSw
                have hSw : Keep _ wl := hSw
                have k0 : wl.cell? ⟨(W.heap.size + 1), 0, none⟩ = some (.int .i64 B.lt) := (hSw _ (.tail _ (.tail _ (.tail _ (.tail _ (.head _)))))).1
                have k1 : wl.cell? ⟨(W.heap.size + 1), 1, none⟩ = some (.int .i64 B.st) := (hSw _ (.tail _ (.tail _ (.tail _ (.tail _ (.tail _ (.head _))))))).1
                have k2 : wl.cell? ⟨(W.heap.size + 1), 2, none⟩ = some (.slice y.A y.n y.c) := (hSw _ (.tail _ (.tail _ (.tail _ (.tail _ (.tail _ (.tail _ (.head _)))))))).1
                have k3 : wl.cell? ⟨(W.heap.size + 1), 3, none⟩ = some (.slice y.B y.m y.d) := (hSw _ (.tail _ (.tail _ (.tail _ (.tail _ (.tail _ (.tail _ (.tail _ (.head _))))))))).1
                clear hSw
                go_simp
                try (with_reducible rfl)
              try simp only [Act.put, sA, sZ, sS]
              refine tk 2 ?_ rfl ?_ ?_; rotate_left; focus (intro w hSw; clear hSw; go_simp; try (with_reducible rfl))
              try simp only [Act.put, sA, sZ, sS]
              refine tk 3 ?_ rfl ?_ ?_; rotate_left
              · intro wl hSw
                have hSw : Keep _ wl := hSw
                have k0 : wl.cell? ⟨(W.heap.size + 1 + 1 + 1), 1, none⟩ = some (.slice (some ⟨gp, 0, none⟩) np cp) := (hSw _ (.tail _ (.tail _ (.tail _ (.tail _ (.tail _ (.tail _ (.tail _ (.tail _ (.head _)))))))))).1
                clear hSw
                go_simp
                try (with_reducible rfl)
              try simp only [Act.put, sA, sZ, sS]
              refine tk 4 ?_ rfl ?_ ?_; rotate_left; focus (intro w hSw; clear hSw; go_simp; try (with_reducible rfl))
              try simp only [Act.put, sA, sZ, sS]
              refine tk 5 ?_ rfl ?_ ?_; rotate_left; focus (intro w hSw; clear hSw; go_simp; try (with_reducible rfl))
              try simp only [Act.put, sA, sZ, sS]
              refine tk 6 ?_ rfl ?_ ?_; rotate_left
              · intro wl hSw
                have hSw : Keep _ wl := hSw
                have k0 : wl.cell? ⟨gp, i * 2, none⟩ = some (.int .i64 p1) := (hSw _ (.tail _ (.tail _ (.tail _ (.tail _ (.tail _ (.tail _ (.tail _ (.tail _ (.tail _ (.head _))))))))))).1
                have k1 : wl.cell? ⟨gp, i * 2 + 1, none⟩ = some (.int .i64 p2) := (hSw _ (.tail _ (.tail _ (.tail _ (.tail _ (.tail _ (.tail _ (.tail _ (.tail _ (.tail _ (.tail _ (.head _)))))))))))).1
                clear hSw
                go_simp
                try (with_reducible rfl)
              try simp only [Act.put, sA, sZ, sS]
              refine tk 7 ?_ rfl ?_ ?_; rotate_left; focus (intro w hSw; clear hSw; go_simp; try (with_reducible rfl))
              try simp only [Act.put, sA, sZ, sS]
              refine wpAnyH_ready (rs := [8, 9]) (by kernel_rfl) (by simp) ?_
              refine AllReadyH.cons (List.getElem?_toArray.trans rfl) (fun K hK => ?_) ?_
              · go_simp
                refine (followPair_any x y A B k p1 p2 c _ (HA.out.below Vd.out.below) (HB.out.below Vd.out.below) HIN.out hc).mono ?_
                rintro e w_8 ⟨rfl, b_8⟩
                try go_wp2_with fail
                have V_8 := Lib.hid (Vd.out.go b_8)
                refine hK.out _ _ (hHeld.go b_8) (fun hHeld => ?_)
                clear hK K
                try simp only [Act.put, sA, sZ, sS]
                refine wpAnyH_ready (rs := [9]) (by kernel_rfl) (by simp) ?_
                refine AllReadyH.cons (List.getElem?_toArray.trans rfl) (fun K hK => ?_) AllReadyH.nil
                obtain ⟨w_8_9, hw_8_9⟩ : ∃ z, z = (w_8.alloc (.cells #[.int .i64 0, .int .i64 0] 35)) := ⟨_, rfl⟩
                have V_8_9 := Lib.hid (show Hp _ (box 35 w_8.heap.size [.int .i64 0, .int .i64 0] :: _) w_8_9 by rw [hw_8_9]; exact V_8.out.box_new 35 [.int .i64 0, .int .i64 0])
                have Bw_8_9 := Lib.hid (show Below w_8.heap.size w_8 w_8_9 by rw [hw_8_9]; exact bnew _ _)
                go_simp
                rw [← hw_8_9]
                clear hw_8_9
                refine hK.out _ _ (hHeld.go Bw_8_9.out) (fun hHeld => ?_)
                clear hK K
                try simp only [Act.put, sA, sZ, sS]
                refine wpAnyH_ready (rs := [10]) (by kernel_rfl) (by simp) ?_
                refine AllReadyH.cons (List.getElem?_toArray.trans rfl) (fun K hK => ?_) AllReadyH.nil
                obtain ⟨q0, o0, z0⟩ := V_8_9.out.box_at (i := 0) (j := 0) rfl rfl
                obtain ⟨q1, o1, z1⟩ := V_8_9.out.box_at (i := 0) (j := 1) rfl rfl
                have VE := Lib.hid ((V_8_9.out.box_set (i := 0) rfl 0 (.int .i64 (A.go p1 c))).box_set (i := 0) rfl 1 (.int .i64 (B.go p2 c)))
                go_simp
                refine hK.out _ _ (List.forall_mem_cons.2 ⟨⟨(VE.out.box_at (i := 9) (j := 0) rfl rfl).1, (VE.out.box_at (i := 9) (j := 0) rfl rfl).2.2⟩, List.forall_mem_cons.2 ⟨⟨(VE.out.box_at (i := 9) (j := 1) rfl rfl).1, (VE.out.box_at (i := 9) (j := 1) rfl rfl).2.2⟩, List.forall_mem_cons.2 ⟨⟨(VE.out.box_at (i := 9) (j := 2) rfl rfl).1, (VE.out.box_at (i := 9) (j := 2) rfl rfl).2.2⟩, List.forall_mem_cons.2 ⟨⟨(VE.out.box_at (i := 9) (j := 3) rfl rfl).1, (VE.out.box_at (i := 9) (j := 3) rfl rfl).2.2⟩, List.forall_mem_cons.2 ⟨⟨(VE.out.box_at (i := 8) (j := 0) rfl rfl).1, (VE.out.box_at (i := 8) (j := 0) rfl rfl).2.2⟩, List.forall_mem_cons.2 ⟨⟨(VE.out.box_at (i := 8) (j := 1) rfl rfl).1, (VE.out.box_at (i := 8) (j := 1) rfl rfl).2.2⟩, List.forall_mem_cons.2 ⟨⟨(VE.out.box_at (i := 8) (j := 2) rfl rfl).1, (VE.out.box_at (i := 8) (j := 2) rfl rfl).2.2⟩, List.forall_mem_cons.2 ⟨⟨(VE.out.box_at (i := 8) (j := 3) rfl rfl).1, (VE.out.box_at (i := 8) (j := 3) rfl rfl).2.2⟩, List.forall_mem_cons.2 ⟨⟨(VE.out.box_at (i := 1) (j := 1) rfl rfl).1, (VE.out.box_at (i := 1) (j := 1) rfl rfl).2.2⟩, List.forall_mem_cons.2 ⟨⟨(VE.out.pair_at (i := 3) rfl HP12.out).1, (VE.out.pair_at (i := 3) rfl HP12.out).2.2⟩, List.forall_mem_cons.2 ⟨⟨(VE.out.pair_at (i := 3) rfl HP12.out).2.1, (VE.out.pair_at (i := 3) rfl HP12.out).2.2⟩, fun _ h => by simp at h⟩⟩⟩⟩⟩⟩⟩⟩⟩⟩⟩) (fun hHeld => ?_)
                clear hK K
                try simp only [Act.put, sA, sZ, sS]
                refine wpAnyH_done (by kernel_rfl) ?_ _
                go_wp2_with fail
                go_meet
                exact ⟨_, rfl, VE.out⟩
              refine AllReadyH.cons (List.getElem?_toArray.trans rfl) (fun K hK => ?_) ?_
              · obtain ⟨w_9, hw_9⟩ : ∃ z, z = (wi.alloc (.cells #[.int .i64 0, .int .i64 0] 35)).drew := ⟨_, rfl⟩
                have V_9 := Lib.hid (show Hp _ (box 35 wi.heap.size [.int .i64 0, .int .i64 0] :: _) w_9 by rw [hw_9]; exact Vd.out.box_new 35 [.int .i64 0, .int .i64 0])
                have Bw_9 := Lib.hid (show Below wi.drew.heap.size wi.drew w_9 by rw [hw_9]; exact bnew _ _)
                go_simp
                rw [← hw_9]
                clear hw_9
                refine hK.out _ _ (hHeld.go Bw_9.out) (fun hHeld => ?_)
                clear hK K
                try simp only [Act.put, sA, sZ, sS]
                refine wpAnyH_ready (rs := [8]) (by kernel_rfl) (by simp) ?_
                refine AllReadyH.cons (List.getElem?_toArray.trans rfl) (fun K hK => ?_) AllReadyH.nil
                go_simp
                refine (followPair_any x y A B k p1 p2 c _ (HA.out.below V_9.out.below) (HB.out.below V_9.out.below) HIN.out hc).mono ?_
                rintro e w_9_8 ⟨rfl, b_9_8⟩
                try go_wp2_with fail
                have V_9_8 := Lib.hid (V_9.out.go b_9_8)
                refine hK.out _ _ (hHeld.go b_9_8) (fun hHeld => ?_)
                clear hK K
                try simp only [Act.put, sA, sZ, sS]
                refine wpAnyH_ready (rs := [10]) (by kernel_rfl) (by simp) ?_
                refine AllReadyH.cons (List.getElem?_toArray.trans rfl) (fun K hK => ?_) AllReadyH.nil
                obtain ⟨q0, o0, z0⟩ := V_9_8.out.box_at (i := 0) (j := 0) rfl rfl
                obtain ⟨q1, o1, z1⟩ := V_9_8.out.box_at (i := 0) (j := 1) rfl rfl
                have VE := Lib.hid ((V_9_8.out.box_set (i := 0) rfl 0 (.int .i64 (A.go p1 c))).box_set (i := 0) rfl 1 (.int .i64 (B.go p2 c)))
                go_simp
                refine hK.out _ _ (List.forall_mem_cons.2 ⟨⟨(VE.out.box_at (i := 9) (j := 0) rfl rfl).1, (VE.out.box_at (i := 9) (j := 0) rfl rfl).2.2⟩, List.forall_mem_cons.2 ⟨⟨(VE.out.box_at (i := 9) (j := 1) rfl rfl).1, (VE.out.box_at (i := 9) (j := 1) rfl rfl).2.2⟩, List.forall_mem_cons.2 ⟨⟨(VE.out.box_at (i := 9) (j := 2) rfl rfl).1, (VE.out.box_at (i := 9) (j := 2) rfl rfl).2.2⟩, List.forall_mem_cons.2 ⟨⟨(VE.out.box_at (i := 9) (j := 3) rfl rfl).1, (VE.out.box_at (i := 9) (j := 3) rfl rfl).2.2⟩, List.forall_mem_cons.2 ⟨⟨(VE.out.box_at (i := 8) (j := 0) rfl rfl).1, (VE.out.box_at (i := 8) (j := 0) rfl rfl).2.2⟩, List.forall_mem_cons.2 ⟨⟨(VE.out.box_at (i := 8) (j := 1) rfl rfl).1, (VE.out.box_at (i := 8) (j := 1) rfl rfl).2.2⟩, List.forall_mem_cons.2 ⟨⟨(VE.out.box_at (i := 8) (j := 2) rfl rfl).1, (VE.out.box_at (i := 8) (j := 2) rfl rfl).2.2⟩, List.forall_mem_cons.2 ⟨⟨(VE.out.box_at (i := 8) (j := 3) rfl rfl).1, (VE.out.box_at (i := 8) (j := 3) rfl rfl).2.2⟩, List.forall_mem_cons.2 ⟨⟨(VE.out.box_at (i := 1) (j := 1) rfl rfl).1, (VE.out.box_at (i := 1) (j := 1) rfl rfl).2.2⟩, List.forall_mem_cons.2 ⟨⟨(VE.out.pair_at (i := 3) rfl HP12.out).1, (VE.out.pair_at (i := 3) rfl HP12.out).2.2⟩, List.forall_mem_cons.2 ⟨⟨(VE.out.pair_at (i := 3) rfl HP12.out).2.1, (VE.out.pair_at (i := 3) rfl HP12.out).2.2⟩, fun _ h => by simp at h⟩⟩⟩⟩⟩⟩⟩⟩⟩⟩⟩) (fun hHeld => ?_)
                clear hK K
                try simp only [Act.put, sA, sZ, sS]
                refine wpAnyH_done (by kernel_rfl) ?_ _
                go_wp2_with fail
                go_meet
                exact ⟨_, rfl, VE.out⟩
              exact AllReadyH.nil
            case rest =>
              obtain ⟨gto, rfl, hv⟩ := hcut
              have V13 := Lib.hid hv
              obtain ⟨t0, _, t9⟩ := V13.out.box_at (i := 6) (j := 0) rfl rfl
              obtain ⟨t1, _, _⟩ := V13.out.box_at (i := 6) (j := 1) rfl rfl
              obtain ⟨s0, _, s9⟩ := V13.out.box_at (i := 0) (j := 0) rfl rfl
              obtain ⟨s1, _, _⟩ := V13.out.box_at (i := 0) (j := 1) rfl rfl
              clear hv V
              go_wp2_with fail
              refine (knows_any A B (A.go p1 c) (B.go p2 c) _ _ N N ps tab _ (by rw [HYN.out]) HG.out hAn hBn HR.out.tab HNT.out (V13.out.cells (i := 2) (A := some ⟨gt, 0, none⟩) (c := N) rfl rfl) HSM.out).mono ?_
              rintro e w14 ⟨rfl, b14⟩
              have V14 := Lib.hid (V13.out.go b14)
              clear b14 V13 t0 t1 t9 s0 s1 s9
              cases hkn : knw B tab (A.go p1 c, B.go p2 c) with
              | true =>
                have HV := Lib.hid (knw_yes HR.out HG.out hkn)
                have V15 := Lib.hid (V14.out.pick [1, 2, 3, 4, 5, 0, 6, 7, 8, 9] (by decide) (l' := [box 52 (W.heap.size + 1 + 1 + 1) [.int .i64 A.lt, .slice (some ⟨gp, 0, none⟩) np cp, .slice An nn cn, .slice Af nf cf], nums (some ⟨gt, 0, none⟩) N N tab, prow 35 (some ⟨gp, 0, none⟩) np cp ps, nums Af nf cf (fdOf pa), nums An nn cn nx, box 35 gto [.int .i64 (A.go p1 c), .int .i64 (B.go p2 c)], box 65 gtb [.int .i64 ((y.n : Int) + 1), .slice (some ⟨gt, 0, none⟩) N N], box 52 (W.heap.size + 1 + 1) [.int .i64 0, .slice none 0 0, .slice none 0 0, .slice none 0 0], box 25 (W.heap.size + 1) [.int .i64 B.lt, .int .i64 B.st, .slice y.A y.n y.c, .slice y.B y.m y.d], box 25 W.heap.size [.int .i64 A.lt, .int .i64 A.st, .slice x.A x.n x.c, .slice x.B x.m x.d]]) rfl)
                have H15 := Lib.hid (show Rch A B k ps pa (nx ++ [tab.getD (pl2 B (A.go p1 c, B.go p2 c)) 0 - 1]) tab from HR.out.seen hk0 (y := (p1, p2)) (by rw [HDV.out.1]; exact HP12.out) (by rw [HDV.out.2]; exact HV.out))
                have HT15 := Lib.hid HR.out.tab
                have HS15 := Lib.hid HSM.out
                have hpl : i + 1 ≤ ps.length := by rw [HNP.out]; omega
                clear HV hkn V14 HR HSM HP12 HDV HNP
                obtain ⟨v, hv⟩ : ∃ v, v = tab.getD (pl2 B (A.go p1 c, B.go p2 c)) 0 - 1 := ⟨_, rfl⟩
                rw [← hv] at H15
                have HV := Lib.hid hv
                clear hv
                go_upto_region 16 with fail
                have hKp : Keep [(⟨gtb, 0, none⟩, .int .i64 ((y.n : Int) + 1)), (⟨gtb, 1, none⟩, .slice (some ⟨gt, 0, none⟩) N N), (⟨gto, 0, none⟩, .int .i64 (A.go p1 c)), (⟨gto, 1, none⟩, .int .i64 (B.go p2 c))] w14 := List.forall_mem_cons.2 ⟨⟨(V15.out.box_at (i := 6) (j := 0) rfl rfl).1, (V15.out.box_at (i := 6) (j := 0) rfl rfl).2.2⟩, List.forall_mem_cons.2 ⟨⟨(V15.out.box_at (i := 6) (j := 1) rfl rfl).1, (V15.out.box_at (i := 6) (j := 1) rfl rfl).2.2⟩, List.forall_mem_cons.2 ⟨⟨(V15.out.box_at (i := 5) (j := 0) rfl rfl).1, (V15.out.box_at (i := 5) (j := 0) rfl rfl).2.2⟩, List.forall_mem_cons.2 ⟨⟨(V15.out.box_at (i := 5) (j := 1) rfl rfl).1, (V15.out.box_at (i := 5) (j := 1) rfl rfl).2.2⟩, fun _ h => by simp at h⟩⟩⟩⟩
                refine wp_region_held_drew (S := Keep _) (by kernel_rfl) hKp.drew (fun hHeld => ?_)
                have V15d := Lib.hid (V15.out.go (bdrew _))
                refine tk 0 ?_ rfl ?_ ?_; rotate_left; focus (intro w hSw; clear hSw; go_simp; try (with_reducible rfl))
                try simp only [Act.put, sA, sZ, sS]
                refine tk 2 ?_ rfl ?_ ?_; rotate_left
                · intro wl hSw
                  have hSw : Keep _ wl := hSw
                  have k0 : wl.cell? ⟨gtb, 0, none⟩ = some (.int .i64 ((y.n : Int) + 1)) := (hSw _ (.head _)).1
                  have k1 : wl.cell? ⟨gtb, 1, none⟩ = some (.slice (some ⟨gt, 0, none⟩) N N) := (hSw _ (.tail _ (.head _))).1
                  clear hSw
                  go_simp
                  try (with_reducible rfl)
                try simp only [Act.put, sA, sZ, sS]
                refine tk 3 ?_ rfl ?_ ?_; rotate_left
                · intro wl hSw
                  have hSw : Keep _ wl := hSw
                  have k0 : wl.cell? ⟨gto, 0, none⟩ = some (.int .i64 (A.go p1 c)) := (hSw _ (.tail _ (.tail _ (.head _)))).1
                  have k1 : wl.cell? ⟨gto, 1, none⟩ = some (.int .i64 (B.go p2 c)) := (hSw _ (.tail _ (.tail _ (.tail _ (.head _))))).1
                  clear hSw
                  go_simp
                  try (with_reducible rfl)
                try simp only [Act.put, sA, sZ, sS]
                refine wpAnyH_ready (rs := [1, 4]) (by kernel_rfl) (by simp) ?_
                refine AllReadyH.cons (List.getElem?_toArray.trans rfl) (fun K hK => ?_) ?_
                · have yL := (V15d.out.box_at (i := 0) (j := 2) rfl rfl).1
                  go_simp
                  refine hK.out _ _ (hHeld) (fun hHeld => ?_)
                  clear hK K
                  try simp only [Act.put, sA, sZ, sS]
                  refine wpAnyH_ready (rs := [4]) (by kernel_rfl) (by simp) ?_
                  refine AllReadyH.cons (List.getElem?_toArray.trans rfl) (fun K hK => ?_) AllReadyH.nil
                  go_simp
                  refine (get_val v A B (A.go p1 c) (B.go p2 c) _ _ N N ps tab _ HV.out (by rw [HYN.out]) HG.out hAn hBn HT15.out HNT.out (V15d.out.cells (i := 1) (A := some ⟨gt, 0, none⟩) (c := N) rfl rfl) HS15.out).mono ?_
                  rintro e w_1_4 ⟨rfl, b_1_4⟩
                  try go_wp2_with fail
                  have V_1_4 := Lib.hid (V15d.out.go b_1_4)
                  refine hK.out _ _ (hHeld.go b_1_4) (fun hHeld => ?_)
                  clear hK K
                  try simp only [Act.put, sA, sZ, sS]
                  refine wpAnyH_ready (rs := [5]) (by kernel_rfl) (by simp) ?_
                  refine AllReadyH.cons (List.getElem?_toArray.trans rfl) (fun K hK => ?_) AllReadyH.nil
                  obtain ⟨w_1_4_5, hw_1_4_5⟩ : ∃ z, z = (w_1_4.alloc (.cells #[.int .i64 v] 3)) := ⟨_, rfl⟩
                  have V_1_4_5 := Lib.hid (show Hp _ (box 3 w_1_4.heap.size [.int .i64 v] :: _) w_1_4_5 by rw [hw_1_4_5]; exact V_1_4.out.box_new 3 [.int .i64 v])
                  have Bw_1_4_5 := Lib.hid (show Below w_1_4.heap.size w_1_4 w_1_4_5 by rw [hw_1_4_5]; exact bnew _ _)
                  go_simp
                  rw [← hw_1_4_5]
                  clear hw_1_4_5
                  refine hK.out _ _ (hHeld.go Bw_1_4_5.out) (fun hHeld => ?_)
                  clear hK K
                  try simp only [Act.put, sA, sZ, sS]
                  refine wpAnyH_ready (rs := [6]) (by kernel_rfl) (by simp) ?_
                  refine AllReadyH.cons (List.getElem?_toArray.trans rfl) (fun K hK => ?_) AllReadyH.nil
                  have y0 := (V_1_4_5.out.box_at (i := 0) (j := 0) rfl rfl).1
                  obtain ⟨g4, cap4, w4, hr4, hv4, _⟩ := run_app_num V_1_4_5.out (i := 5) rfl 39 v y0 (by omega)
                  have V4 := Lib.hid hv4.tail
                  refine step_app_run rfl (.tmp 61) (.tmp 65) 39 rfl hr4 rfl rfl ?_
                  refine hK.out _ _ (List.forall_mem_cons.2 ⟨⟨(V4.out.box_at (i := 6) (j := 0) rfl rfl).1, (V4.out.box_at (i := 6) (j := 0) rfl rfl).2.2⟩, List.forall_mem_cons.2 ⟨⟨(V4.out.box_at (i := 6) (j := 1) rfl rfl).1, (V4.out.box_at (i := 6) (j := 1) rfl rfl).2.2⟩, List.forall_mem_cons.2 ⟨⟨(V4.out.box_at (i := 5) (j := 0) rfl rfl).1, (V4.out.box_at (i := 5) (j := 0) rfl rfl).2.2⟩, List.forall_mem_cons.2 ⟨⟨(V4.out.box_at (i := 5) (j := 1) rfl rfl).1, (V4.out.box_at (i := 5) (j := 1) rfl rfl).2.2⟩, fun _ h => by simp at h⟩⟩⟩⟩) (fun hHeld => ?_)
                  clear hK K
                  try simp only [Act.put, sA, sZ, sS]
                  refine tk 7 ?_ rfl ?_ ?_; rotate_left; focus (intro w hSw; clear hSw; go_simp; try (with_reducible rfl))
                  try simp only [Act.put, sA, sZ, sS]
                  refine wpAnyH_ready (rs := [8]) (by kernel_rfl) (by simp) ?_
                  refine AllReadyH.cons (List.getElem?_toArray.trans rfl) (fun K hK => ?_) AllReadyH.nil
                  obtain ⟨r0, o0, z0⟩ := V4.out.box_at (i := 0) (j := 2) rfl rfl
                  have V5 := Lib.hid (V4.out.box_set (i := 0) rfl 2 (.slice (some ⟨g4, 0, none⟩) (nn + 1) cap4))
                  go_simp
                  refine hK.out _ _ (List.forall_mem_cons.2 ⟨⟨(V5.out.box_at (i := 6) (j := 0) rfl rfl).1, (V5.out.box_at (i := 6) (j := 0) rfl rfl).2.2⟩, List.forall_mem_cons.2 ⟨⟨(V5.out.box_at (i := 6) (j := 1) rfl rfl).1, (V5.out.box_at (i := 6) (j := 1) rfl rfl).2.2⟩, List.forall_mem_cons.2 ⟨⟨(V5.out.box_at (i := 5) (j := 0) rfl rfl).1, (V5.out.box_at (i := 5) (j := 0) rfl rfl).2.2⟩, List.forall_mem_cons.2 ⟨⟨(V5.out.box_at (i := 5) (j := 1) rfl rfl).1, (V5.out.box_at (i := 5) (j := 1) rfl rfl).2.2⟩, fun _ h => by simp at h⟩⟩⟩⟩) (fun hHeld => ?_)
                  clear hK K
                  try simp only [Act.put, sA, sZ, sS]
                  refine wpAnyH_done (by kernel_rfl) ?_ _
                  have V17 := Lib.hid (Hp.pick V5.out [0, 1, 2, 3, 4, 6, 7, 8, 9] (by decide) (l' := [box 52 (W.heap.size + 1 + 1 + 1) [.int .i64 A.lt, .slice (some ⟨gp, 0, none⟩) np cp, .slice (some ⟨g4, 0, none⟩) (nn + 1) cap4, .slice Af nf cf], nums (some ⟨gt, 0, none⟩) N N tab, prow 35 (some ⟨gp, 0, none⟩) np cp ps, nums Af nf cf (fdOf pa), nums (some ⟨g4, 0, none⟩) (nn + 1) cap4 (nx ++ [v]), box 65 gtb [.int .i64 ((y.n : Int) + 1), .slice (some ⟨gt, 0, none⟩) N N], box 52 (W.heap.size + 1 + 1) [.int .i64 0, .slice none 0 0, .slice none 0 0, .slice none 0 0], box 25 (W.heap.size + 1) [.int .i64 B.lt, .int .i64 B.st, .slice y.A y.n y.c, .slice y.B y.m y.d], box 25 W.heap.size [.int .i64 A.lt, .int .i64 A.st, .slice x.A x.n x.c, .slice x.B x.m x.d]]) rfl)
                  have H17 := Lib.hid (show ReachSt x y A B k W gt gtb N (i * k + (c + 1)) (i + 1) _ from ⟨_, _, _, _, _, _, _, _, _, _, _, _, _, by rw [List.length_append, HPP.out]; rfl, hpl, H15.out, HS15.out, V17.out⟩)
                  go_wp2_with fail
                  go_roundw
                  case rel => exact ⟨c + 1, by go_num, by omega, H17.out⟩
                  case measure => simp [intOf]; omega
                refine AllReadyH.cons (List.getElem?_toArray.trans rfl) (fun K hK => ?_) ?_
                · go_simp
                  refine (get_val v A B (A.go p1 c) (B.go p2 c) _ _ N N ps tab _ HV.out (by rw [HYN.out]) HG.out hAn hBn HT15.out HNT.out (V15d.out.cells (i := 1) (A := some ⟨gt, 0, none⟩) (c := N) rfl rfl) HS15.out).mono ?_
                  rintro e w_4 ⟨rfl, b_4⟩
                  try go_wp2_with fail
                  have V_4 := Lib.hid (V15d.out.go b_4)
                  refine hK.out _ _ (hHeld.go b_4) (fun hHeld => ?_)
                  clear hK K
                  try simp only [Act.put, sA, sZ, sS]
                  refine wpAnyH_ready (rs := [1, 5]) (by kernel_rfl) (by simp) ?_
                  refine AllReadyH.cons (List.getElem?_toArray.trans rfl) (fun K hK => ?_) ?_
                  · have yL := (V_4.out.box_at (i := 0) (j := 2) rfl rfl).1
                    go_simp
                    refine hK.out _ _ (hHeld) (fun hHeld => ?_)
                    clear hK K
                    try simp only [Act.put, sA, sZ, sS]
                    refine wpAnyH_ready (rs := [5]) (by kernel_rfl) (by simp) ?_
                    refine AllReadyH.cons (List.getElem?_toArray.trans rfl) (fun K hK => ?_) AllReadyH.nil
                    obtain ⟨w_4_1_5, hw_4_1_5⟩ : ∃ z, z = (w_4.alloc (.cells #[.int .i64 v] 3)) := ⟨_, rfl⟩
                    have V_4_1_5 := Lib.hid (show Hp _ (box 3 w_4.heap.size [.int .i64 v] :: _) w_4_1_5 by rw [hw_4_1_5]; exact V_4.out.box_new 3 [.int .i64 v])
                    have Bw_4_1_5 := Lib.hid (show Below w_4.heap.size w_4 w_4_1_5 by rw [hw_4_1_5]; exact bnew _ _)
                    go_simp
                    rw [← hw_4_1_5]
                    clear hw_4_1_5
                    refine hK.out _ _ (hHeld.go Bw_4_1_5.out) (fun hHeld => ?_)
                    clear hK K
                    try simp only [Act.put, sA, sZ, sS]
                    refine wpAnyH_ready (rs := [6]) (by kernel_rfl) (by simp) ?_
                    refine AllReadyH.cons (List.getElem?_toArray.trans rfl) (fun K hK => ?_) AllReadyH.nil
                    have y0 := (V_4_1_5.out.box_at (i := 0) (j := 0) rfl rfl).1
                    obtain ⟨g4, cap4, w4, hr4, hv4, _⟩ := run_app_num V_4_1_5.out (i := 5) rfl 39 v y0 (by omega)
                    have V4 := Lib.hid hv4.tail
                    refine step_app_run rfl (.tmp 61) (.tmp 65) 39 rfl hr4 rfl rfl ?_
                    refine hK.out _ _ (List.forall_mem_cons.2 ⟨⟨(V4.out.box_at (i := 6) (j := 0) rfl rfl).1, (V4.out.box_at (i := 6) (j := 0) rfl rfl).2.2⟩, List.forall_mem_cons.2 ⟨⟨(V4.out.box_at (i := 6) (j := 1) rfl rfl).1, (V4.out.box_at (i := 6) (j := 1) rfl rfl).2.2⟩, List.forall_mem_cons.2 ⟨⟨(V4.out.box_at (i := 5) (j := 0) rfl rfl).1, (V4.out.box_at (i := 5) (j := 0) rfl rfl).2.2⟩, List.forall_mem_cons.2 ⟨⟨(V4.out.box_at (i := 5) (j := 1) rfl rfl).1, (V4.out.box_at (i := 5) (j := 1) rfl rfl).2.2⟩, fun _ h => by simp at h⟩⟩⟩⟩) (fun hHeld => ?_)
                    clear hK K
                    try simp only [Act.put, sA, sZ, sS]
                    refine tk 7 ?_ rfl ?_ ?_; rotate_left; focus (intro w hSw; clear hSw; go_simp; try (with_reducible rfl))
                    try simp only [Act.put, sA, sZ, sS]
                    refine wpAnyH_ready (rs := [8]) (by kernel_rfl) (by simp) ?_
                    refine AllReadyH.cons (List.getElem?_toArray.trans rfl) (fun K hK => ?_) AllReadyH.nil
                    obtain ⟨r0, o0, z0⟩ := V4.out.box_at (i := 0) (j := 2) rfl rfl
                    have V5 := Lib.hid (V4.out.box_set (i := 0) rfl 2 (.slice (some ⟨g4, 0, none⟩) (nn + 1) cap4))
                    go_simp
                    refine hK.out _ _ (List.forall_mem_cons.2 ⟨⟨(V5.out.box_at (i := 6) (j := 0) rfl rfl).1, (V5.out.box_at (i := 6) (j := 0) rfl rfl).2.2⟩, List.forall_mem_cons.2 ⟨⟨(V5.out.box_at (i := 6) (j := 1) rfl rfl).1, (V5.out.box_at (i := 6) (j := 1) rfl rfl).2.2⟩, List.forall_mem_cons.2 ⟨⟨(V5.out.box_at (i := 5) (j := 0) rfl rfl).1, (V5.out.box_at (i := 5) (j := 0) rfl rfl).2.2⟩, List.forall_mem_cons.2 ⟨⟨(V5.out.box_at (i := 5) (j := 1) rfl rfl).1, (V5.out.box_at (i := 5) (j := 1) rfl rfl).2.2⟩, fun _ h => by simp at h⟩⟩⟩⟩) (fun hHeld => ?_)
                    clear hK K
                    try simp only [Act.put, sA, sZ, sS]
                    refine wpAnyH_done (by kernel_rfl) ?_ _
                    have V17 := Lib.hid (Hp.pick V5.out [0, 1, 2, 3, 4, 6, 7, 8, 9] (by decide) (l' := [box 52 (W.heap.size + 1 + 1 + 1) [.int .i64 A.lt, .slice (some ⟨gp, 0, none⟩) np cp, .slice (some ⟨g4, 0, none⟩) (nn + 1) cap4, .slice Af nf cf], nums (some ⟨gt, 0, none⟩) N N tab, prow 35 (some ⟨gp, 0, none⟩) np cp ps, nums Af nf cf (fdOf pa), nums (some ⟨g4, 0, none⟩) (nn + 1) cap4 (nx ++ [v]), box 65 gtb [.int .i64 ((y.n : Int) + 1), .slice (some ⟨gt, 0, none⟩) N N], box 52 (W.heap.size + 1 + 1) [.int .i64 0, .slice none 0 0, .slice none 0 0, .slice none 0 0], box 25 (W.heap.size + 1) [.int .i64 B.lt, .int .i64 B.st, .slice y.A y.n y.c, .slice y.B y.m y.d], box 25 W.heap.size [.int .i64 A.lt, .int .i64 A.st, .slice x.A x.n x.c, .slice x.B x.m x.d]]) rfl)
                    have H17 := Lib.hid (show ReachSt x y A B k W gt gtb N (i * k + (c + 1)) (i + 1) _ from ⟨_, _, _, _, _, _, _, _, _, _, _, _, _, by rw [List.length_append, HPP.out]; rfl, hpl, H15.out, HS15.out, V17.out⟩)
                    go_wp2_with fail
                    go_roundw
                    case rel => exact ⟨c + 1, by go_num, by omega, H17.out⟩
                    case measure => simp [intOf]; omega
                  refine AllReadyH.cons (List.getElem?_toArray.trans rfl) (fun K hK => ?_) ?_
                  · obtain ⟨w_4_5, hw_4_5⟩ : ∃ z, z = (w_4.alloc (.cells #[.int .i64 v] 3)) := ⟨_, rfl⟩
                    have V_4_5 := Lib.hid (show Hp _ (box 3 w_4.heap.size [.int .i64 v] :: _) w_4_5 by rw [hw_4_5]; exact V_4.out.box_new 3 [.int .i64 v])
                    have Bw_4_5 := Lib.hid (show Below w_4.heap.size w_4 w_4_5 by rw [hw_4_5]; exact bnew _ _)
                    go_simp
                    rw [← hw_4_5]
                    clear hw_4_5
                    refine hK.out _ _ (hHeld.go Bw_4_5.out) (fun hHeld => ?_)
                    clear hK K
                    try simp only [Act.put, sA, sZ, sS]
                    refine wpAnyH_ready (rs := [1]) (by kernel_rfl) (by simp) ?_
                    refine AllReadyH.cons (List.getElem?_toArray.trans rfl) (fun K hK => ?_) AllReadyH.nil
                    have yL := (V_4_5.out.box_at (i := 1) (j := 2) rfl rfl).1
                    go_simp
                    refine hK.out _ _ (hHeld) (fun hHeld => ?_)
                    clear hK K
                    try simp only [Act.put, sA, sZ, sS]
                    refine wpAnyH_ready (rs := [6]) (by kernel_rfl) (by simp) ?_
                    refine AllReadyH.cons (List.getElem?_toArray.trans rfl) (fun K hK => ?_) AllReadyH.nil
                    have y0 := (V_4_5.out.box_at (i := 0) (j := 0) rfl rfl).1
                    obtain ⟨g4, cap4, w4, hr4, hv4, _⟩ := run_app_num V_4_5.out (i := 5) rfl 39 v y0 (by omega)
                    have V4 := Lib.hid hv4.tail
                    refine step_app_run rfl (.tmp 61) (.tmp 65) 39 rfl hr4 rfl rfl ?_
                    refine hK.out _ _ (List.forall_mem_cons.2 ⟨⟨(V4.out.box_at (i := 6) (j := 0) rfl rfl).1, (V4.out.box_at (i := 6) (j := 0) rfl rfl).2.2⟩, List.forall_mem_cons.2 ⟨⟨(V4.out.box_at (i := 6) (j := 1) rfl rfl).1, (V4.out.box_at (i := 6) (j := 1) rfl rfl).2.2⟩, List.forall_mem_cons.2 ⟨⟨(V4.out.box_at (i := 5) (j := 0) rfl rfl).1, (V4.out.box_at (i := 5) (j := 0) rfl rfl).2.2⟩, List.forall_mem_cons.2 ⟨⟨(V4.out.box_at (i := 5) (j := 1) rfl rfl).1, (V4.out.box_at (i := 5) (j := 1) rfl rfl).2.2⟩, fun _ h => by simp at h⟩⟩⟩⟩) (fun hHeld => ?_)
                    clear hK K
                    try simp only [Act.put, sA, sZ, sS]
                    refine tk 7 ?_ rfl ?_ ?_; rotate_left; focus (intro w hSw; clear hSw; go_simp; try (with_reducible rfl))
                    try simp only [Act.put, sA, sZ, sS]
                    refine wpAnyH_ready (rs := [8]) (by kernel_rfl) (by simp) ?_
                    refine AllReadyH.cons (List.getElem?_toArray.trans rfl) (fun K hK => ?_) AllReadyH.nil
                    obtain ⟨r0, o0, z0⟩ := V4.out.box_at (i := 0) (j := 2) rfl rfl
                    have V5 := Lib.hid (V4.out.box_set (i := 0) rfl 2 (.slice (some ⟨g4, 0, none⟩) (nn + 1) cap4))
                    go_simp
                    refine hK.out _ _ (List.forall_mem_cons.2 ⟨⟨(V5.out.box_at (i := 6) (j := 0) rfl rfl).1, (V5.out.box_at (i := 6) (j := 0) rfl rfl).2.2⟩, List.forall_mem_cons.2 ⟨⟨(V5.out.box_at (i := 6) (j := 1) rfl rfl).1, (V5.out.box_at (i := 6) (j := 1) rfl rfl).2.2⟩, List.forall_mem_cons.2 ⟨⟨(V5.out.box_at (i := 5) (j := 0) rfl rfl).1, (V5.out.box_at (i := 5) (j := 0) rfl rfl).2.2⟩, List.forall_mem_cons.2 ⟨⟨(V5.out.box_at (i := 5) (j := 1) rfl rfl).1, (V5.out.box_at (i := 5) (j := 1) rfl rfl).2.2⟩, fun _ h => by simp at h⟩⟩⟩⟩) (fun hHeld => ?_)
                    clear hK K
                    try simp only [Act.put, sA, sZ, sS]
                    refine wpAnyH_done (by kernel_rfl) ?_ _
                    have V17 := Lib.hid (Hp.pick V5.out [0, 1, 2, 3, 4, 6, 7, 8, 9] (by decide) (l' := [box 52 (W.heap.size + 1 + 1 + 1) [.int .i64 A.lt, .slice (some ⟨gp, 0, none⟩) np cp, .slice (some ⟨g4, 0, none⟩) (nn + 1) cap4, .slice Af nf cf], nums (some ⟨gt, 0, none⟩) N N tab, prow 35 (some ⟨gp, 0, none⟩) np cp ps, nums Af nf cf (fdOf pa), nums (some ⟨g4, 0, none⟩) (nn + 1) cap4 (nx ++ [v]), box 65 gtb [.int .i64 ((y.n : Int) + 1), .slice (some ⟨gt, 0, none⟩) N N], box 52 (W.heap.size + 1 + 1) [.int .i64 0, .slice none 0 0, .slice none 0 0, .slice none 0 0], box 25 (W.heap.size + 1) [.int .i64 B.lt, .int .i64 B.st, .slice y.A y.n y.c, .slice y.B y.m y.d], box 25 W.heap.size [.int .i64 A.lt, .int .i64 A.st, .slice x.A x.n x.c, .slice x.B x.m x.d]]) rfl)
                    have H17 := Lib.hid (show ReachSt x y A B k W gt gtb N (i * k + (c + 1)) (i + 1) _ from ⟨_, _, _, _, _, _, _, _, _, _, _, _, _, by rw [List.length_append, HPP.out]; rfl, hpl, H15.out, HS15.out, V17.out⟩)
                    go_wp2_with fail
                    go_roundw
                    case rel => exact ⟨c + 1, by go_num, by omega, H17.out⟩
                    case measure => simp [intOf]; omega
                  exact AllReadyH.nil
                exact AllReadyH.nil
              | false =>
                have HV := Lib.hid (knw_no HR.out HG.out hkn)
                have V15 := Lib.hid (V14.out.pick [1, 2, 3, 4, 5, 0, 6, 7, 8, 9] (by decide) (l' := [box 52 (W.heap.size + 1 + 1 + 1) [.int .i64 A.lt, .slice (some ⟨gp, 0, none⟩) np cp, .slice An nn cn, .slice Af nf cf], nums (some ⟨gt, 0, none⟩) N N tab, prow 35 (some ⟨gp, 0, none⟩) np cp ps, nums Af nf cf (fdOf pa), nums An nn cn nx, box 35 gto [.int .i64 (A.go p1 c), .int .i64 (B.go p2 c)], box 65 gtb [.int .i64 ((y.n : Int) + 1), .slice (some ⟨gt, 0, none⟩) N N], box 52 (W.heap.size + 1 + 1) [.int .i64 0, .slice none 0 0, .slice none 0 0, .slice none 0 0], box 25 (W.heap.size + 1) [.int .i64 B.lt, .int .i64 B.st, .slice y.A y.n y.c, .slice y.B y.m y.d], box 25 W.heap.size [.int .i64 A.lt, .int .i64 A.st, .slice x.A x.n x.c, .slice x.B x.m x.d]]) rfl)
                obtain ⟨t0, _, t9⟩ := V15.out.box_at (i := 6) (j := 0) rfl rfl
                obtain ⟨t1, _, _⟩ := V15.out.box_at (i := 6) (j := 1) rfl rfl
                obtain ⟨s0, _, s9⟩ := V15.out.box_at (i := 5) (j := 0) rfl rfl
                obtain ⟨s1, _, _⟩ := V15.out.box_at (i := 5) (j := 1) rfl rfl
                obtain ⟨r2, _, r9⟩ := V15.out.box_at (i := 0) (j := 2) rfl rfl
                clear hkn V14
                go_wp2_with fail
                refine (add_any A B A.lt (A.go p1 c) (B.go p2 c) _ (nn : Int) (W.heap.size + 1 + 1 + 1) gt N N (some ⟨gp, 0, none⟩) np cp An nn cn Af nf cf ps (fdOf pa) tab W _ _ (by rw [HYN.out]) HG.out hAn hBn HR.out.tab (by omega) (by omega) V15.out).mono ?_
                rintro e w16 ⟨Ap2, cp2, Af2, cf2, rfl, hv16⟩
                have e1 : fdOf pa ++ [(nn : Int)] = fdOf (pa ++ [nx.length]) := by
                  rw [HNN.out, fdOf_snoc]
                  intro e0
                  have := HR.out.bfs.len
                  rw [e0, HNP.out] at this
                  simp at this
                  omega
                rw [e1] at hv16
                have HX := Lib.hid (show Rch A B k (ps ++ [(A.go p1 c, B.go p2 c)]) (pa ++ [nx.length]) (nx ++ [(np : Int)]) (tab.set (pl2 B (A.go p1 c, B.go p2 c)) ((np : Int) + 1)) from by
                  have := HR.out.fresh HA.out.right HB.out.right (y := (p1, p2)) (by rw [HDV.out.1]; exact HP12.out) (by rw [HDV.out.2]; exact HV.out.1) (by rw [HDV.out.2]; exact HV.out.2)
                  rw [HDV.out.2, HNP.out] at this
                  exact this)
                have hvv : (tab.set (pl2 B (A.go p1 c, B.go p2 c)) ((np : Int) + 1)).getD (pl2 B (A.go p1 c, B.go p2 c)) 0 - 1 = (np : Int) := by
                  rw [getD_set (show pl2 B (A.go p1 c, B.go p2 c) < tab.length from HR.out.tab.lt HG.out), if_pos rfl]; omega
                have H15 := Lib.hid (show Rch A B k (ps ++ [(A.go p1 c, B.go p2 c)]) (pa ++ [nx.length]) (nx ++ [(tab.set (pl2 B (A.go p1 c, B.go p2 c)) ((np : Int) + 1)).getD (pl2 B (A.go p1 c, B.go p2 c)) 0 - 1]) (tab.set (pl2 B (A.go p1 c, B.go p2 c)) ((np : Int) + 1)) from by rw [hvv]; exact HX.out)
                have HT15 := Lib.hid HX.out.tab
                have HS15 := Lib.hid (HSM.out.set (pl2 B (A.go p1 c, B.go p2 c)) (x := (np : Int) + 1) (by omega) (by omega))
                have hpl : i + 1 ≤ (ps ++ [(A.go p1 c, B.go p2 c)]).length := by rw [List.length_append, HNP.out]; simp; omega
                have V16 := Lib.hid hv16
                have hnt : (tab.set (pl2 B (A.go p1 c, B.go p2 c)) ((np : Int) + 1)).length = N := by rw [List.length_set]; exact HNT.out
                have HNT2 := Lib.hid hnt
                clear e1 hv16 HX hvv HV t0 t1 t9 s0 s1 s9 r2 r9 V15 HR HSM HP12 HDV HNP hnt
                obtain ⟨v, hv⟩ : ∃ v, v = (tab.set (pl2 B (A.go p1 c, B.go p2 c)) ((np : Int) + 1)).getD (pl2 B (A.go p1 c, B.go p2 c)) 0 - 1 := ⟨_, rfl⟩
                rw [← hv] at H15
                have HV := Lib.hid hv
                clear hv
                go_upto_region 16 with fail
                have hKp : Keep [(⟨gtb, 0, none⟩, .int .i64 ((y.n : Int) + 1)), (⟨gtb, 1, none⟩, .slice (some ⟨gt, 0, none⟩) N N), (⟨gto, 0, none⟩, .int .i64 (A.go p1 c)), (⟨gto, 1, none⟩, .int .i64 (B.go p2 c))] w16 := List.forall_mem_cons.2 ⟨⟨(V16.out.box_at (i := 6) (j := 0) rfl rfl).1, (V16.out.box_at (i := 6) (j := 0) rfl rfl).2.2⟩, List.forall_mem_cons.2 ⟨⟨(V16.out.box_at (i := 6) (j := 1) rfl rfl).1, (V16.out.box_at (i := 6) (j := 1) rfl rfl).2.2⟩, List.forall_mem_cons.2 ⟨⟨(V16.out.box_at (i := 5) (j := 0) rfl rfl).1, (V16.out.box_at (i := 5) (j := 0) rfl rfl).2.2⟩, List.forall_mem_cons.2 ⟨⟨(V16.out.box_at (i := 5) (j := 1) rfl rfl).1, (V16.out.box_at (i := 5) (j := 1) rfl rfl).2.2⟩, fun _ h => by simp at h⟩⟩⟩⟩
                refine wp_region_held_drew (S := Keep _) (by kernel_rfl) hKp.drew (fun hHeld => ?_)
                have V16d := Lib.hid (V16.out.go (bdrew _))
                refine tk 0 ?_ rfl ?_ ?_; rotate_left; focus (intro w hSw; clear hSw; go_simp; try (with_reducible rfl))
                try simp only [Act.put, sA, sZ, sS]
                refine tk 2 ?_ rfl ?_ ?_; rotate_left
                · intro wl hSw
                  have hSw : Keep _ wl := hSw
                  have k0 : wl.cell? ⟨gtb, 0, none⟩ = some (.int .i64 ((y.n : Int) + 1)) := (hSw _ (.head _)).1
                  have k1 : wl.cell? ⟨gtb, 1, none⟩ = some (.slice (some ⟨gt, 0, none⟩) N N) := (hSw _ (.tail _ (.head _))).1
                  clear hSw
                  go_simp
                  try (with_reducible rfl)
                try simp only [Act.put, sA, sZ, sS]
                refine tk 3 ?_ rfl ?_ ?_; rotate_left
                · intro wl hSw
                  have hSw : Keep _ wl := hSw
                  have k0 : wl.cell? ⟨gto, 0, none⟩ = some (.int .i64 (A.go p1 c)) := (hSw _ (.tail _ (.tail _ (.head _)))).1
                  have k1 : wl.cell? ⟨gto, 1, none⟩ = some (.int .i64 (B.go p2 c)) := (hSw _ (.tail _ (.tail _ (.tail _ (.head _))))).1
                  clear hSw
                  go_simp
                  try (with_reducible rfl)
                try simp only [Act.put, sA, sZ, sS]
                refine wpAnyH_ready (rs := [1, 4]) (by kernel_rfl) (by simp) ?_
                refine AllReadyH.cons (List.getElem?_toArray.trans rfl) (fun K hK => ?_) ?_
                · have yL := (V16d.out.box_at (i := 0) (j := 2) rfl rfl).1
                  go_simp
                  refine hK.out _ _ (hHeld) (fun hHeld => ?_)
                  clear hK K
                  try simp only [Act.put, sA, sZ, sS]
                  refine wpAnyH_ready (rs := [4]) (by kernel_rfl) (by simp) ?_
                  refine AllReadyH.cons (List.getElem?_toArray.trans rfl) (fun K hK => ?_) AllReadyH.nil
                  go_simp
                  refine (get_val v A B (A.go p1 c) (B.go p2 c) _ _ N N (ps ++ [(A.go p1 c, B.go p2 c)]) (tab.set (pl2 B (A.go p1 c, B.go p2 c)) ((np : Int) + 1)) _ HV.out (by rw [HYN.out]) HG.out hAn hBn HT15.out HNT2.out (V16d.out.cells (i := 1) (A := some ⟨gt, 0, none⟩) (c := N) rfl rfl) HS15.out).mono ?_
                  rintro e w_1_4 ⟨rfl, b_1_4⟩
                  try go_wp2_with fail
                  have V_1_4 := Lib.hid (V16d.out.go b_1_4)
                  refine hK.out _ _ (hHeld.go b_1_4) (fun hHeld => ?_)
                  clear hK K
                  try simp only [Act.put, sA, sZ, sS]
                  refine wpAnyH_ready (rs := [5]) (by kernel_rfl) (by simp) ?_
                  refine AllReadyH.cons (List.getElem?_toArray.trans rfl) (fun K hK => ?_) AllReadyH.nil
                  obtain ⟨w_1_4_5, hw_1_4_5⟩ : ∃ z, z = (w_1_4.alloc (.cells #[.int .i64 v] 3)) := ⟨_, rfl⟩
                  have V_1_4_5 := Lib.hid (show Hp _ (box 3 w_1_4.heap.size [.int .i64 v] :: _) w_1_4_5 by rw [hw_1_4_5]; exact V_1_4.out.box_new 3 [.int .i64 v])
                  have Bw_1_4_5 := Lib.hid (show Below w_1_4.heap.size w_1_4 w_1_4_5 by rw [hw_1_4_5]; exact bnew _ _)
                  go_simp
                  rw [← hw_1_4_5]
                  clear hw_1_4_5
                  refine hK.out _ _ (hHeld.go Bw_1_4_5.out) (fun hHeld => ?_)
                  clear hK K
                  try simp only [Act.put, sA, sZ, sS]
                  refine wpAnyH_ready (rs := [6]) (by kernel_rfl) (by simp) ?_
                  refine AllReadyH.cons (List.getElem?_toArray.trans rfl) (fun K hK => ?_) AllReadyH.nil
                  have y0 := (V_1_4_5.out.box_at (i := 0) (j := 0) rfl rfl).1
                  obtain ⟨g4, cap4, w4, hr4, hv4, _⟩ := run_app_num V_1_4_5.out (i := 5) rfl 39 v y0 (by omega)
                  have V4 := Lib.hid hv4.tail
                  refine step_app_run rfl (.tmp 61) (.tmp 65) 39 rfl hr4 rfl rfl ?_
                  refine hK.out _ _ (List.forall_mem_cons.2 ⟨⟨(V4.out.box_at (i := 6) (j := 0) rfl rfl).1, (V4.out.box_at (i := 6) (j := 0) rfl rfl).2.2⟩, List.forall_mem_cons.2 ⟨⟨(V4.out.box_at (i := 6) (j := 1) rfl rfl).1, (V4.out.box_at (i := 6) (j := 1) rfl rfl).2.2⟩, List.forall_mem_cons.2 ⟨⟨(V4.out.box_at (i := 5) (j := 0) rfl rfl).1, (V4.out.box_at (i := 5) (j := 0) rfl rfl).2.2⟩, List.forall_mem_cons.2 ⟨⟨(V4.out.box_at (i := 5) (j := 1) rfl rfl).1, (V4.out.box_at (i := 5) (j := 1) rfl rfl).2.2⟩, fun _ h => by simp at h⟩⟩⟩⟩) (fun hHeld => ?_)
                  clear hK K
                  try simp only [Act.put, sA, sZ, sS]
                  refine tk 7 ?_ rfl ?_ ?_; rotate_left; focus (intro w hSw; clear hSw; go_simp; try (with_reducible rfl))
                  try simp only [Act.put, sA, sZ, sS]
                  refine wpAnyH_ready (rs := [8]) (by kernel_rfl) (by simp) ?_
                  refine AllReadyH.cons (List.getElem?_toArray.trans rfl) (fun K hK => ?_) AllReadyH.nil
                  obtain ⟨r0, o0, z0⟩ := V4.out.box_at (i := 0) (j := 2) rfl rfl
                  have V5 := Lib.hid (V4.out.box_set (i := 0) rfl 2 (.slice (some ⟨g4, 0, none⟩) (nn + 1) cap4))
                  go_simp
                  refine hK.out _ _ (List.forall_mem_cons.2 ⟨⟨(V5.out.box_at (i := 6) (j := 0) rfl rfl).1, (V5.out.box_at (i := 6) (j := 0) rfl rfl).2.2⟩, List.forall_mem_cons.2 ⟨⟨(V5.out.box_at (i := 6) (j := 1) rfl rfl).1, (V5.out.box_at (i := 6) (j := 1) rfl rfl).2.2⟩, List.forall_mem_cons.2 ⟨⟨(V5.out.box_at (i := 5) (j := 0) rfl rfl).1, (V5.out.box_at (i := 5) (j := 0) rfl rfl).2.2⟩, List.forall_mem_cons.2 ⟨⟨(V5.out.box_at (i := 5) (j := 1) rfl rfl).1, (V5.out.box_at (i := 5) (j := 1) rfl rfl).2.2⟩, fun _ h => by simp at h⟩⟩⟩⟩) (fun hHeld => ?_)
                  clear hK K
                  try simp only [Act.put, sA, sZ, sS]
                  refine wpAnyH_done (by kernel_rfl) ?_ _
                  have V17 := Lib.hid (Hp.pick V5.out [0, 1, 2, 3, 4, 6, 7, 8, 9] (by decide) (l' := [box 52 (W.heap.size + 1 + 1 + 1) [.int .i64 A.lt, .slice Ap2 (np + 1) cp2, .slice (some ⟨g4, 0, none⟩) (nn + 1) cap4, .slice Af2 (nf + 1) cf2], nums (some ⟨gt, 0, none⟩) N N (tab.set (pl2 B (A.go p1 c, B.go p2 c)) ((np : Int) + 1)), prow 35 Ap2 (np + 1) cp2 (ps ++ [(A.go p1 c, B.go p2 c)]), nums Af2 (nf + 1) cf2 (fdOf (pa ++ [nx.length])), nums (some ⟨g4, 0, none⟩) (nn + 1) cap4 (nx ++ [v]), box 65 gtb [.int .i64 ((y.n : Int) + 1), .slice (some ⟨gt, 0, none⟩) N N], box 52 (W.heap.size + 1 + 1) [.int .i64 0, .slice none 0 0, .slice none 0 0, .slice none 0 0], box 25 (W.heap.size + 1) [.int .i64 B.lt, .int .i64 B.st, .slice y.A y.n y.c, .slice y.B y.m y.d], box 25 W.heap.size [.int .i64 A.lt, .int .i64 A.st, .slice x.A x.n x.c, .slice x.B x.m x.d]]) rfl)
                  have H17 := Lib.hid (show ReachSt x y A B k W gt gtb N (i * k + (c + 1)) (i + 1) _ from ⟨_, _, _, _, _, _, _, _, _, _, _, _, _, by rw [List.length_append, HPP.out]; rfl, hpl, H15.out, HS15.out, V17.out⟩)
                  go_wp2_with fail
                  go_roundw
                  case rel => exact ⟨c + 1, by go_num, by omega, H17.out⟩
                  case measure => simp [intOf]; omega
                refine AllReadyH.cons (List.getElem?_toArray.trans rfl) (fun K hK => ?_) ?_
                · go_simp
                  refine (get_val v A B (A.go p1 c) (B.go p2 c) _ _ N N (ps ++ [(A.go p1 c, B.go p2 c)]) (tab.set (pl2 B (A.go p1 c, B.go p2 c)) ((np : Int) + 1)) _ HV.out (by rw [HYN.out]) HG.out hAn hBn HT15.out HNT2.out (V16d.out.cells (i := 1) (A := some ⟨gt, 0, none⟩) (c := N) rfl rfl) HS15.out).mono ?_
                  rintro e w_4 ⟨rfl, b_4⟩
                  try go_wp2_with fail
                  have V_4 := Lib.hid (V16d.out.go b_4)
                  refine hK.out _ _ (hHeld.go b_4) (fun hHeld => ?_)
                  clear hK K
                  try simp only [Act.put, sA, sZ, sS]
                  refine wpAnyH_ready (rs := [1, 5]) (by kernel_rfl) (by simp) ?_
                  refine AllReadyH.cons (List.getElem?_toArray.trans rfl) (fun K hK => ?_) ?_
                  · have yL := (V_4.out.box_at (i := 0) (j := 2) rfl rfl).1
                    go_simp
                    refine hK.out _ _ (hHeld) (fun hHeld => ?_)
                    clear hK K
                    try simp only [Act.put, sA, sZ, sS]
                    refine wpAnyH_ready (rs := [5]) (by kernel_rfl) (by simp) ?_
                    refine AllReadyH.cons (List.getElem?_toArray.trans rfl) (fun K hK => ?_) AllReadyH.nil
                    obtain ⟨w_4_1_5, hw_4_1_5⟩ : ∃ z, z = (w_4.alloc (.cells #[.int .i64 v] 3)) := ⟨_, rfl⟩
                    have V_4_1_5 := Lib.hid (show Hp _ (box 3 w_4.heap.size [.int .i64 v] :: _) w_4_1_5 by rw [hw_4_1_5]; exact V_4.out.box_new 3 [.int .i64 v])
                    have Bw_4_1_5 := Lib.hid (show Below w_4.heap.size w_4 w_4_1_5 by rw [hw_4_1_5]; exact bnew _ _)
                    go_simp
                    rw [← hw_4_1_5]
                    clear hw_4_1_5
                    refine hK.out _ _ (hHeld.go Bw_4_1_5.out) (fun hHeld => ?_)
                    clear hK K
                    try simp only [Act.put, sA, sZ, sS]
                    refine wpAnyH_ready (rs := [6]) (by kernel_rfl) (by simp) ?_
                    refine AllReadyH.cons (List.getElem?_toArray.trans rfl) (fun K hK => ?_) AllReadyH.nil
                    have y0 := (V_4_1_5.out.box_at (i := 0) (j := 0) rfl rfl).1
                    obtain ⟨g4, cap4, w4, hr4, hv4, _⟩ := run_app_num V_4_1_5.out (i := 5) rfl 39 v y0 (by omega)
                    have V4 := Lib.hid hv4.tail
                    refine step_app_run rfl (.tmp 61) (.tmp 65) 39 rfl hr4 rfl rfl ?_
                    refine hK.out _ _ (List.forall_mem_cons.2 ⟨⟨(V4.out.box_at (i := 6) (j := 0) rfl rfl).1, (V4.out.box_at (i := 6) (j := 0) rfl rfl).2.2⟩, List.forall_mem_cons.2 ⟨⟨(V4.out.box_at (i := 6) (j := 1) rfl rfl).1, (V4.out.box_at (i := 6) (j := 1) rfl rfl).2.2⟩, List.forall_mem_cons.2 ⟨⟨(V4.out.box_at (i := 5) (j := 0) rfl rfl).1, (V4.out.box_at (i := 5) (j := 0) rfl rfl).2.2⟩, List.forall_mem_cons.2 ⟨⟨(V4.out.box_at (i := 5) (j := 1) rfl rfl).1, (V4.out.box_at (i := 5) (j := 1) rfl rfl).2.2⟩, fun _ h => by simp at h⟩⟩⟩⟩) (fun hHeld => ?_)
                    clear hK K
                    try simp only [Act.put, sA, sZ, sS]
                    refine tk 7 ?_ rfl ?_ ?_; rotate_left; focus (intro w hSw; clear hSw; go_simp; try (with_reducible rfl))
                    try simp only [Act.put, sA, sZ, sS]
                    refine wpAnyH_ready (rs := [8]) (by kernel_rfl) (by simp) ?_
                    refine AllReadyH.cons (List.getElem?_toArray.trans rfl) (fun K hK => ?_) AllReadyH.nil
                    obtain ⟨r0, o0, z0⟩ := V4.out.box_at (i := 0) (j := 2) rfl rfl
                    have V5 := Lib.hid (V4.out.box_set (i := 0) rfl 2 (.slice (some ⟨g4, 0, none⟩) (nn + 1) cap4))
                    go_simp
                    refine hK.out _ _ (List.forall_mem_cons.2 ⟨⟨(V5.out.box_at (i := 6) (j := 0) rfl rfl).1, (V5.out.box_at (i := 6) (j := 0) rfl rfl).2.2⟩, List.forall_mem_cons.2 ⟨⟨(V5.out.box_at (i := 6) (j := 1) rfl rfl).1, (V5.out.box_at (i := 6) (j := 1) rfl rfl).2.2⟩, List.forall_mem_cons.2 ⟨⟨(V5.out.box_at (i := 5) (j := 0) rfl rfl).1, (V5.out.box_at (i := 5) (j := 0) rfl rfl).2.2⟩, List.forall_mem_cons.2 ⟨⟨(V5.out.box_at (i := 5) (j := 1) rfl rfl).1, (V5.out.box_at (i := 5) (j := 1) rfl rfl).2.2⟩, fun _ h => by simp at h⟩⟩⟩⟩) (fun hHeld => ?_)
                    clear hK K
                    try simp only [Act.put, sA, sZ, sS]
                    refine wpAnyH_done (by kernel_rfl) ?_ _
                    have V17 := Lib.hid (Hp.pick V5.out [0, 1, 2, 3, 4, 6, 7, 8, 9] (by decide) (l' := [box 52 (W.heap.size + 1 + 1 + 1) [.int .i64 A.lt, .slice Ap2 (np + 1) cp2, .slice (some ⟨g4, 0, none⟩) (nn + 1) cap4, .slice Af2 (nf + 1) cf2], nums (some ⟨gt, 0, none⟩) N N (tab.set (pl2 B (A.go p1 c, B.go p2 c)) ((np : Int) + 1)), prow 35 Ap2 (np + 1) cp2 (ps ++ [(A.go p1 c, B.go p2 c)]), nums Af2 (nf + 1) cf2 (fdOf (pa ++ [nx.length])), nums (some ⟨g4, 0, none⟩) (nn + 1) cap4 (nx ++ [v]), box 65 gtb [.int .i64 ((y.n : Int) + 1), .slice (some ⟨gt, 0, none⟩) N N], box 52 (W.heap.size + 1 + 1) [.int .i64 0, .slice none 0 0, .slice none 0 0, .slice none 0 0], box 25 (W.heap.size + 1) [.int .i64 B.lt, .int .i64 B.st, .slice y.A y.n y.c, .slice y.B y.m y.d], box 25 W.heap.size [.int .i64 A.lt, .int .i64 A.st, .slice x.A x.n x.c, .slice x.B x.m x.d]]) rfl)
                    have H17 := Lib.hid (show ReachSt x y A B k W gt gtb N (i * k + (c + 1)) (i + 1) _ from ⟨_, _, _, _, _, _, _, _, _, _, _, _, _, by rw [List.length_append, HPP.out]; rfl, hpl, H15.out, HS15.out, V17.out⟩)
                    go_wp2_with fail
                    go_roundw
                    case rel => exact ⟨c + 1, by go_num, by omega, H17.out⟩
                    case measure => simp [intOf]; omega
                  refine AllReadyH.cons (List.getElem?_toArray.trans rfl) (fun K hK => ?_) ?_
                  · obtain ⟨w_4_5, hw_4_5⟩ : ∃ z, z = (w_4.alloc (.cells #[.int .i64 v] 3)) := ⟨_, rfl⟩
                    have V_4_5 := Lib.hid (show Hp _ (box 3 w_4.heap.size [.int .i64 v] :: _) w_4_5 by rw [hw_4_5]; exact V_4.out.box_new 3 [.int .i64 v])
                    have Bw_4_5 := Lib.hid (show Below w_4.heap.size w_4 w_4_5 by rw [hw_4_5]; exact bnew _ _)
                    go_simp
                    rw [← hw_4_5]
                    clear hw_4_5
                    refine hK.out _ _ (hHeld.go Bw_4_5.out) (fun hHeld => ?_)
                    clear hK K
                    try simp only [Act.put, sA, sZ, sS]
                    refine wpAnyH_ready (rs := [1]) (by kernel_rfl) (by simp) ?_
                    refine AllReadyH.cons (List.getElem?_toArray.trans rfl) (fun K hK => ?_) AllReadyH.nil
                    have yL := (V_4_5.out.box_at (i := 1) (j := 2) rfl rfl).1
                    go_simp
                    refine hK.out _ _ (hHeld) (fun hHeld => ?_)
                    clear hK K
                    try simp only [Act.put, sA, sZ, sS]
                    refine wpAnyH_ready (rs := [6]) (by kernel_rfl) (by simp) ?_
                    refine AllReadyH.cons (List.getElem?_toArray.trans rfl) (fun K hK => ?_) AllReadyH.nil
                    have y0 := (V_4_5.out.box_at (i := 0) (j := 0) rfl rfl).1
                    obtain ⟨g4, cap4, w4, hr4, hv4, _⟩ := run_app_num V_4_5.out (i := 5) rfl 39 v y0 (by omega)
                    have V4 := Lib.hid hv4.tail
                    refine step_app_run rfl (.tmp 61) (.tmp 65) 39 rfl hr4 rfl rfl ?_
                    refine hK.out _ _ (List.forall_mem_cons.2 ⟨⟨(V4.out.box_at (i := 6) (j := 0) rfl rfl).1, (V4.out.box_at (i := 6) (j := 0) rfl rfl).2.2⟩, List.forall_mem_cons.2 ⟨⟨(V4.out.box_at (i := 6) (j := 1) rfl rfl).1, (V4.out.box_at (i := 6) (j := 1) rfl rfl).2.2⟩, List.forall_mem_cons.2 ⟨⟨(V4.out.box_at (i := 5) (j := 0) rfl rfl).1, (V4.out.box_at (i := 5) (j := 0) rfl rfl).2.2⟩, List.forall_mem_cons.2 ⟨⟨(V4.out.box_at (i := 5) (j := 1) rfl rfl).1, (V4.out.box_at (i := 5) (j := 1) rfl rfl).2.2⟩, fun _ h => by simp at h⟩⟩⟩⟩) (fun hHeld => ?_)
                    clear hK K
                    try simp only [Act.put, sA, sZ, sS]
                    refine tk 7 ?_ rfl ?_ ?_; rotate_left; focus (intro w hSw; clear hSw; go_simp; try (with_reducible rfl))
                    try simp only [Act.put, sA, sZ, sS]
                    refine wpAnyH_ready (rs := [8]) (by kernel_rfl) (by simp) ?_
                    refine AllReadyH.cons (List.getElem?_toArray.trans rfl) (fun K hK => ?_) AllReadyH.nil
                    obtain ⟨r0, o0, z0⟩ := V4.out.box_at (i := 0) (j := 2) rfl rfl
                    have V5 := Lib.hid (V4.out.box_set (i := 0) rfl 2 (.slice (some ⟨g4, 0, none⟩) (nn + 1) cap4))
                    go_simp
                    refine hK.out _ _ (List.forall_mem_cons.2 ⟨⟨(V5.out.box_at (i := 6) (j := 0) rfl rfl).1, (V5.out.box_at (i := 6) (j := 0) rfl rfl).2.2⟩, List.forall_mem_cons.2 ⟨⟨(V5.out.box_at (i := 6) (j := 1) rfl rfl).1, (V5.out.box_at (i := 6) (j := 1) rfl rfl).2.2⟩, List.forall_mem_cons.2 ⟨⟨(V5.out.box_at (i := 5) (j := 0) rfl rfl).1, (V5.out.box_at (i := 5) (j := 0) rfl rfl).2.2⟩, List.forall_mem_cons.2 ⟨⟨(V5.out.box_at (i := 5) (j := 1) rfl rfl).1, (V5.out.box_at (i := 5) (j := 1) rfl rfl).2.2⟩, fun _ h => by simp at h⟩⟩⟩⟩) (fun hHeld => ?_)
                    clear hK K
                    try simp only [Act.put, sA, sZ, sS]
                    refine wpAnyH_done (by kernel_rfl) ?_ _
                    have V17 := Lib.hid (Hp.pick V5.out [0, 1, 2, 3, 4, 6, 7, 8, 9] (by decide) (l' := [box 52 (W.heap.size + 1 + 1 + 1) [.int .i64 A.lt, .slice Ap2 (np + 1) cp2, .slice (some ⟨g4, 0, none⟩) (nn + 1) cap4, .slice Af2 (nf + 1) cf2], nums (some ⟨gt, 0, none⟩) N N (tab.set (pl2 B (A.go p1 c, B.go p2 c)) ((np : Int) + 1)), prow 35 Ap2 (np + 1) cp2 (ps ++ [(A.go p1 c, B.go p2 c)]), nums Af2 (nf + 1) cf2 (fdOf (pa ++ [nx.length])), nums (some ⟨g4, 0, none⟩) (nn + 1) cap4 (nx ++ [v]), box 65 gtb [.int .i64 ((y.n : Int) + 1), .slice (some ⟨gt, 0, none⟩) N N], box 52 (W.heap.size + 1 + 1) [.int .i64 0, .slice none 0 0, .slice none 0 0, .slice none 0 0], box 25 (W.heap.size + 1) [.int .i64 B.lt, .int .i64 B.st, .slice y.A y.n y.c, .slice y.B y.m y.d], box 25 W.heap.size [.int .i64 A.lt, .int .i64 A.st, .slice x.A x.n x.c, .slice x.B x.m x.d]]) rfl)
                    have H17 := Lib.hid (show ReachSt x y A B k W gt gtb N (i * k + (c + 1)) (i + 1) _ from ⟨_, _, _, _, _, _, _, _, _, _, _, _, _, by rw [List.length_append, HPP.out]; rfl, hpl, H15.out, HS15.out, V17.out⟩)
                    go_wp2_with fail
                    go_roundw
                    case rel => exact ⟨c + 1, by go_num, by omega, H17.out⟩
                    case measure => simp [intOf]; omega
                  exact AllReadyH.nil
                exact AllReadyH.nil
          · obtain rfl : c = k := by omega
            have V := Lib.hid hV
            have HR := Lib.hid hR
            have HSM := Lib.hid hS
            have HPP := Lib.hid hP
            clear hR hS hP hV hc
            obtain ⟨wi, rfl⟩ : ∃ wi : World, wi = wr := ⟨_, rfl⟩
            have H1 := Lib.hid (show ReachSt x y A B c W gt gtb N ((i + 1) * c) (i + 1) wi from ⟨ps, pa, nx, tab, Ap, np, cp, An, nn, cn, Af, nf, cf, by rw [HPP.out, Nat.add_mul, Nat.one_mul], hlo, HR.out, HSM.out, V.out⟩)
            clear V HR HSM HPP
            go_wp2_with fail
            go_roundw
            case rel => exact ⟨i + 1, by go_num, by omega, H1.out⟩
            case measure => simp [intOf]; omega
      · have hil : i = np := by omega
        obtain ⟨r0, _, r9⟩ := V.out.box_at (i := 0) (j := 0) rfl rfl
        obtain ⟨r1, _, _⟩ := V.out.box_at (i := 0) (j := 1) rfl rfl
        obtain ⟨r2, _, _⟩ := V.out.box_at (i := 0) (j := 2) rfl rfl
        obtain ⟨r3, _, _⟩ := V.out.box_at (i := 0) (j := 3) rfl rfl
        obtain ⟨s0, o0, s9⟩ := V.out.box_at (i := 6) (j := 0) rfl rfl
        obtain ⟨s1, o1, _⟩ := V.out.box_at (i := 6) (j := 1) rfl rfl
        obtain ⟨s2, o2, _⟩ := V.out.box_at (i := 6) (j := 2) rfl rfl
        obtain ⟨s3, o3, _⟩ := V.out.box_at (i := 6) (j := 3) rfl rfl
        have VE := Lib.hid ((((V.out.box_set (i := 6) rfl 0 (.int .i64 A.lt)).box_set (i := 6) rfl 1 (.slice Ap np cp)).box_set (i := 6) rfl 2 (.slice An nn cn)).box_set (i := 6) rfl 3 (.slice Af nf cf))
        obtain ⟨q0, _, _⟩ := VE.out.box_at (i := 6) (j := 0) rfl rfl
        obtain ⟨q1, _, _⟩ := VE.out.box_at (i := 6) (j := 1) rfl rfl
        obtain ⟨q2, _, _⟩ := VE.out.box_at (i := 6) (j := 2) rfl rfl
        obtain ⟨q3, _, _⟩ := VE.out.box_at (i := 6) (j := 3) rfl rfl
        have HE := Lib.hid (show Rch2 A B k ps pa nx from HR.out.done HS.out (by rw [HPP.out, HNP.out, hil]))
        clear hil HNP
        go_wp2_with fail
        refine bodyPost_ret (v := .agg #[.int .i64 A.lt, .slice Ap np cp, .slice An nn cn, .slice Af nf cf]) (by simp [results, Try.results21, go_sem, q0, q1, q2, q3]) rfl ?_
        have HVE := VE.out
        rw [HLT.out] at HVE ⊢
        exact ⟨ps, pa, nx, Ap, np, cp, An, nn, cn, Af, nf, cf, rfl, HE.out, HVE.pick [2, 4, 3] (by decide) rfl⟩
end Go.Proofs.Ytdkdfmflghbhiaa
