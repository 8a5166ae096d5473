/- Contracts of the second implementation: equal lists and automata, small ones, valid ones. -/
import Derived.Test.YtdkdfmflghbhiaaQo
import Derived.Test.YtdkdfmflghbhiaaQh
namespace Go.Proofs.Ytdkdfmflghbhiaa
open Go.RowKit
set_option linter.unusedVariables false
set_option linter.unusedSimpArgs false
set_option maxRecDepth 100000

theorem getD_ne {β : Type} {L M : List β} {j : Nat} {d : β} (h : ¬ L.getD j d = M.getD j d) : ¬ L = M := fun e => h (by rw [e])
theorem list_eq {L M : List Int} (h : L.length = M.length) (hj : ∀ j, j < L.length → L.getD j 0 = M.getD j 0) : L = M := by
  apply List.ext_getElem h
  intro j h1 h2
  have := hj j h1
  rw [getD_at h1, getD_at h2] at this
  exact this
theorem blist_eq {L M : List Bool} (h : L.length = M.length) (hj : ∀ j, j < L.length → L.getD j false = M.getD j false) : L = M := by
  apply List.ext_getElem h
  intro j h1 h2
  have := hj j h1
  rw [getD_at h1, getD_at h2] at this
  exact this
set_option maxHeartbeats 4000000 in
theorem requal_any (A1 A2 : Option Addr) (n c m d : Nat) (L M : List Int) (w : World) (hL : L.length = n) (hM : M.length = m) (hn : n ≤ 17592186044416) (hm : m ≤ 17592186044416) (h1 : CellsIn w A1 (ints L)) (h2 : CellsIn w A2 (ints M)) :
    Calls Try.prog 43 #[.slice A1 n c, .slice A2 m d] w fun e w' => e = .returned (.bool (decide (L = M))) ∧ Below w.heap.size w w' := by
  have HL := Lib.hid hL
  have HM := Lib.hid hM
  have C1 := Lib.hid h1
  have C2 := Lib.hid h2
  clear hL hM h1 h2
  by_cases hnm : n = m
  case neg =>
    have HE := Lib.hid (show decide (L = M) = false from decide_eq_false (fun e => hnm (by rw [← HL.out, ← HM.out, e])))
    have e1 : ((n : Int) == (m : Int)) = false := beq_no (by omega)
    have e2 : ((n : Int) != (m : Int)) = true := bne_yes (by omega)
    go_enter Try.func43, Try.ntmps43
    go_wp2_with fail
    go_ret
    exact ⟨ret_bool HE.out.symm, Below.refl _ _⟩
  subst hnm
  go_enter Try.func43, Try.ntmps43
  go_wp2_with fail
  go_loopw [5] (fun cv wr => ∃ j : Nat, cv = .int .i64 (j : Int) ∧ j ≤ n ∧ (∀ i, i < j → L.getD i 0 = M.getD i 0) ∧ Below w.heap.size w wr) (fun cv _ => n - (intOf cv).toNat)
  case atStart => exact ⟨0, rfl, Nat.zero_le _, fun i h => absurd h (Nat.not_lt_zero _), Below.refl _ _⟩
  case round =>
    obtain ⟨j, rfl, hjn, hr, hb⟩ := hrel
    obtain ⟨wi, rfl⟩ : ∃ wi : World, wi = wr := ⟨_, rfl⟩
    have R := Lib.hid hr
    have B := Lib.hid hb
    clear hr hb
    by_cases hlt : j < n
    · obtain ⟨b1, o1, rfl, hb1, hc1⟩ := (C1.out.below B.out).int (j := j) (by rw [HL.out]; exact hlt)
      obtain ⟨b2, o2, rfl, hb2, hc2⟩ := (C2.out.below B.out).int (j := j) (by rw [HM.out]; exact hlt)
      obtain ⟨u, hu⟩ : ∃ u, u = L.getD j 0 := ⟨_, rfl⟩
      obtain ⟨v, hv⟩ : ∃ v, v = M.getD j 0 := ⟨_, rfl⟩
      rw [← hu] at hc1
      rw [← hv] at hc2
      have HU := Lib.hid hu
      have HV := Lib.hid hv
      clear hu hv
      have BD := Lib.hid (btwo B.out (bdrew wi))
      by_cases huv : u = v
      · have H3 := Lib.hid (show ∀ i, i < j + 1 → L.getD i 0 = M.getD i 0 from fun i hi => by
          by_cases e : i = j
          · subst e; rw [← HU.out, ← HV.out, huv]
          · exact R.out i (by omega))
        have e1 : (u == v) = true := beq_yes huv
        have e2 : (u != v) = false := bne_no huv
        clear huv
        go_upto_region 6 with fail
        have hKp : Keep [(⟨b1, o1 + j, none⟩, .int .i64 u), (⟨b2, o2 + j, none⟩, .int .i64 v)] wi := List.forall_mem_cons.2 ⟨⟨hc1, hb1⟩, List.forall_mem_cons.2 ⟨⟨hc2, hb2⟩, fun _ h => by simp at h⟩⟩
        refine wp_region_held_drew (S := Keep _) (by kernel_rfl) hKp.drew (fun hHeld => ?_)
        refine tk 0 ?_ rfl ?_ ?_; rotate_left; focus (intro w hSw; clear hSw; go_simp; try (with_reducible rfl))
        try simp only [Act.put, sA, sZ, sS]
        refine tk 1 ?_ rfl ?_ ?_; rotate_left; focus (intro w hSw; clear hSw; go_simp; try (with_reducible rfl))
        try simp only [Act.put, sA, sZ, sS]
        refine tk 2 ?_ rfl ?_ ?_; rotate_left; focus (intro w hSw; clear hSw; go_simp; try (with_reducible rfl))
        try simp only [Act.put, sA, sZ, sS]
        refine tk 3 ?_ rfl ?_ ?_; rotate_left
        · intro wl hSw
          have hSw : Keep _ wl := hSw
          have k0 : wl.cell? ⟨b1, o1 + j, none⟩ = some (.int .i64 u) := (hSw _ (.head _)).1
          clear hSw
          go_simp
          try (with_reducible rfl)
        try simp only [Act.put, sA, sZ, sS]
        refine tk 4 ?_ rfl ?_ ?_; rotate_left; focus (intro w hSw; clear hSw; go_simp; try (with_reducible rfl))
        try simp only [Act.put, sA, sZ, sS]
        refine tk 5 ?_ rfl ?_ ?_; rotate_left; focus (intro w hSw; clear hSw; go_simp; try (with_reducible rfl))
        try simp only [Act.put, sA, sZ, sS]
        refine tk 6 ?_ rfl ?_ ?_; rotate_left; focus (intro w hSw; clear hSw; go_simp; try (with_reducible rfl))
        try simp only [Act.put, sA, sZ, sS]
        refine tk 7 ?_ rfl ?_ ?_; rotate_left
        · intro wl hSw
          have hSw : Keep _ wl := hSw
          have k0 : wl.cell? ⟨b2, o2 + j, none⟩ = some (.int .i64 v) := (hSw _ (.tail _ (.head _))).1
          clear hSw
          go_simp
          try (with_reducible rfl)
        try simp only [Act.put, sA, sZ, sS]
        refine tk 8 ?_ rfl ?_ ?_; rotate_left; focus (intro w hSw; clear hSw; go_simp; try (with_reducible rfl))
        try simp only [Act.put, sA, sZ, sS]
        refine wpAnyH_done (by kernel_rfl) ?_ _
        clear hHeld hKp
        go_wp2_with fail
        go_roundw
        case rel => exact ⟨j + 1, by go_num, by omega, H3.out, BD.out⟩
        case measure => simp [intOf]; omega
      · have HE := Lib.hid (show decide (L = M) = false from decide_eq_false (getD_ne (by rw [← HU.out, ← HV.out]; exact huv)))
        have e1 : (u == v) = false := beq_no huv
        have e2 : (u != v) = true := bne_yes huv
        clear huv
        go_upto_region 6 with fail
        have hKp : Keep [(⟨b1, o1 + j, none⟩, .int .i64 u), (⟨b2, o2 + j, none⟩, .int .i64 v)] wi := List.forall_mem_cons.2 ⟨⟨hc1, hb1⟩, List.forall_mem_cons.2 ⟨⟨hc2, hb2⟩, fun _ h => by simp at h⟩⟩
        refine wp_region_held_drew (S := Keep _) (by kernel_rfl) hKp.drew (fun hHeld => ?_)
        refine tk 0 ?_ rfl ?_ ?_; rotate_left; focus (intro w hSw; clear hSw; go_simp; try (with_reducible rfl))
        try simp only [Act.put, sA, sZ, sS]
        refine tk 1 ?_ rfl ?_ ?_; rotate_left; focus (intro w hSw; clear hSw; go_simp; try (with_reducible rfl))
        try simp only [Act.put, sA, sZ, sS]
        refine tk 2 ?_ rfl ?_ ?_; rotate_left; focus (intro w hSw; clear hSw; go_simp; try (with_reducible rfl))
        try simp only [Act.put, sA, sZ, sS]
        refine tk 3 ?_ rfl ?_ ?_; rotate_left
        · intro wl hSw
          have hSw : Keep _ wl := hSw
          have k0 : wl.cell? ⟨b1, o1 + j, none⟩ = some (.int .i64 u) := (hSw _ (.head _)).1
          clear hSw
          go_simp
          try (with_reducible rfl)
        try simp only [Act.put, sA, sZ, sS]
        refine tk 4 ?_ rfl ?_ ?_; rotate_left; focus (intro w hSw; clear hSw; go_simp; try (with_reducible rfl))
        try simp only [Act.put, sA, sZ, sS]
        refine tk 5 ?_ rfl ?_ ?_; rotate_left; focus (intro w hSw; clear hSw; go_simp; try (with_reducible rfl))
        try simp only [Act.put, sA, sZ, sS]
        refine tk 6 ?_ rfl ?_ ?_; rotate_left; focus (intro w hSw; clear hSw; go_simp; try (with_reducible rfl))
        try simp only [Act.put, sA, sZ, sS]
        refine tk 7 ?_ rfl ?_ ?_; rotate_left
        · intro wl hSw
          have hSw : Keep _ wl := hSw
          have k0 : wl.cell? ⟨b2, o2 + j, none⟩ = some (.int .i64 v) := (hSw _ (.tail _ (.head _))).1
          clear hSw
          go_simp
          try (with_reducible rfl)
        try simp only [Act.put, sA, sZ, sS]
        refine tk 8 ?_ rfl ?_ ?_; rotate_left; focus (intro w hSw; clear hSw; go_simp; try (with_reducible rfl))
        try simp only [Act.put, sA, sZ, sS]
        refine wpAnyH_done (by kernel_rfl) ?_ _
        clear hHeld hKp
        go_wp2_with fail
        go_ret
        exact ⟨ret_bool HE.out.symm, BD.out⟩
    · obtain rfl : j = n := by omega
      have HE := Lib.hid (show decide (L = M) = true from decide_eq_true (list_eq (by rw [HL.out, HM.out]) (fun i hi => R.out i (by rw [← HL.out]; exact hi))))
      go_wp2_with fail
      go_ret
      exact ⟨ret_bool HE.out.symm, B.out⟩
theorem Au.eq_of {A B : Au} (h1 : A.lt = B.lt) (h2 : A.st = B.st) (h3 : A.nx = B.nx) (h4 : A.ac = B.ac) : A = B := by
  cases A; cases B; simp_all
theorem nx_eq {L M : List (List Int)} (h : L.length = M.length) (hj : ∀ j, j < L.length → L.getD j [] = M.getD j []) : L = M := by
  apply List.ext_getElem h
  intro j h1 h2
  have := hj j h1
  rw [getD_at h1, getD_at h2] at this
  exact this
set_option maxHeartbeats 8000000 in
theorem sameDFA_any (x y : DV) (A B : Au) (w : World) (hA : DfaIn w x A) (hB : DfaIn w y B) :
    Calls Try.prog 17 #[dval x A, dval y B] w fun e w' => e = .returned (.bool (decide (A = B))) ∧ Below w.heap.size w w' := by
  have HA := Lib.hid hA
  have HB := Lib.hid hB
  have lA : A.nx.length = x.n := hA.n
  have mA : A.ac.length = x.m := hA.m
  have lB : B.nx.length = y.n := hB.n
  have mB : B.ac.length = y.m := hB.m
  have b1 := hA.cb
  have b2 := hA.db
  have b3 := hB.cb
  have b4 := hB.db
  clear hA hB
  by_cases c1 : A.lt = B.lt
  case neg =>
    have HE := Lib.hid (show decide (A = B) = false from decide_eq_false (fun e => c1 (by rw [e])))
    have e1 : (A.lt == B.lt) = false := beq_no c1
    have e2 : (A.lt != B.lt) = true := bne_yes c1
    clear lA mA lB mB c1
    obtain ⟨wz, hwz⟩ : ∃ z, z = ((w.alloc (.cells #[.int .i64 A.lt, .int .i64 A.st, .slice x.A x.n x.c, .slice x.B x.m x.d] 25)).alloc (.cells #[.int .i64 B.lt, .int .i64 B.st, .slice y.A y.n y.c, .slice y.B y.m y.d] 25)) := ⟨_, rfl⟩
    have V := Lib.hid (show Hp w [box 25 (w.heap.size + 1) [.int .i64 B.lt, .int .i64 B.st, .slice y.A y.n y.c, .slice y.B y.m y.d], box 25 w.heap.size [.int .i64 A.lt, .int .i64 A.st, .slice x.A x.n x.c, .slice x.B x.m x.d]] wz by
      have := (((Hp.start w).box_new 25 [.int .i64 A.lt, .int .i64 A.st, .slice x.A x.n x.c, .slice x.B x.m x.d]).box_new 25 [.int .i64 B.lt, .int .i64 B.st, .slice y.A y.n y.c, .slice y.B y.m y.d])
      rw [hwz]; simpa using this)
    have HZ := Lib.hid hwz
    clear hwz
    go_enter Try.func17, Try.ntmps17
    go_upto_region 1 with fail
    rw [← HZ.out]
    clear HZ
    obtain ⟨r0_0, _, r0_9⟩ := V.out.box_at (i := 0) (j := 0) rfl rfl
    obtain ⟨r0_1, _, _⟩ := V.out.box_at (i := 0) (j := 1) rfl rfl
    obtain ⟨r0_2, _, _⟩ := V.out.box_at (i := 0) (j := 2) rfl rfl
    obtain ⟨r0_3, _, _⟩ := V.out.box_at (i := 0) (j := 3) rfl rfl
    obtain ⟨r1_0, _, r1_9⟩ := V.out.box_at (i := 1) (j := 0) rfl rfl
    obtain ⟨r1_1, _, _⟩ := V.out.box_at (i := 1) (j := 1) rfl rfl
    obtain ⟨r1_2, _, _⟩ := V.out.box_at (i := 1) (j := 2) rfl rfl
    obtain ⟨r1_3, _, _⟩ := V.out.box_at (i := 1) (j := 3) rfl rfl
    go_wp2_with fail
    go_ret
    exact ⟨ret_bool HE.out.symm, V.out.below⟩
  have d1 : (A.lt == B.lt) = true := beq_yes c1
  have d2 : (A.lt != B.lt) = false := bne_no c1
  have C1 := Lib.hid c1
  clear c1
  by_cases c2 : A.st = B.st
  case neg =>
    have HE := Lib.hid (show decide (A = B) = false from decide_eq_false (fun e => c2 (by rw [e])))
    have e1 : (A.st == B.st) = false := beq_no c2
    have e2 : (A.st != B.st) = true := bne_yes c2
    clear lA mA lB mB c2
    obtain ⟨wz, hwz⟩ : ∃ z, z = ((w.alloc (.cells #[.int .i64 A.lt, .int .i64 A.st, .slice x.A x.n x.c, .slice x.B x.m x.d] 25)).alloc (.cells #[.int .i64 B.lt, .int .i64 B.st, .slice y.A y.n y.c, .slice y.B y.m y.d] 25)) := ⟨_, rfl⟩
    have V := Lib.hid (show Hp w [box 25 (w.heap.size + 1) [.int .i64 B.lt, .int .i64 B.st, .slice y.A y.n y.c, .slice y.B y.m y.d], box 25 w.heap.size [.int .i64 A.lt, .int .i64 A.st, .slice x.A x.n x.c, .slice x.B x.m x.d]] wz by
      have := (((Hp.start w).box_new 25 [.int .i64 A.lt, .int .i64 A.st, .slice x.A x.n x.c, .slice x.B x.m x.d]).box_new 25 [.int .i64 B.lt, .int .i64 B.st, .slice y.A y.n y.c, .slice y.B y.m y.d])
      rw [hwz]; simpa using this)
    have HZ := Lib.hid hwz
    clear hwz
    go_enter Try.func17, Try.ntmps17
    go_upto_region 1 with fail
    rw [← HZ.out]
    clear HZ
    obtain ⟨r0_0, _, r0_9⟩ := V.out.box_at (i := 0) (j := 0) rfl rfl
    obtain ⟨r0_1, _, _⟩ := V.out.box_at (i := 0) (j := 1) rfl rfl
    obtain ⟨r0_2, _, _⟩ := V.out.box_at (i := 0) (j := 2) rfl rfl
    obtain ⟨r0_3, _, _⟩ := V.out.box_at (i := 0) (j := 3) rfl rfl
    obtain ⟨r1_0, _, r1_9⟩ := V.out.box_at (i := 1) (j := 0) rfl rfl
    obtain ⟨r1_1, _, _⟩ := V.out.box_at (i := 1) (j := 1) rfl rfl
    obtain ⟨r1_2, _, _⟩ := V.out.box_at (i := 1) (j := 2) rfl rfl
    obtain ⟨r1_3, _, _⟩ := V.out.box_at (i := 1) (j := 3) rfl rfl
    go_wp2_with fail
    go_ret
    exact ⟨ret_bool HE.out.symm, V.out.below⟩
  have d3 : (A.st == B.st) = true := beq_yes c2
  have d4 : (A.st != B.st) = false := bne_no c2
  have C2 := Lib.hid c2
  clear c2
  by_cases c3 : x.n = y.n
  case neg =>
    have HE := Lib.hid (show decide (A = B) = false from decide_eq_false (fun e => c3 (by rw [← lA, ← lB, e])))
    have e1 : ((x.n : Int) == (y.n : Int)) = false := beq_no (by omega)
    have e2 : ((x.n : Int) != (y.n : Int)) = true := bne_yes (by omega)
    clear lA mA lB mB c3
    obtain ⟨wz, hwz⟩ : ∃ z, z = ((w.alloc (.cells #[.int .i64 A.lt, .int .i64 A.st, .slice x.A x.n x.c, .slice x.B x.m x.d] 25)).alloc (.cells #[.int .i64 B.lt, .int .i64 B.st, .slice y.A y.n y.c, .slice y.B y.m y.d] 25)) := ⟨_, rfl⟩
    have V := Lib.hid (show Hp w [box 25 (w.heap.size + 1) [.int .i64 B.lt, .int .i64 B.st, .slice y.A y.n y.c, .slice y.B y.m y.d], box 25 w.heap.size [.int .i64 A.lt, .int .i64 A.st, .slice x.A x.n x.c, .slice x.B x.m x.d]] wz by
      have := (((Hp.start w).box_new 25 [.int .i64 A.lt, .int .i64 A.st, .slice x.A x.n x.c, .slice x.B x.m x.d]).box_new 25 [.int .i64 B.lt, .int .i64 B.st, .slice y.A y.n y.c, .slice y.B y.m y.d])
      rw [hwz]; simpa using this)
    have HZ := Lib.hid hwz
    clear hwz
    go_enter Try.func17, Try.ntmps17
    go_upto_region 1 with fail
    rw [← HZ.out]
    clear HZ
    obtain ⟨r0_0, _, r0_9⟩ := V.out.box_at (i := 0) (j := 0) rfl rfl
    obtain ⟨r0_1, _, _⟩ := V.out.box_at (i := 0) (j := 1) rfl rfl
    obtain ⟨r0_2, _, _⟩ := V.out.box_at (i := 0) (j := 2) rfl rfl
    obtain ⟨r0_3, _, _⟩ := V.out.box_at (i := 0) (j := 3) rfl rfl
    obtain ⟨r1_0, _, r1_9⟩ := V.out.box_at (i := 1) (j := 0) rfl rfl
    obtain ⟨r1_1, _, _⟩ := V.out.box_at (i := 1) (j := 1) rfl rfl
    obtain ⟨r1_2, _, _⟩ := V.out.box_at (i := 1) (j := 2) rfl rfl
    obtain ⟨r1_3, _, _⟩ := V.out.box_at (i := 1) (j := 3) rfl rfl
    go_wp2_with fail
    go_ret
    exact ⟨ret_bool HE.out.symm, V.out.below⟩
  have d5 : ((x.n : Int) == (y.n : Int)) = true := beq_yes (by omega)
  have d6 : ((x.n : Int) != (y.n : Int)) = false := bne_no (by omega)
  have C3 := Lib.hid c3
  clear c3
  by_cases c4 : x.m = y.m
  case neg =>
    have HE := Lib.hid (show decide (A = B) = false from decide_eq_false (fun e => c4 (by rw [← mA, ← mB, e])))
    have e1 : ((x.m : Int) == (y.m : Int)) = false := beq_no (by omega)
    have e2 : ((x.m : Int) != (y.m : Int)) = true := bne_yes (by omega)
    clear lA mA lB mB c4
    obtain ⟨wz, hwz⟩ : ∃ z, z = ((w.alloc (.cells #[.int .i64 A.lt, .int .i64 A.st, .slice x.A x.n x.c, .slice x.B x.m x.d] 25)).alloc (.cells #[.int .i64 B.lt, .int .i64 B.st, .slice y.A y.n y.c, .slice y.B y.m y.d] 25)) := ⟨_, rfl⟩
    have V := Lib.hid (show Hp w [box 25 (w.heap.size + 1) [.int .i64 B.lt, .int .i64 B.st, .slice y.A y.n y.c, .slice y.B y.m y.d], box 25 w.heap.size [.int .i64 A.lt, .int .i64 A.st, .slice x.A x.n x.c, .slice x.B x.m x.d]] wz by
      have := (((Hp.start w).box_new 25 [.int .i64 A.lt, .int .i64 A.st, .slice x.A x.n x.c, .slice x.B x.m x.d]).box_new 25 [.int .i64 B.lt, .int .i64 B.st, .slice y.A y.n y.c, .slice y.B y.m y.d])
      rw [hwz]; simpa using this)
    have HZ := Lib.hid hwz
    clear hwz
    go_enter Try.func17, Try.ntmps17
    go_upto_region 1 with fail
    rw [← HZ.out]
    clear HZ
    obtain ⟨r0_0, _, r0_9⟩ := V.out.box_at (i := 0) (j := 0) rfl rfl
    obtain ⟨r0_1, _, _⟩ := V.out.box_at (i := 0) (j := 1) rfl rfl
    obtain ⟨r0_2, _, _⟩ := V.out.box_at (i := 0) (j := 2) rfl rfl
    obtain ⟨r0_3, _, _⟩ := V.out.box_at (i := 0) (j := 3) rfl rfl
    obtain ⟨r1_0, _, r1_9⟩ := V.out.box_at (i := 1) (j := 0) rfl rfl
    obtain ⟨r1_1, _, _⟩ := V.out.box_at (i := 1) (j := 1) rfl rfl
    obtain ⟨r1_2, _, _⟩ := V.out.box_at (i := 1) (j := 2) rfl rfl
    obtain ⟨r1_3, _, _⟩ := V.out.box_at (i := 1) (j := 3) rfl rfl
    go_wp2_with fail
    go_ret
    exact ⟨ret_bool HE.out.symm, V.out.below⟩
  have d7 : ((x.m : Int) == (y.m : Int)) = true := beq_yes (by omega)
  have d8 : ((x.m : Int) != (y.m : Int)) = false := bne_no (by omega)
  have C4 := Lib.hid c4
  have LA := Lib.hid lA
  have LB := Lib.hid lB
  have MA := Lib.hid mA
  have MB := Lib.hid mB
  clear c4 lA lB mA mB
  obtain ⟨wz, hwz⟩ : ∃ z, z = ((w.alloc (.cells #[.int .i64 A.lt, .int .i64 A.st, .slice x.A x.n x.c, .slice x.B x.m x.d] 25)).alloc (.cells #[.int .i64 B.lt, .int .i64 B.st, .slice y.A y.n y.c, .slice y.B y.m y.d] 25)) := ⟨_, rfl⟩
  have V := Lib.hid (show Hp w [box 25 (w.heap.size + 1) [.int .i64 B.lt, .int .i64 B.st, .slice y.A y.n y.c, .slice y.B y.m y.d], box 25 w.heap.size [.int .i64 A.lt, .int .i64 A.st, .slice x.A x.n x.c, .slice x.B x.m x.d]] wz by
    have := (((Hp.start w).box_new 25 [.int .i64 A.lt, .int .i64 A.st, .slice x.A x.n x.c, .slice x.B x.m x.d]).box_new 25 [.int .i64 B.lt, .int .i64 B.st, .slice y.A y.n y.c, .slice y.B y.m y.d])
    rw [hwz]; simpa using this)
  have HZ := Lib.hid hwz
  clear hwz
  go_enter Try.func17, Try.ntmps17
  go_upto_region 1 with fail
  rw [← HZ.out]
  clear HZ
  obtain ⟨r0_0, _, r0_9⟩ := V.out.box_at (i := 0) (j := 0) rfl rfl
  obtain ⟨r0_1, _, _⟩ := V.out.box_at (i := 0) (j := 1) rfl rfl
  obtain ⟨r0_2, _, _⟩ := V.out.box_at (i := 0) (j := 2) rfl rfl
  obtain ⟨r0_3, _, _⟩ := V.out.box_at (i := 0) (j := 3) rfl rfl
  obtain ⟨r1_0, _, r1_9⟩ := V.out.box_at (i := 1) (j := 0) rfl rfl
  obtain ⟨r1_1, _, _⟩ := V.out.box_at (i := 1) (j := 1) rfl rfl
  obtain ⟨r1_2, _, _⟩ := V.out.box_at (i := 1) (j := 2) rfl rfl
  obtain ⟨r1_3, _, _⟩ := V.out.box_at (i := 1) (j := 3) rfl rfl
  go_wp2_with fail
  clear r0_9 r0_0 r0_1 r0_2 r0_3 r1_9 r1_0 r1_1 r1_2 r1_3
  go_loopw [5] (fun cv wr => ∃ j : Nat, cv = .int .i64 (j : Int) ∧ j ≤ x.n ∧ (∀ i, i < j → A.nx.getD i [] = B.nx.getD i []) ∧ Hp w [box 25 (w.heap.size + 1) [.int .i64 B.lt, .int .i64 B.st, .slice y.A y.n y.c, .slice y.B y.m y.d], box 25 w.heap.size [.int .i64 A.lt, .int .i64 A.st, .slice x.A x.n x.c, .slice x.B x.m x.d]] wr) (fun cv _ => x.n - (intOf cv).toNat)
  case atStart => exact ⟨0, rfl, Nat.zero_le _, fun i h => absurd h (Nat.not_lt_zero _), V.out⟩
  case round =>
    clear V
    obtain ⟨j, rfl, hjn, hr, hV⟩ := hrel
    obtain ⟨wi, rfl⟩ : ∃ wi : World, wi = wr := ⟨_, rfl⟩
    have R := Lib.hid hr
    have V := Lib.hid hV
    clear hr hV
    obtain ⟨r0_0, _, r0_9⟩ := V.out.box_at (i := 0) (j := 0) rfl rfl
    obtain ⟨r0_1, _, _⟩ := V.out.box_at (i := 0) (j := 1) rfl rfl
    obtain ⟨r0_2, _, _⟩ := V.out.box_at (i := 0) (j := 2) rfl rfl
    obtain ⟨r0_3, _, _⟩ := V.out.box_at (i := 0) (j := 3) rfl rfl
    obtain ⟨r1_0, _, r1_9⟩ := V.out.box_at (i := 1) (j := 0) rfl rfl
    obtain ⟨r1_1, _, _⟩ := V.out.box_at (i := 1) (j := 1) rfl rfl
    obtain ⟨r1_2, _, _⟩ := V.out.box_at (i := 1) (j := 2) rfl rfl
    obtain ⟨r1_3, _, _⟩ := V.out.box_at (i := 1) (j := 3) rfl rfl
    by_cases hlt : j < x.n
    · obtain ⟨p1, o1, A1, k1, hxA, hp1, hq1, hl1, hk1, hr1⟩ := (HA.out.below V.out.below).row (q := j) (by rw [LA.out]; exact hlt)
      obtain ⟨p2, o2, A2, k2, hyA, hp2, hq2, hl2, hk2, hr2⟩ := (HB.out.below V.out.below).row (q := j) (by rw [LB.out, ← C3.out]; exact hlt)
      obtain ⟨ra, hra⟩ : ∃ r, r = A.nx.getD j [] := ⟨_, rfl⟩
      obtain ⟨rb, hrb⟩ : ∃ r, r = B.nx.getD j [] := ⟨_, rfl⟩
      rw [← hra] at hq1 hl1 hk1 hr1
      rw [← hrb] at hq2 hl2 hk2 hr2
      have RA := Lib.hid hra
      have RB := Lib.hid hrb
      have K1 := Lib.hid hr1
      have K2 := Lib.hid hr2
      rw [hxA] at r1_2
      rw [hyA] at r0_2
      have hlt2 : j < y.n := by rw [← C3.out]; exact hlt
      have hla : ra.length ≤ 17592186044416 := by omega
      have hlb : rb.length ≤ 17592186044416 := by omega
      clear hra hrb hr1 hr2 hl1 hl2 hk1 hk2 hxA hyA
      go_upto_region 6 with fail
      have hKp : Keep [(⟨w.heap.size, 2, none⟩, .slice (some ⟨p1, o1, none⟩) x.n x.c), (⟨p1, o1 + j, none⟩, .slice A1 ra.length k1), (⟨w.heap.size + 1, 2, none⟩, .slice (some ⟨p2, o2, none⟩) y.n y.c), (⟨p2, o2 + j, none⟩, .slice A2 rb.length k2)] wi := List.forall_mem_cons.2 ⟨⟨r1_2, r1_9⟩, List.forall_mem_cons.2 ⟨⟨hq1, hp1⟩, List.forall_mem_cons.2 ⟨⟨r0_2, r0_9⟩, List.forall_mem_cons.2 ⟨⟨hq2, hp2⟩, fun _ h => by simp at h⟩⟩⟩⟩
      refine wp_region_held_drew (S := Keep _) (by kernel_rfl) hKp.drew (fun hHeld => ?_)
      have Vd := Lib.hid (V.out.go (bdrew _))
      refine tk 0 ?_ rfl ?_ ?_; rotate_left; focus (intro w hSw; clear hSw; go_simp; try (with_reducible rfl))
      try simp only [Act.put, sA, sZ, sS]
      refine tk 1 ?_ rfl ?_ ?_; rotate_left
      · intro wl hSw
        have hSw : Keep _ wl := hSw
        have k0 : wl.cell? ⟨w.heap.size, 2, none⟩ = some (.slice (some ⟨p1, o1, none⟩) x.n x.c) := (hSw _ (.head _)).1
        clear hSw
        go_simp
        try (with_reducible rfl)
      try simp only [Act.put, sA, sZ, sS]
      refine tk 2 ?_ rfl ?_ ?_; rotate_left; focus (intro w hSw; clear hSw; go_simp; try (with_reducible rfl))
      try simp only [Act.put, sA, sZ, sS]
      refine tk 3 ?_ rfl ?_ ?_; rotate_left; focus (intro w hSw; clear hSw; go_simp; try (with_reducible rfl))
      try simp only [Act.put, sA, sZ, sS]
      refine tk 4 ?_ rfl ?_ ?_; rotate_left
      · intro wl hSw
        have hSw : Keep _ wl := hSw
        have k0 : wl.cell? ⟨p1, o1 + j, none⟩ = some (.slice A1 ra.length k1) := (hSw _ (.tail _ (.head _))).1
        clear hSw
        go_simp
        try (with_reducible rfl)
      try simp only [Act.put, sA, sZ, sS]
      refine tk 5 ?_ rfl ?_ ?_; rotate_left; focus (intro w hSw; clear hSw; go_simp; try (with_reducible rfl))
      try simp only [Act.put, sA, sZ, sS]
      refine tk 6 ?_ rfl ?_ ?_; rotate_left
      · intro wl hSw
        have hSw : Keep _ wl := hSw
        have k0 : wl.cell? ⟨w.heap.size + 1, 2, none⟩ = some (.slice (some ⟨p2, o2, none⟩) y.n y.c) := (hSw _ (.tail _ (.tail _ (.head _)))).1
        clear hSw
        go_simp
        try (with_reducible rfl)
      try simp only [Act.put, sA, sZ, sS]
      refine tk 7 ?_ rfl ?_ ?_; rotate_left; focus (intro w hSw; clear hSw; go_simp; try (with_reducible rfl))
      try simp only [Act.put, sA, sZ, sS]
      refine tk 8 ?_ rfl ?_ ?_; rotate_left; focus (intro w hSw; clear hSw; go_simp; try (with_reducible rfl))
      try simp only [Act.put, sA, sZ, sS]
      refine tk 9 ?_ rfl ?_ ?_; rotate_left
      · intro wl hSw
        have hSw : Keep _ wl := hSw
        have k0 : wl.cell? ⟨p2, o2 + j, none⟩ = some (.slice A2 rb.length k2) := (hSw _ (.tail _ (.tail _ (.tail _ (.head _))))).1
        clear hSw
        go_simp
        try (with_reducible rfl)
      try simp only [Act.put, sA, sZ, sS]
      refine wpAnyH_ready (rs := [10]) (by kernel_rfl) (by simp) ?_
      refine AllReadyH.cons (List.getElem?_toArray.trans rfl) (fun K hK => ?_) AllReadyH.nil
      go_simp
      refine (requal_any A1 A2 ra.length k1 rb.length k2 ra rb wi.drew rfl rfl hla hlb (K1.out.below (bdrew wi)) (K2.out.below (bdrew wi))).mono ?_
      rintro e w_10 ⟨rfl, b_10⟩
      try go_wp2_with fail
      have V_10 := Lib.hid (Vd.out.go b_10)
      refine hK.out _ _ (hHeld.go b_10) (fun hHeld => ?_)
      clear hK K
      try simp only [Act.put, sA, sZ, sS]
      refine tk 11 ?_ rfl ?_ ?_; rotate_left; focus (intro w hSw; clear hSw; go_simp; try (with_reducible rfl))
      try simp only [Act.put, sA, sZ, sS]
      refine wpAnyH_done (by kernel_rfl) ?_ _
      have VX := Lib.hid V_10.out
      have HEQ := Lib.hid (show (ra = rb → decide (ra = rb) = true) ∧ (¬ ra = rb → decide (ra = rb) = false) from ⟨fun e => decide_eq_true e, fun e => decide_eq_false e⟩)
      clear hHeld hKp
      by_cases hab : ra = rb
      · have H3 := Lib.hid (show ∀ i, i < j + 1 → A.nx.getD i [] = B.nx.getD i [] from fun i hi => by
          by_cases e : i = j
          · subst e; rw [← RA.out, ← RB.out, hab]
          · exact R.out i (by omega))
        have e9 := HEQ.out.1 hab
        rw [e9]
        clear hab HEQ e9
        go_wp2_with fail
        go_roundw
        case rel => exact ⟨j + 1, by go_num, by omega, H3.out, VX.out⟩
        case measure => simp [intOf]; omega
      · have HE := Lib.hid (show decide (A = B) = false from decide_eq_false (fun e => hab (by rw [RA.out, RB.out, e])))
        have e9 := HEQ.out.2 hab
        rw [e9]
        clear hab HEQ e9
        go_wp2_with fail
        go_ret
        exact ⟨ret_bool HE.out.symm, VX.out.below⟩
    · obtain rfl : j = x.n := by omega
      have HNX := Lib.hid (nx_eq (by rw [LA.out, LB.out, C3.out]) (fun i hi => R.out i (by rw [← LA.out]; exact hi)))
      clear R
      go_wp2_with fail
      clear r0_9 r0_0 r0_1 r0_2 r0_3 r1_9 r1_0 r1_1 r1_2 r1_3
      go_loopw [6] (fun cv wr => ∃ j : Nat, cv = .int .i64 (j : Int) ∧ j ≤ x.m ∧ (∀ i, i < j → A.ac.getD i false = B.ac.getD i false) ∧ Hp w [box 25 (w.heap.size + 1) [.int .i64 B.lt, .int .i64 B.st, .slice y.A y.n y.c, .slice y.B y.m y.d], box 25 w.heap.size [.int .i64 A.lt, .int .i64 A.st, .slice x.A x.n x.c, .slice x.B x.m x.d]] wr) (fun cv _ => x.m - (intOf cv).toNat)
      case atStart => exact ⟨0, rfl, Nat.zero_le _, fun i h => absurd h (Nat.not_lt_zero _), V.out⟩
      case round =>
        clear V
        obtain ⟨j, rfl, hjn, hr, hV⟩ := hrel
        obtain ⟨wi, rfl⟩ : ∃ wi : World, wi = wr := ⟨_, rfl⟩
        have R := Lib.hid hr
        have V := Lib.hid hV
        clear hr hV
        obtain ⟨r0_0, _, r0_9⟩ := V.out.box_at (i := 0) (j := 0) rfl rfl
        obtain ⟨r0_1, _, _⟩ := V.out.box_at (i := 0) (j := 1) rfl rfl
        obtain ⟨r0_2, _, _⟩ := V.out.box_at (i := 0) (j := 2) rfl rfl
        obtain ⟨r0_3, _, _⟩ := V.out.box_at (i := 0) (j := 3) rfl rfl
        obtain ⟨r1_0, _, r1_9⟩ := V.out.box_at (i := 1) (j := 0) rfl rfl
        obtain ⟨r1_1, _, _⟩ := V.out.box_at (i := 1) (j := 1) rfl rfl
        obtain ⟨r1_2, _, _⟩ := V.out.box_at (i := 1) (j := 2) rfl rfl
        obtain ⟨r1_3, _, _⟩ := V.out.box_at (i := 1) (j := 3) rfl rfl
        by_cases hlt : j < x.m
        · obtain ⟨p1, o1, hxB, hp1, hq1⟩ := (HA.out.below V.out.below).acc (q := j) (by rw [MA.out]; exact hlt)
          obtain ⟨p2, o2, hyB, hp2, hq2⟩ := (HB.out.below V.out.below).acc (q := j) (by rw [MB.out, ← C4.out]; exact hlt)
          obtain ⟨u, hu⟩ : ∃ r, r = A.ac.getD j false := ⟨_, rfl⟩
          obtain ⟨v, hv⟩ : ∃ r, r = B.ac.getD j false := ⟨_, rfl⟩
          rw [← hu] at hq1
          rw [← hv] at hq2
          rw [hxB] at r1_3
          rw [hyB] at r0_3
          have HU := Lib.hid hu
          have HV := Lib.hid hv
          have hlt2 : j < y.m := by rw [← C4.out]; exact hlt
          clear hu hv hxB hyB
          go_upto_region 11 with fail
          have hKp : Keep [(⟨w.heap.size, 3, none⟩, .slice (some ⟨p1, o1, none⟩) x.m x.d), (⟨p1, o1 + j, none⟩, .bool u), (⟨w.heap.size + 1, 3, none⟩, .slice (some ⟨p2, o2, none⟩) y.m y.d), (⟨p2, o2 + j, none⟩, .bool v)] wi := List.forall_mem_cons.2 ⟨⟨r1_3, r1_9⟩, List.forall_mem_cons.2 ⟨⟨hq1, hp1⟩, List.forall_mem_cons.2 ⟨⟨r0_3, r0_9⟩, List.forall_mem_cons.2 ⟨⟨hq2, hp2⟩, fun _ h => by simp at h⟩⟩⟩⟩
          refine wp_region_held_drew (S := Keep _) (by kernel_rfl) hKp.drew (fun hHeld => ?_)
          have Vd := Lib.hid (V.out.go (bdrew _))
          refine tk 0 ?_ rfl ?_ ?_; rotate_left; focus (intro w hSw; clear hSw; go_simp; try (with_reducible rfl))
          try simp only [Act.put, sA, sZ, sS]
          refine tk 1 ?_ rfl ?_ ?_; rotate_left
          · intro wl hSw
            have hSw : Keep _ wl := hSw
            have k0 : wl.cell? ⟨w.heap.size, 3, none⟩ = some (.slice (some ⟨p1, o1, none⟩) x.m x.d) := (hSw _ (.head _)).1
            clear hSw
            go_simp
            try (with_reducible rfl)
          try simp only [Act.put, sA, sZ, sS]
          refine tk 2 ?_ rfl ?_ ?_; rotate_left; focus (intro w hSw; clear hSw; go_simp; try (with_reducible rfl))
          try simp only [Act.put, sA, sZ, sS]
          refine tk 3 ?_ rfl ?_ ?_; rotate_left; focus (intro w hSw; clear hSw; go_simp; try (with_reducible rfl))
          try simp only [Act.put, sA, sZ, sS]
          refine tk 4 ?_ rfl ?_ ?_; rotate_left
          · intro wl hSw
            have hSw : Keep _ wl := hSw
            have k0 : wl.cell? ⟨p1, o1 + j, none⟩ = some (.bool u) := (hSw _ (.tail _ (.head _))).1
            clear hSw
            go_simp
            try (with_reducible rfl)
          try simp only [Act.put, sA, sZ, sS]
          refine tk 5 ?_ rfl ?_ ?_; rotate_left; focus (intro w hSw; clear hSw; go_simp; try (with_reducible rfl))
          try simp only [Act.put, sA, sZ, sS]
          refine tk 6 ?_ rfl ?_ ?_; rotate_left
          · intro wl hSw
            have hSw : Keep _ wl := hSw
            have k0 : wl.cell? ⟨w.heap.size + 1, 3, none⟩ = some (.slice (some ⟨p2, o2, none⟩) y.m y.d) := (hSw _ (.tail _ (.tail _ (.head _)))).1
            clear hSw
            go_simp
            try (with_reducible rfl)
          try simp only [Act.put, sA, sZ, sS]
          refine tk 7 ?_ rfl ?_ ?_; rotate_left; focus (intro w hSw; clear hSw; go_simp; try (with_reducible rfl))
          try simp only [Act.put, sA, sZ, sS]
          refine tk 8 ?_ rfl ?_ ?_; rotate_left; focus (intro w hSw; clear hSw; go_simp; try (with_reducible rfl))
          try simp only [Act.put, sA, sZ, sS]
          refine tk 9 ?_ rfl ?_ ?_; rotate_left
          · intro wl hSw
            have hSw : Keep _ wl := hSw
            have k0 : wl.cell? ⟨p2, o2 + j, none⟩ = some (.bool v) := (hSw _ (.tail _ (.tail _ (.tail _ (.head _))))).1
            clear hSw
            go_simp
            try (with_reducible rfl)
          try simp only [Act.put, sA, sZ, sS]
          refine tk 10 ?_ rfl ?_ ?_; rotate_left; focus (intro w hSw; clear hSw; go_simp; try (with_reducible rfl))
          try simp only [Act.put, sA, sZ, sS]
          refine wpAnyH_done (by kernel_rfl) ?_ _
          clear hHeld hKp
          have VX := Lib.hid (V.out.go (bdrew _))
          by_cases huv : u = v
          · have H3 := Lib.hid (show ∀ i, i < j + 1 → A.ac.getD i false = B.ac.getD i false from fun i hi => by
              by_cases e : i = j
              · subst e; rw [← HU.out, ← HV.out, huv]
              · exact R.out i (by omega))
            subst huv
            cases u
            · go_wp2_with fail
              go_roundw
              case rel => exact ⟨j + 1, by go_num, by omega, H3.out, VX.out⟩
              case measure => simp [intOf]; omega
            · go_wp2_with fail
              go_roundw
              case rel => exact ⟨j + 1, by go_num, by omega, H3.out, VX.out⟩
              case measure => simp [intOf]; omega
          · have HE := Lib.hid (show decide (A = B) = false from decide_eq_false (fun e => huv (by rw [HU.out, HV.out, e])))
            cases u <;> cases v
            · exact absurd rfl huv
            · go_wp2_with fail
              go_ret
              exact ⟨ret_bool HE.out.symm, VX.out.below⟩
            · go_wp2_with fail
              go_ret
              exact ⟨ret_bool HE.out.symm, VX.out.below⟩
            · exact absurd rfl huv
        · obtain rfl : j = x.m := by omega
          have HE := Lib.hid (show decide (A = B) = true from decide_eq_true (Au.eq_of C1.out C2.out HNX.out (blist_eq (by rw [MA.out, MB.out, C4.out]) (fun i hi => R.out i (by rw [← MA.out]; exact hi)))))
          go_wp2_with fail
          go_ret
          exact ⟨ret_bool HE.out.symm, V.out.below⟩
end Go.Proofs.Ytdkdfmflghbhiaa
