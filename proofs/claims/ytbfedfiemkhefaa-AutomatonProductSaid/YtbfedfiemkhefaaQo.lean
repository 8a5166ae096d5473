/- Contracts of the program: the error of two automata, where words lead. -/
import Derived.Test.YtbfedfiemkhefaaQn
namespace Go.Proofs.Ytbfedfiemkhefaa
open Go.RowKit
set_option linter.unusedVariables false
set_option linter.unusedSimpArgs false
set_option maxRecDepth 100000

theorem isAcc_none (x : DV) (M : Au) (w : World) :
    Calls Try.prog 37 #[dval x M, .int .i64 (-1)] w fun e w' => e = .returned (.bool (M.acc (-1))) ∧ Below w.heap.size w w' := by
  have H := Lib.hid (show M.acc (-1) = false from M.acc_neg (by decide))
  go_enter Try.func37, Try.ntmps37
  go_wp2
  go_ret
  exact ⟨ret_bool H.out.symm, bnew _ _⟩
set_option maxHeartbeats 4000000 in
theorem pairError_any (x y : DV) (A B : Au) (w : World) (hA : DfaIn w x A) (hB : DfaIn w y B) :
    Calls Try.prog 40 #[dval x A, dval y B] w fun e w' => e = .returned (.int .i64 (Au.pE A B)) ∧ Below w.heap.size w w' := by
  have HA := Lib.hid hA
  have HB := Lib.hid hB
  clear hA hB
  obtain ⟨wz, hwz⟩ : ∃ z, z = ((w.alloc (.cells #[.int .i64 A.lt, .int .i64 A.st, .slice x.A x.n x.c, .slice x.B x.m x.d] 25)).alloc (.cells #[.int .i64 B.lt, .int .i64 B.st, .slice y.A y.n y.c, .slice y.B y.m y.d] 25)) := ⟨_, rfl⟩
  have V := Lib.hid (show Hp w [box 25 (w.heap.size + 1) [.int .i64 B.lt, .int .i64 B.st, .slice y.A y.n y.c, .slice y.B y.m y.d], box 25 w.heap.size [.int .i64 A.lt, .int .i64 A.st, .slice x.A x.n x.c, .slice x.B x.m x.d]] wz by
    have := (((Hp.start w).box_new 25 [.int .i64 A.lt, .int .i64 A.st, .slice x.A x.n x.c, .slice x.B x.m x.d]).box_new 25 [.int .i64 B.lt, .int .i64 B.st, .slice y.A y.n y.c, .slice y.B y.m y.d])
    rw [hwz]; simpa using this)
  have HZ := Lib.hid hwz
  clear hwz
  by_cases h1 : A.vE = 0
  case neg =>
    have h1 : A.vE = 1 := by rcases A.vE_cases with e | e; exact absurd e h1; exact e
    have HE := Lib.hid (show Au.pE A B = 1 from if_neg (fun e => by omega))
    have HV := Lib.hid h1
    clear h1
    go_enter Try.func40, Try.ntmps40
    go_upto_region 1 with fail
    rw [← HZ.out]
    clear HZ
    obtain ⟨r0_0, _, r0_9⟩ := V.out.box_at (i := 0) (j := 0) rfl rfl
    obtain ⟨r0_1, _, _⟩ := V.out.box_at (i := 0) (j := 1) rfl rfl
    obtain ⟨r0_2, _, _⟩ := V.out.box_at (i := 0) (j := 2) rfl rfl
    obtain ⟨r0_3, _, _⟩ := V.out.box_at (i := 0) (j := 3) rfl rfl
    obtain ⟨r1_0, _, r1_9⟩ := V.out.box_at (i := 1) (j := 0) rfl rfl
    obtain ⟨r1_1, _, _⟩ := V.out.box_at (i := 1) (j := 1) rfl rfl
    obtain ⟨r1_2, _, _⟩ := V.out.box_at (i := 1) (j := 2) rfl rfl
    obtain ⟨r1_3, _, _⟩ := V.out.box_at (i := 1) (j := 3) rfl rfl
    go_wp2_with fail
    refine (valid_any x A _ (HA.out.below V.out.below)).mono ?_
    rintro e w1 ⟨rfl, b1⟩
    have V1 := Lib.hid (V.out.go b1)
    clear b1 V r0_9 r0_0 r0_1 r0_2 r0_3 r1_9 r1_0 r1_1 r1_2 r1_3
    rw [HV.out]
    go_wp2_with fail
    go_ret
    exact ⟨ret_int HE.out.symm, V1.out.below⟩
  have HV := Lib.hid h1
  by_cases h2 : B.vE = 0
  case neg =>
    have h2 : B.vE = 1 := by rcases B.vE_cases with e | e; exact absurd e h2; exact e
    have HE := Lib.hid (show Au.pE A B = 1 from if_neg (fun e => by omega))
    have HV2 := Lib.hid h2
    clear h1 h2
    go_enter Try.func40, Try.ntmps40
    go_upto_region 1 with fail
    rw [← HZ.out]
    clear HZ
    obtain ⟨r0_0, _, r0_9⟩ := V.out.box_at (i := 0) (j := 0) rfl rfl
    obtain ⟨r0_1, _, _⟩ := V.out.box_at (i := 0) (j := 1) rfl rfl
    obtain ⟨r0_2, _, _⟩ := V.out.box_at (i := 0) (j := 2) rfl rfl
    obtain ⟨r0_3, _, _⟩ := V.out.box_at (i := 0) (j := 3) rfl rfl
    obtain ⟨r1_0, _, r1_9⟩ := V.out.box_at (i := 1) (j := 0) rfl rfl
    obtain ⟨r1_1, _, _⟩ := V.out.box_at (i := 1) (j := 1) rfl rfl
    obtain ⟨r1_2, _, _⟩ := V.out.box_at (i := 1) (j := 2) rfl rfl
    obtain ⟨r1_3, _, _⟩ := V.out.box_at (i := 1) (j := 3) rfl rfl
    go_wp2_with fail
    refine (valid_any x A _ (HA.out.below V.out.below)).mono ?_
    rintro e w1 ⟨rfl, b1⟩
    have V1 := Lib.hid (V.out.go b1)
    clear b1 V r0_9 r0_0 r0_1 r0_2 r0_3 r1_9 r1_0 r1_1 r1_2 r1_3
    rw [HV.out]
    obtain ⟨r0_0, _, r0_9⟩ := V1.out.box_at (i := 0) (j := 0) rfl rfl
    obtain ⟨r0_1, _, _⟩ := V1.out.box_at (i := 0) (j := 1) rfl rfl
    obtain ⟨r0_2, _, _⟩ := V1.out.box_at (i := 0) (j := 2) rfl rfl
    obtain ⟨r0_3, _, _⟩ := V1.out.box_at (i := 0) (j := 3) rfl rfl
    obtain ⟨r1_0, _, r1_9⟩ := V1.out.box_at (i := 1) (j := 0) rfl rfl
    obtain ⟨r1_1, _, _⟩ := V1.out.box_at (i := 1) (j := 1) rfl rfl
    obtain ⟨r1_2, _, _⟩ := V1.out.box_at (i := 1) (j := 2) rfl rfl
    obtain ⟨r1_3, _, _⟩ := V1.out.box_at (i := 1) (j := 3) rfl rfl
    go_wp2_with fail
    refine (valid_any y B _ (HB.out.below V1.out.below)).mono ?_
    rintro e w2 ⟨rfl, b2⟩
    have V2 := Lib.hid (V1.out.go b2)
    rw [HV2.out]
    go_wp2_with fail
    go_ret
    exact ⟨ret_int HE.out.symm, V2.out.below⟩
  have HV2 := Lib.hid h2
  by_cases h3 : A.lt = B.lt
  · have HE := Lib.hid (show Au.pE A B = 0 from if_pos ⟨h1, h2, h3⟩)
    have g1 : (A.lt == B.lt) = true := beq_yes h3
    have g2 : (A.lt != B.lt) = false := bne_no h3
    clear h1 h2 h3
    go_enter Try.func40, Try.ntmps40
    go_upto_region 1 with fail
    rw [← HZ.out]
    clear HZ
    obtain ⟨r0_0, _, r0_9⟩ := V.out.box_at (i := 0) (j := 0) rfl rfl
    obtain ⟨r0_1, _, _⟩ := V.out.box_at (i := 0) (j := 1) rfl rfl
    obtain ⟨r0_2, _, _⟩ := V.out.box_at (i := 0) (j := 2) rfl rfl
    obtain ⟨r0_3, _, _⟩ := V.out.box_at (i := 0) (j := 3) rfl rfl
    obtain ⟨r1_0, _, r1_9⟩ := V.out.box_at (i := 1) (j := 0) rfl rfl
    obtain ⟨r1_1, _, _⟩ := V.out.box_at (i := 1) (j := 1) rfl rfl
    obtain ⟨r1_2, _, _⟩ := V.out.box_at (i := 1) (j := 2) rfl rfl
    obtain ⟨r1_3, _, _⟩ := V.out.box_at (i := 1) (j := 3) rfl rfl
    go_wp2_with fail
    refine (valid_any x A _ (HA.out.below V.out.below)).mono ?_
    rintro e w1 ⟨rfl, b1⟩
    have V1 := Lib.hid (V.out.go b1)
    clear b1 V r0_9 r0_0 r0_1 r0_2 r0_3 r1_9 r1_0 r1_1 r1_2 r1_3
    rw [HV.out]
    obtain ⟨r0_0, _, r0_9⟩ := V1.out.box_at (i := 0) (j := 0) rfl rfl
    obtain ⟨r0_1, _, _⟩ := V1.out.box_at (i := 0) (j := 1) rfl rfl
    obtain ⟨r0_2, _, _⟩ := V1.out.box_at (i := 0) (j := 2) rfl rfl
    obtain ⟨r0_3, _, _⟩ := V1.out.box_at (i := 0) (j := 3) rfl rfl
    obtain ⟨r1_0, _, r1_9⟩ := V1.out.box_at (i := 1) (j := 0) rfl rfl
    obtain ⟨r1_1, _, _⟩ := V1.out.box_at (i := 1) (j := 1) rfl rfl
    obtain ⟨r1_2, _, _⟩ := V1.out.box_at (i := 1) (j := 2) rfl rfl
    obtain ⟨r1_3, _, _⟩ := V1.out.box_at (i := 1) (j := 3) rfl rfl
    go_wp2_with fail
    refine (valid_any y B _ (HB.out.below V1.out.below)).mono ?_
    rintro e w2 ⟨rfl, b2⟩
    have V2 := Lib.hid (V1.out.go b2)
    rw [HV2.out]
    clear r0_9 r0_0 r0_1 r0_2 r0_3 r1_9 r1_0 r1_1 r1_2 r1_3
    obtain ⟨r0_0, _, r0_9⟩ := V2.out.box_at (i := 0) (j := 0) rfl rfl
    obtain ⟨r0_1, _, _⟩ := V2.out.box_at (i := 0) (j := 1) rfl rfl
    obtain ⟨r0_2, _, _⟩ := V2.out.box_at (i := 0) (j := 2) rfl rfl
    obtain ⟨r0_3, _, _⟩ := V2.out.box_at (i := 0) (j := 3) rfl rfl
    obtain ⟨r1_0, _, r1_9⟩ := V2.out.box_at (i := 1) (j := 0) rfl rfl
    obtain ⟨r1_1, _, _⟩ := V2.out.box_at (i := 1) (j := 1) rfl rfl
    obtain ⟨r1_2, _, _⟩ := V2.out.box_at (i := 1) (j := 2) rfl rfl
    obtain ⟨r1_3, _, _⟩ := V2.out.box_at (i := 1) (j := 3) rfl rfl
    go_wp2_with fail
    go_ret
    exact ⟨ret_int HE.out.symm, V2.out.below⟩
  · have HE := Lib.hid (show Au.pE A B = 1 from if_neg (fun e => h3 e.2.2))
    have g1 : (A.lt == B.lt) = false := beq_no h3
    have g2 : (A.lt != B.lt) = true := bne_yes h3
    clear h1 h2 h3
    go_enter Try.func40, Try.ntmps40
    go_upto_region 1 with fail
    rw [← HZ.out]
    clear HZ
    obtain ⟨r0_0, _, r0_9⟩ := V.out.box_at (i := 0) (j := 0) rfl rfl
    obtain ⟨r0_1, _, _⟩ := V.out.box_at (i := 0) (j := 1) rfl rfl
    obtain ⟨r0_2, _, _⟩ := V.out.box_at (i := 0) (j := 2) rfl rfl
    obtain ⟨r0_3, _, _⟩ := V.out.box_at (i := 0) (j := 3) rfl rfl
    obtain ⟨r1_0, _, r1_9⟩ := V.out.box_at (i := 1) (j := 0) rfl rfl
    obtain ⟨r1_1, _, _⟩ := V.out.box_at (i := 1) (j := 1) rfl rfl
    obtain ⟨r1_2, _, _⟩ := V.out.box_at (i := 1) (j := 2) rfl rfl
    obtain ⟨r1_3, _, _⟩ := V.out.box_at (i := 1) (j := 3) rfl rfl
    go_wp2_with fail
    refine (valid_any x A _ (HA.out.below V.out.below)).mono ?_
    rintro e w1 ⟨rfl, b1⟩
    have V1 := Lib.hid (V.out.go b1)
    clear b1 V r0_9 r0_0 r0_1 r0_2 r0_3 r1_9 r1_0 r1_1 r1_2 r1_3
    rw [HV.out]
    obtain ⟨r0_0, _, r0_9⟩ := V1.out.box_at (i := 0) (j := 0) rfl rfl
    obtain ⟨r0_1, _, _⟩ := V1.out.box_at (i := 0) (j := 1) rfl rfl
    obtain ⟨r0_2, _, _⟩ := V1.out.box_at (i := 0) (j := 2) rfl rfl
    obtain ⟨r0_3, _, _⟩ := V1.out.box_at (i := 0) (j := 3) rfl rfl
    obtain ⟨r1_0, _, r1_9⟩ := V1.out.box_at (i := 1) (j := 0) rfl rfl
    obtain ⟨r1_1, _, _⟩ := V1.out.box_at (i := 1) (j := 1) rfl rfl
    obtain ⟨r1_2, _, _⟩ := V1.out.box_at (i := 1) (j := 2) rfl rfl
    obtain ⟨r1_3, _, _⟩ := V1.out.box_at (i := 1) (j := 3) rfl rfl
    go_wp2_with fail
    refine (valid_any y B _ (HB.out.below V1.out.below)).mono ?_
    rintro e w2 ⟨rfl, b2⟩
    have V2 := Lib.hid (V1.out.go b2)
    rw [HV2.out]
    clear r0_9 r0_0 r0_1 r0_2 r0_3 r1_9 r1_0 r1_1 r1_2 r1_3
    obtain ⟨r0_0, _, r0_9⟩ := V2.out.box_at (i := 0) (j := 0) rfl rfl
    obtain ⟨r0_1, _, _⟩ := V2.out.box_at (i := 0) (j := 1) rfl rfl
    obtain ⟨r0_2, _, _⟩ := V2.out.box_at (i := 0) (j := 2) rfl rfl
    obtain ⟨r0_3, _, _⟩ := V2.out.box_at (i := 0) (j := 3) rfl rfl
    obtain ⟨r1_0, _, r1_9⟩ := V2.out.box_at (i := 1) (j := 0) rfl rfl
    obtain ⟨r1_1, _, _⟩ := V2.out.box_at (i := 1) (j := 1) rfl rfl
    obtain ⟨r1_2, _, _⟩ := V2.out.box_at (i := 1) (j := 2) rfl rfl
    obtain ⟨r1_3, _, _⟩ := V2.out.box_at (i := 1) (j := 3) rfl rfl
    go_wp2_with fail
    go_ret
    exact ⟨ret_int HE.out.symm, V2.out.below⟩
set_option maxHeartbeats 4000000 in
theorem run_any (x : DV) (M : Au) (Aw : Option Addr) (n c : Nat) (L : List Int) (w : World) (h : DfaIn w x M) (hL : L.length = n) (hn : n ≤ 17592186044416) (hc : CellsIn w Aw (ints L)) :
    Calls Try.prog 38 #[dval x M, .slice Aw n c] w fun e w' => e = .returned (.int .i64 (M.runL L)) ∧ Below w.heap.size w w' := by
  have H := Lib.hid h
  have HL := Lib.hid hL
  have HC := Lib.hid hc
  clear h hL hc
  obtain ⟨wz, hwz⟩ : ∃ z, z = (w.alloc (.cells #[.int .i64 M.lt, .int .i64 M.st, .slice x.A x.n x.c, .slice x.B x.m x.d] 25)) := ⟨_, rfl⟩
  have V := Lib.hid (show Hp w [box 25 w.heap.size [.int .i64 M.lt, .int .i64 M.st, .slice x.A x.n x.c, .slice x.B x.m x.d]] wz by
    have := ((Hp.start w).box_new 25 [.int .i64 M.lt, .int .i64 M.st, .slice x.A x.n x.c, .slice x.B x.m x.d])
    rw [hwz]; simpa using this)
  have HZ := Lib.hid hwz
  clear hwz
  by_cases h1 : M.vE = 0
  case neg =>
    have HE := Lib.hid (Au.runL_bad h1 L)
    have h1 : M.vE = 1 := by rcases M.vE_cases with e | e; exact absurd e h1; exact e
    have HV := Lib.hid h1
    clear h1
    go_enter Try.func38, Try.ntmps38
    go_upto_region 1 with fail
    rw [← HZ.out]
    clear HZ
    obtain ⟨r0_0, _, r0_9⟩ := V.out.box_at (i := 0) (j := 0) rfl rfl
    obtain ⟨r0_1, _, _⟩ := V.out.box_at (i := 0) (j := 1) rfl rfl
    obtain ⟨r0_2, _, _⟩ := V.out.box_at (i := 0) (j := 2) rfl rfl
    obtain ⟨r0_3, _, _⟩ := V.out.box_at (i := 0) (j := 3) rfl rfl
    go_wp2_with fail
    refine (valid_any x M _ (H.out.below V.out.below)).mono ?_
    rintro e w1 ⟨rfl, b1⟩
    have V1 := Lib.hid (V.out.go b1)
    clear b1 V r0_9 r0_0 r0_1 r0_2 r0_3
    rw [HV.out]
    go_wp2_with fail
    go_ret
    exact ⟨ret_int HE.out.symm, V1.out.below⟩
  have HE := Lib.hid (Au.runL_ok h1 L)
  have HV := Lib.hid h1
  have HR := Lib.hid (Au.vE_ok h1)
  have hk8 := (Au.vE_ok h1).k8
  clear h1
  go_enter Try.func38, Try.ntmps38
  go_upto_region 1 with fail
  rw [← HZ.out]
  clear HZ
  obtain ⟨r0_0, _, r0_9⟩ := V.out.box_at (i := 0) (j := 0) rfl rfl
  obtain ⟨r0_1, _, _⟩ := V.out.box_at (i := 0) (j := 1) rfl rfl
  obtain ⟨r0_2, _, _⟩ := V.out.box_at (i := 0) (j := 2) rfl rfl
  obtain ⟨r0_3, _, _⟩ := V.out.box_at (i := 0) (j := 3) rfl rfl
  go_wp2_with fail
  refine (valid_any x M _ (H.out.below V.out.below)).mono ?_
  rintro e w1 ⟨rfl, b1⟩
  have V1 := Lib.hid (V.out.go b1)
  clear b1 V r0_9 r0_0 r0_1 r0_2 r0_3
  rw [HV.out]
  obtain ⟨r0_0, _, r0_9⟩ := V1.out.box_at (i := 0) (j := 0) rfl rfl
  obtain ⟨r0_1, _, _⟩ := V1.out.box_at (i := 0) (j := 1) rfl rfl
  obtain ⟨r0_2, _, _⟩ := V1.out.box_at (i := 0) (j := 2) rfl rfl
  obtain ⟨r0_3, _, _⟩ := V1.out.box_at (i := 0) (j := 3) rfl rfl
  go_wp2_with fail
  clear r0_9 r0_0 r0_1 r0_2 r0_3
  have H1 := Lib.hid (show M.st = M.foldI (L.take 0) by simp [Au.foldI])
  go_loopw [5, 15] (fun sv cv wr => ∃ j : Nat, cv = .int .i64 (j : Int) ∧ j ≤ n ∧ sv = .int .i64 (M.foldI (L.take j)) ∧ Hp w [box 25 w.heap.size [.int .i64 M.lt, .int .i64 M.st, .slice x.A x.n x.c, .slice x.B x.m x.d]] wr) (fun _ cv _ => n - (intOf cv).toNat)
  case atStart => exact ⟨0, rfl, Nat.zero_le _, congrArg (Value.int .i64) H1.out, V1.out⟩
  case round =>
    clear H1 V1
    obtain ⟨j, rfl, hjn, rfl, hV⟩ := hrel
    obtain ⟨wi, rfl⟩ : ∃ wi : World, wi = wr := ⟨_, rfl⟩
    have V := Lib.hid hV
    clear hV
    obtain ⟨q, hq⟩ : ∃ q, q = M.foldI (L.take j) := ⟨_, rfl⟩
    rw [← hq]
    have HQ := Lib.hid hq
    clear hq
    by_cases hlt : j < n
    · obtain ⟨b, off, rfl, hb, hcell⟩ := (HC.out.below V.out.below).int (j := j) (by rw [HL.out]; exact hlt)
      obtain ⟨t, ht⟩ : ∃ t, t = L.getD j 0 := ⟨_, rfl⟩
      rw [← ht] at hcell
      have HT := Lib.hid (show L[j]? = some t by rw [ht, List.getD_eq_getElem?_getD, List.getElem?_eq_getElem (by rw [HL.out]; exact hlt)]; rfl)
      clear ht
      obtain ⟨r0_0, _, r0_9⟩ := V.out.box_at (i := 0) (j := 0) rfl rfl
      obtain ⟨r0_1, _, _⟩ := V.out.box_at (i := 0) (j := 1) rfl rfl
      obtain ⟨r0_2, _, _⟩ := V.out.box_at (i := 0) (j := 2) rfl rfl
      obtain ⟨r0_3, _, _⟩ := V.out.box_at (i := 0) (j := 3) rfl rfl
      by_cases hok : 0 ≤ t ∧ t < M.lt
      · obtain ⟨d, rfl⟩ := Int.eq_ofNat_of_zero_le hok.1
        have hd : (d : Int) < M.lt := hok.2
        have hdk : d < M.lt.toNat := by omega
        have hq1 : -1 ≤ q ∧ q < M.n := by rw [HQ.out]; exact HR.out.right.foldI_in _
        have H3 := Lib.hid (show M.go q d = M.foldI (L.take (j + 1)) by rw [Au.foldI_snoc HT.out, ← HQ.out, Au.stepI_ok hd])
        clear hok
        go_wp2_with fail
        refine ((show Good _ x M M.lt.toNat from ⟨H.out.below V.out.below, HR.out.right, by have := HR.out.few; omega, HR.out.k8⟩).follow q d hq1.1 hq1.2 hdk).mono ?_
        rintro e w3 ⟨rfl, b3⟩
        have V3 := Lib.hid (V.out.go b3)
        rw [H3.out]
        clear b3
        go_wp2_with fail
        go_roundw
        case rel => exact ⟨j + 1, by go_num, by omega, rfl, V3.out⟩
        case measure => simp [intOf]; omega
      · have H3 := Lib.hid (Au.foldI_bad HT.out hok)
        by_cases h0 : t < 0
        · clear hok
          go_wp2_with fail
          go_ret
          exact ⟨ret_int (by rw [HE.out, H3.out]), V.out.below⟩
        · have h0' : 0 ≤ t := by omega
          have h1' : M.lt ≤ t := by omega
          clear hok
          go_wp2_with fail
          go_ret
          exact ⟨ret_int (by rw [HE.out, H3.out]), V.out.below⟩
    · have H3 := Lib.hid (show q = M.runL L by rw [HE.out, HQ.out, List.take_of_length_le (by have := HL.out; omega)])
      go_wp2_with fail
      go_ret
      exact ⟨ret_int H3.out, V.out.below⟩
set_option maxHeartbeats 4000000 in
theorem accepts_any (x : DV) (M : Au) (Aw : Option Addr) (n c : Nat) (L : List Int) (w : World) (h : DfaIn w x M) (hL : L.length = n) (hn : n ≤ 17592186044416) (hc : CellsIn w Aw (ints L)) :
    Calls Try.prog 15 #[dval x M, .slice Aw n c] w fun e w' => e = .returned (.bool (M.accI L)) ∧ Below w.heap.size w w' := by
  have H := Lib.hid h
  have HL := Lib.hid hL
  have HC := Lib.hid hc
  clear h hL hc
  have HQ : ∀ (w : World), DfaIn w x M → Calls Try.prog 37 #[dval x M, .int .i64 (M.runL L)] w fun e w' => e = .returned (.bool (M.accI L)) ∧ Below w.heap.size w w' := by
    intro w hd
    by_cases h : M.vE = 0
    · have hr := Au.vE_ok h
      have h1 := M.runL_in L
      exact isAcc_any x M _ w hd h1.1 (by rw [hr.right.acl]; exact h1.2 h) (by rw [hr.right.acl]; have := hr.few; show M.n ≤ _; omega)
    · unfold Au.accI
      rw [Au.runL_bad h]
      exact isAcc_none x M w
  have HQ := Lib.hid HQ
  obtain ⟨wz, hwz⟩ : ∃ z, z = (w.alloc (.cells #[.int .i64 M.lt, .int .i64 M.st, .slice x.A x.n x.c, .slice x.B x.m x.d] 25)) := ⟨_, rfl⟩
  have V := Lib.hid (show Hp w [box 25 w.heap.size [.int .i64 M.lt, .int .i64 M.st, .slice x.A x.n x.c, .slice x.B x.m x.d]] wz by
    have := ((Hp.start w).box_new 25 [.int .i64 M.lt, .int .i64 M.st, .slice x.A x.n x.c, .slice x.B x.m x.d])
    rw [hwz]; simpa using this)
  have HZ := Lib.hid hwz
  clear hwz
  go_enter Try.func15, Try.ntmps15
  go_upto_region 1 with fail
  rw [← HZ.out]
  clear HZ
  have hKp : Keep [(⟨w.heap.size, 0, none⟩, .int .i64 M.lt), (⟨w.heap.size, 1, none⟩, .int .i64 M.st), (⟨w.heap.size, 2, none⟩, .slice x.A x.n x.c), (⟨w.heap.size, 3, none⟩, .slice x.B x.m x.d)] wz := List.forall_mem_cons.2 ⟨⟨(V.out.box_at (i := 0) (j := 0) rfl rfl).1, (V.out.box_at (i := 0) (j := 0) rfl rfl).2.2⟩, List.forall_mem_cons.2 ⟨⟨(V.out.box_at (i := 0) (j := 1) rfl rfl).1, (V.out.box_at (i := 0) (j := 1) rfl rfl).2.2⟩, List.forall_mem_cons.2 ⟨⟨(V.out.box_at (i := 0) (j := 2) rfl rfl).1, (V.out.box_at (i := 0) (j := 2) rfl rfl).2.2⟩, List.forall_mem_cons.2 ⟨⟨(V.out.box_at (i := 0) (j := 3) rfl rfl).1, (V.out.box_at (i := 0) (j := 3) rfl rfl).2.2⟩, fun _ h => by simp at h⟩⟩⟩⟩
  refine wp_region_held_drew (S := Keep _) (by kernel_rfl) hKp.drew (fun hHeld => ?_)
  have Vd := Lib.hid (V.out.go (bdrew _))
  refine tk 0 ?_ rfl ?_ ?_; rotate_left
  · intro wl hSw
    have hSw : Keep _ wl := hSw
    have k0 : wl.cell? ⟨w.heap.size, 0, none⟩ = some (.int .i64 M.lt) := (hSw _ (.head _)).1
    have k1 : wl.cell? ⟨w.heap.size, 1, none⟩ = some (.int .i64 M.st) := (hSw _ (.tail _ (.head _))).1
    have k2 : wl.cell? ⟨w.heap.size, 2, none⟩ = some (.slice x.A x.n x.c) := (hSw _ (.tail _ (.tail _ (.head _)))).1
    have k3 : wl.cell? ⟨w.heap.size, 3, none⟩ = some (.slice x.B x.m x.d) := (hSw _ (.tail _ (.tail _ (.tail _ (.head _))))).1
    clear hSw
    go_simp
    try (with_reducible rfl)
  try simp only [Act.put, sA, sZ, sS]
  refine tk 1 ?_ rfl ?_ ?_; rotate_left
  · intro wl hSw
    have hSw : Keep _ wl := hSw
    have k0 : wl.cell? ⟨w.heap.size, 0, none⟩ = some (.int .i64 M.lt) := (hSw _ (.head _)).1
    have k1 : wl.cell? ⟨w.heap.size, 1, none⟩ = some (.int .i64 M.st) := (hSw _ (.tail _ (.head _))).1
    have k2 : wl.cell? ⟨w.heap.size, 2, none⟩ = some (.slice x.A x.n x.c) := (hSw _ (.tail _ (.tail _ (.head _)))).1
    have k3 : wl.cell? ⟨w.heap.size, 3, none⟩ = some (.slice x.B x.m x.d) := (hSw _ (.tail _ (.tail _ (.tail _ (.head _))))).1
    clear hSw
    go_simp
    try (with_reducible rfl)
  try simp only [Act.put, sA, sZ, sS]
  refine tk 2 ?_ rfl ?_ ?_; rotate_left; focus (intro w hSw; clear hSw; go_simp; try (with_reducible rfl))
  try simp only [Act.put, sA, sZ, sS]
  refine wpAnyH_ready (rs := [3]) (by kernel_rfl) (by simp) ?_
  refine AllReadyH.cons (List.getElem?_toArray.trans rfl) (fun K hK => ?_) AllReadyH.nil
  go_simp
  refine (run_any x M Aw n c L _ (H.out.below Vd.out.below) HL.out hn (HC.out.below Vd.out.below)).mono ?_
  rintro e w_3 ⟨rfl, b_3⟩
  try go_wp2_with fail
  have V_3 := Lib.hid (Vd.out.go b_3)
  refine hK.out _ _ (hHeld.go b_3) (fun hHeld => ?_)
  clear hK K
  try simp only [Act.put, sA, sZ, sS]
  refine wpAnyH_ready (rs := [4]) (by kernel_rfl) (by simp) ?_
  refine AllReadyH.cons (List.getElem?_toArray.trans rfl) (fun K hK => ?_) AllReadyH.nil
  go_simp
  refine (HQ.out _ (H.out.below V_3.out.below)).mono ?_
  rintro e w_3_4 ⟨rfl, b_3_4⟩
  try go_wp2_with fail
  have V_3_4 := Lib.hid (V_3.out.go b_3_4)
  refine hK.out _ _ (hHeld.go b_3_4) (fun hHeld => ?_)
  clear hK K
  try simp only [Act.put, sA, sZ, sS]
  refine tk 5 ?_ rfl ?_ ?_; rotate_left; focus (intro w hSw; clear hSw; go_simp; try (with_reducible rfl))
  try simp only [Act.put, sA, sZ, sS]
  refine wpAnyH_done (by kernel_rfl) ?_ _
  go_wp2_with fail
  go_ret
  exact ⟨rfl, V_3_4.out.below⟩
end Go.Proofs.Ytbfedfiemkhefaa
