/- Contracts of the second implementation: pairs, and lists of pairs that prove that two languages are equal. -/
import Derived.Test.YtjobhpekclomfaaRf
import Derived.Test.YtjobhpekclomfaaQw
namespace Go.Proofs.Ytjobhpekclomfaa
open Go.RowKit
set_option linter.unusedVariables false
set_option linter.unusedSimpArgs false
set_option maxRecDepth 100000

set_option maxHeartbeats 4000000 in
theorem rboth_any (x y : DV) (A B : Au) (w : World) (hA : DfaIn w x A) (hB : DfaIn w y B) :
    Calls Try.prog 45 #[dval x A, dval y B] w fun e w' => e = .returned (.int .i64 (Au.pE A B)) ∧ Below w.heap.size w w' := by
  have HA := Lib.hid hA
  have HB := Lib.hid hB
  clear hA hB
  obtain ⟨wz, hwz⟩ : ∃ z, z = ((w.alloc (.cells #[.int .i64 A.lt, .int .i64 A.st, .slice x.A x.n x.c, .slice x.B x.m x.d] 25)).alloc (.cells #[.int .i64 B.lt, .int .i64 B.st, .slice y.A y.n y.c, .slice y.B y.m y.d] 25)) := ⟨_, rfl⟩
  have V := Lib.hid (show Hp w [box 25 (w.heap.size + 1) [.int .i64 B.lt, .int .i64 B.st, .slice y.A y.n y.c, .slice y.B y.m y.d], box 25 w.heap.size [.int .i64 A.lt, .int .i64 A.st, .slice x.A x.n x.c, .slice x.B x.m x.d]] wz by
    have := (((Hp.start w).box_new 25 [.int .i64 A.lt, .int .i64 A.st, .slice x.A x.n x.c, .slice x.B x.m x.d]).box_new 25 [.int .i64 B.lt, .int .i64 B.st, .slice y.A y.n y.c, .slice y.B y.m y.d])
    rw [hwz]; simpa using this)
  have HZ := Lib.hid hwz
  clear hwz
  by_cases h1 : A.vE = 0
  case neg =>
    have h1 : A.vE = 1 := by rcases A.vE_cases with e | e; exact absurd e h1; exact e
    have HE := Lib.hid (show Au.pE A B = 1 from if_neg (fun e => by omega))
    have HV := Lib.hid h1
    clear h1
    go_enter Try.func45, Try.ntmps45
    go_upto_region 1 with fail
    rw [← HZ.out]
    clear HZ
    obtain ⟨r0_0, _, r0_9⟩ := V.out.box_at (i := 0) (j := 0) rfl rfl
    obtain ⟨r0_1, _, _⟩ := V.out.box_at (i := 0) (j := 1) rfl rfl
    obtain ⟨r0_2, _, _⟩ := V.out.box_at (i := 0) (j := 2) rfl rfl
    obtain ⟨r0_3, _, _⟩ := V.out.box_at (i := 0) (j := 3) rfl rfl
    obtain ⟨r1_0, _, r1_9⟩ := V.out.box_at (i := 1) (j := 0) rfl rfl
    obtain ⟨r1_1, _, _⟩ := V.out.box_at (i := 1) (j := 1) rfl rfl
    obtain ⟨r1_2, _, _⟩ := V.out.box_at (i := 1) (j := 2) rfl rfl
    obtain ⟨r1_3, _, _⟩ := V.out.box_at (i := 1) (j := 3) rfl rfl
    go_wp2_with fail
    refine (rvalid_any x A _ (HA.out.below V.out.below)).mono ?_
    rintro e w1 ⟨rfl, b1⟩
    have V1 := Lib.hid (V.out.go b1)
    clear b1 V r0_9 r0_0 r0_1 r0_2 r0_3 r1_9 r1_0 r1_1 r1_2 r1_3
    rw [HV.out]
    go_wp2_with fail
    go_ret
    exact ⟨ret_int HE.out.symm, V1.out.below⟩
  have HV := Lib.hid h1
  by_cases h2 : B.vE = 0
  case neg =>
    have h2 : B.vE = 1 := by rcases B.vE_cases with e | e; exact absurd e h2; exact e
    have HE := Lib.hid (show Au.pE A B = 1 from if_neg (fun e => by omega))
    have HV2 := Lib.hid h2
    clear h1 h2
    go_enter Try.func45, Try.ntmps45
    go_upto_region 1 with fail
    rw [← HZ.out]
    clear HZ
    obtain ⟨r0_0, _, r0_9⟩ := V.out.box_at (i := 0) (j := 0) rfl rfl
    obtain ⟨r0_1, _, _⟩ := V.out.box_at (i := 0) (j := 1) rfl rfl
    obtain ⟨r0_2, _, _⟩ := V.out.box_at (i := 0) (j := 2) rfl rfl
    obtain ⟨r0_3, _, _⟩ := V.out.box_at (i := 0) (j := 3) rfl rfl
    obtain ⟨r1_0, _, r1_9⟩ := V.out.box_at (i := 1) (j := 0) rfl rfl
    obtain ⟨r1_1, _, _⟩ := V.out.box_at (i := 1) (j := 1) rfl rfl
    obtain ⟨r1_2, _, _⟩ := V.out.box_at (i := 1) (j := 2) rfl rfl
    obtain ⟨r1_3, _, _⟩ := V.out.box_at (i := 1) (j := 3) rfl rfl
    go_wp2_with fail
    refine (rvalid_any x A _ (HA.out.below V.out.below)).mono ?_
    rintro e w1 ⟨rfl, b1⟩
    have V1 := Lib.hid (V.out.go b1)
    clear b1 V r0_9 r0_0 r0_1 r0_2 r0_3 r1_9 r1_0 r1_1 r1_2 r1_3
    rw [HV.out]
    obtain ⟨r0_0, _, r0_9⟩ := V1.out.box_at (i := 0) (j := 0) rfl rfl
    obtain ⟨r0_1, _, _⟩ := V1.out.box_at (i := 0) (j := 1) rfl rfl
    obtain ⟨r0_2, _, _⟩ := V1.out.box_at (i := 0) (j := 2) rfl rfl
    obtain ⟨r0_3, _, _⟩ := V1.out.box_at (i := 0) (j := 3) rfl rfl
    obtain ⟨r1_0, _, r1_9⟩ := V1.out.box_at (i := 1) (j := 0) rfl rfl
    obtain ⟨r1_1, _, _⟩ := V1.out.box_at (i := 1) (j := 1) rfl rfl
    obtain ⟨r1_2, _, _⟩ := V1.out.box_at (i := 1) (j := 2) rfl rfl
    obtain ⟨r1_3, _, _⟩ := V1.out.box_at (i := 1) (j := 3) rfl rfl
    go_wp2_with fail
    refine (rvalid_any y B _ (HB.out.below V1.out.below)).mono ?_
    rintro e w2 ⟨rfl, b2⟩
    have V2 := Lib.hid (V1.out.go b2)
    rw [HV2.out]
    go_wp2_with fail
    go_ret
    exact ⟨ret_int HE.out.symm, V2.out.below⟩
  have HV2 := Lib.hid h2
  by_cases h3 : A.lt = B.lt
  · have HE := Lib.hid (show Au.pE A B = 0 from if_pos ⟨h1, h2, h3⟩)
    have g1 : (A.lt == B.lt) = true := beq_yes h3
    have g2 : (A.lt != B.lt) = false := bne_no h3
    clear h1 h2 h3
    go_enter Try.func45, Try.ntmps45
    go_upto_region 1 with fail
    rw [← HZ.out]
    clear HZ
    obtain ⟨r0_0, _, r0_9⟩ := V.out.box_at (i := 0) (j := 0) rfl rfl
    obtain ⟨r0_1, _, _⟩ := V.out.box_at (i := 0) (j := 1) rfl rfl
    obtain ⟨r0_2, _, _⟩ := V.out.box_at (i := 0) (j := 2) rfl rfl
    obtain ⟨r0_3, _, _⟩ := V.out.box_at (i := 0) (j := 3) rfl rfl
    obtain ⟨r1_0, _, r1_9⟩ := V.out.box_at (i := 1) (j := 0) rfl rfl
    obtain ⟨r1_1, _, _⟩ := V.out.box_at (i := 1) (j := 1) rfl rfl
    obtain ⟨r1_2, _, _⟩ := V.out.box_at (i := 1) (j := 2) rfl rfl
    obtain ⟨r1_3, _, _⟩ := V.out.box_at (i := 1) (j := 3) rfl rfl
    go_wp2_with fail
    refine (rvalid_any x A _ (HA.out.below V.out.below)).mono ?_
    rintro e w1 ⟨rfl, b1⟩
    have V1 := Lib.hid (V.out.go b1)
    clear b1 V r0_9 r0_0 r0_1 r0_2 r0_3 r1_9 r1_0 r1_1 r1_2 r1_3
    rw [HV.out]
    obtain ⟨r0_0, _, r0_9⟩ := V1.out.box_at (i := 0) (j := 0) rfl rfl
    obtain ⟨r0_1, _, _⟩ := V1.out.box_at (i := 0) (j := 1) rfl rfl
    obtain ⟨r0_2, _, _⟩ := V1.out.box_at (i := 0) (j := 2) rfl rfl
    obtain ⟨r0_3, _, _⟩ := V1.out.box_at (i := 0) (j := 3) rfl rfl
    obtain ⟨r1_0, _, r1_9⟩ := V1.out.box_at (i := 1) (j := 0) rfl rfl
    obtain ⟨r1_1, _, _⟩ := V1.out.box_at (i := 1) (j := 1) rfl rfl
    obtain ⟨r1_2, _, _⟩ := V1.out.box_at (i := 1) (j := 2) rfl rfl
    obtain ⟨r1_3, _, _⟩ := V1.out.box_at (i := 1) (j := 3) rfl rfl
    go_wp2_with fail
    refine (rvalid_any y B _ (HB.out.below V1.out.below)).mono ?_
    rintro e w2 ⟨rfl, b2⟩
    have V2 := Lib.hid (V1.out.go b2)
    rw [HV2.out]
    clear r0_9 r0_0 r0_1 r0_2 r0_3 r1_9 r1_0 r1_1 r1_2 r1_3
    obtain ⟨r0_0, _, r0_9⟩ := V2.out.box_at (i := 0) (j := 0) rfl rfl
    obtain ⟨r0_1, _, _⟩ := V2.out.box_at (i := 0) (j := 1) rfl rfl
    obtain ⟨r0_2, _, _⟩ := V2.out.box_at (i := 0) (j := 2) rfl rfl
    obtain ⟨r0_3, _, _⟩ := V2.out.box_at (i := 0) (j := 3) rfl rfl
    obtain ⟨r1_0, _, r1_9⟩ := V2.out.box_at (i := 1) (j := 0) rfl rfl
    obtain ⟨r1_1, _, _⟩ := V2.out.box_at (i := 1) (j := 1) rfl rfl
    obtain ⟨r1_2, _, _⟩ := V2.out.box_at (i := 1) (j := 2) rfl rfl
    obtain ⟨r1_3, _, _⟩ := V2.out.box_at (i := 1) (j := 3) rfl rfl
    go_wp2_with fail
    go_ret
    exact ⟨ret_int HE.out.symm, V2.out.below⟩
  · have HE := Lib.hid (show Au.pE A B = 1 from if_neg (fun e => h3 e.2.2))
    have g1 : (A.lt == B.lt) = false := beq_no h3
    have g2 : (A.lt != B.lt) = true := bne_yes h3
    clear h1 h2 h3
    go_enter Try.func45, Try.ntmps45
    go_upto_region 1 with fail
    rw [← HZ.out]
    clear HZ
    obtain ⟨r0_0, _, r0_9⟩ := V.out.box_at (i := 0) (j := 0) rfl rfl
    obtain ⟨r0_1, _, _⟩ := V.out.box_at (i := 0) (j := 1) rfl rfl
    obtain ⟨r0_2, _, _⟩ := V.out.box_at (i := 0) (j := 2) rfl rfl
    obtain ⟨r0_3, _, _⟩ := V.out.box_at (i := 0) (j := 3) rfl rfl
    obtain ⟨r1_0, _, r1_9⟩ := V.out.box_at (i := 1) (j := 0) rfl rfl
    obtain ⟨r1_1, _, _⟩ := V.out.box_at (i := 1) (j := 1) rfl rfl
    obtain ⟨r1_2, _, _⟩ := V.out.box_at (i := 1) (j := 2) rfl rfl
    obtain ⟨r1_3, _, _⟩ := V.out.box_at (i := 1) (j := 3) rfl rfl
    go_wp2_with fail
    refine (rvalid_any x A _ (HA.out.below V.out.below)).mono ?_
    rintro e w1 ⟨rfl, b1⟩
    have V1 := Lib.hid (V.out.go b1)
    clear b1 V r0_9 r0_0 r0_1 r0_2 r0_3 r1_9 r1_0 r1_1 r1_2 r1_3
    rw [HV.out]
    obtain ⟨r0_0, _, r0_9⟩ := V1.out.box_at (i := 0) (j := 0) rfl rfl
    obtain ⟨r0_1, _, _⟩ := V1.out.box_at (i := 0) (j := 1) rfl rfl
    obtain ⟨r0_2, _, _⟩ := V1.out.box_at (i := 0) (j := 2) rfl rfl
    obtain ⟨r0_3, _, _⟩ := V1.out.box_at (i := 0) (j := 3) rfl rfl
    obtain ⟨r1_0, _, r1_9⟩ := V1.out.box_at (i := 1) (j := 0) rfl rfl
    obtain ⟨r1_1, _, _⟩ := V1.out.box_at (i := 1) (j := 1) rfl rfl
    obtain ⟨r1_2, _, _⟩ := V1.out.box_at (i := 1) (j := 2) rfl rfl
    obtain ⟨r1_3, _, _⟩ := V1.out.box_at (i := 1) (j := 3) rfl rfl
    go_wp2_with fail
    refine (rvalid_any y B _ (HB.out.below V1.out.below)).mono ?_
    rintro e w2 ⟨rfl, b2⟩
    have V2 := Lib.hid (V1.out.go b2)
    rw [HV2.out]
    clear r0_9 r0_0 r0_1 r0_2 r0_3 r1_9 r1_0 r1_1 r1_2 r1_3
    obtain ⟨r0_0, _, r0_9⟩ := V2.out.box_at (i := 0) (j := 0) rfl rfl
    obtain ⟨r0_1, _, _⟩ := V2.out.box_at (i := 0) (j := 1) rfl rfl
    obtain ⟨r0_2, _, _⟩ := V2.out.box_at (i := 0) (j := 2) rfl rfl
    obtain ⟨r0_3, _, _⟩ := V2.out.box_at (i := 0) (j := 3) rfl rfl
    obtain ⟨r1_0, _, r1_9⟩ := V2.out.box_at (i := 1) (j := 0) rfl rfl
    obtain ⟨r1_1, _, _⟩ := V2.out.box_at (i := 1) (j := 1) rfl rfl
    obtain ⟨r1_2, _, _⟩ := V2.out.box_at (i := 1) (j := 2) rfl rfl
    obtain ⟨r1_3, _, _⟩ := V2.out.box_at (i := 1) (j := 3) rfl rfl
    go_wp2_with fail
    go_ret
    exact ⟨ret_int HE.out.symm, V2.out.below⟩
set_option maxHeartbeats 2000000 in
theorem raccepting_any (x : DV) (M : Au) (q : Int) (w : World) (h : DfaIn w x M) (h2 : q < M.ac.length) (hm : M.ac.length ≤ 1000000) :
    Calls Try.prog 51 #[dval x M, .int .i64 q] w fun e w' => e = .returned (.bool (M.acc q)) ∧ Below w.heap.size w w' := by
  by_cases h0 : 0 ≤ q
  · obtain ⟨n, rfl⟩ : ∃ n : Nat, q = n := ⟨q.toNat, by omega⟩
    have hn : n < M.ac.length := by omega
    have HE := Lib.hid (show M.acc n = M.ac.getD n false by unfold Au.acc; simp)
    obtain ⟨b, off, hB, hlt, hc⟩ := h.acc hn
    obtain ⟨v, hv⟩ : ∃ v, v = M.ac.getD n false := ⟨_, rfl⟩
    rw [← hv] at hc
    have HV := Lib.hid hv
    have hnm : n < x.m := by have := h.m; omega
    obtain ⟨A, xn, xc, B, m, d⟩ := x
    dsimp only at *
    subst hB
    have hc2 := ((bnew w (.cells #[.int .i64 M.lt, .int .i64 M.st, .slice A xn xc, .slice (some ⟨b, off, none⟩) m d] 25)).cell (p := ⟨b, off + n, none⟩) hlt).trans hc
    clear h hc hv hn h2 hm
    go_enter Try.func51, Try.ntmps51
    go_wp2
    go_ret
    exact ⟨ret_bool (HV.out.trans HE.out.symm), bnew _ _⟩
  · have HE := Lib.hid (show M.acc q = false from M.acc_neg (by omega))
    have h3 : q < 0 := by omega
    clear h
    go_enter Try.func51, Try.ntmps51
    go_wp2
    go_ret
    exact ⟨ret_bool HE.out.symm, bnew _ _⟩
set_option maxHeartbeats 2000000 in
theorem rless_any (p1 p2 q1 q2 : Int) (w : World) :
    Calls Try.prog 54 #[.agg #[.int .i64 p1, .int .i64 p2], .agg #[.int .i64 q1, .int .i64 q2]] w fun e w' => e = .returned (.bool (ltP (p1, p2) (q1, q2))) ∧ Below w.heap.size w w' := by
  have HB := Lib.hid (btwo (bnew w (.cells #[.int .i64 p1, .int .i64 p2] 48)) (bnew _ (.cells #[.int .i64 q1, .int .i64 q2] 48)))
  by_cases h1 : p1 < q1
  · have HE := Lib.hid (show ltP (p1, p2) (q1, q2) = true from decide_eq_true (.inl h1))
    go_enter Try.func54, Try.ntmps54
    go_wp2
    go_ret
    exact ⟨ret_bool HE.out.symm, HB.out⟩
  · by_cases h2 : p1 = q1
    · by_cases h3 : p2 < q2
      · have HE := Lib.hid (show ltP (p1, p2) (q1, q2) = true from decide_eq_true (.inr ⟨h2, h3⟩))
        have e1 : (p1 == q1) = true := beq_yes h2
        subst h2
        go_enter Try.func54, Try.ntmps54
        go_wp2
        go_ret
        exact ⟨ret_bool HE.out.symm, HB.out⟩
      · have HE := Lib.hid (show ltP (p1, p2) (q1, q2) = false from decide_eq_false (fun h => by rcases h with h | h; exact h1 h; exact h3 h.2))
        subst h2
        go_enter Try.func54, Try.ntmps54
        go_wp2
        go_ret
        exact ⟨ret_bool HE.out.symm, HB.out⟩
    · have HE := Lib.hid (show ltP (p1, p2) (q1, q2) = false from decide_eq_false (fun h => by rcases h with h | h; exact h1 h; exact h2 h.1))
      have e1 : (p1 == q1) = false := beq_no h2
      go_enter Try.func54, Try.ntmps54
      go_wp2
      go_ret
      exact ⟨ret_bool HE.out.symm, HB.out⟩
theorem inL_no {l : List (Int × Int)} {p : Int × Int} (h : ∀ (i : Nat) q, l[i]? = some q → ¬ q = p) : inL l p = (decide (p.1 < 0) && decide (p.2 < 0)) := by
  unfold inL
  have : l.contains p = false := by
    cases e : l.contains p
    · rfl
    · obtain ⟨i, hi⟩ := List.mem_iff_getElem?.1 (show p ∈ l by simpa using e)
      exact absurd rfl (h i p hi)
  rw [this]; rfl
set_option maxHeartbeats 4000000 in
theorem rin_any (Al : Option Addr) (n c : Nat) (l : List (Int × Int)) (p1 p2 : Int) (w : World) (hl : l.length = n) (hn : n ≤ 17592186044416) (hc : CellsIn w Al (pcells l)) :
    Calls Try.prog 60 #[.slice Al n c, .agg #[.int .i64 p1, .int .i64 p2]] w fun e w' => e = .returned (.bool (inL l (p1, p2))) ∧ Below w.heap.size w w' := by
  have HL := Lib.hid hl
  have HC := Lib.hid hc
  clear hl hc
  obtain ⟨wz, hwz⟩ : ∃ z, z = (w.alloc (.cells #[.int .i64 p1, .int .i64 p2] 48)) := ⟨_, rfl⟩
  have V := Lib.hid (show Hp w [box 48 w.heap.size [.int .i64 p1, .int .i64 p2]] wz by
    have := ((Hp.start w).box_new 48 [.int .i64 p1, .int .i64 p2])
    rw [hwz]; simpa using this)
  have HZ := Lib.hid hwz
  clear hwz
  go_enter Try.func60, Try.ntmps60
  go_upto_region 1 with fail
  rw [← HZ.out]
  clear HZ
  go_wp2_with fail
  go_loopw [5] (fun cv wr => ∃ j : Nat, cv = .int .i64 (j : Int) ∧ j ≤ n ∧ (∀ (i : Nat) q, i < j → l[i]? = some q → ¬ q = (p1, p2)) ∧ Hp w [box 48 w.heap.size [.int .i64 p1, .int .i64 p2]] wr) (fun cv _ => n - (intOf cv).toNat)
  case atStart => exact ⟨0, rfl, Nat.zero_le _, fun i q h => absurd h (Nat.not_lt_zero _), V.out⟩
  case round =>
    clear V
    obtain ⟨j, rfl, hjn, hno, hV⟩ := hrel
    obtain ⟨wi, rfl⟩ : ∃ wi : World, wi = wr := ⟨_, rfl⟩
    have V := Lib.hid hV
    have HN := Lib.hid hno
    clear hV hno
    by_cases hlt : j < n
    · obtain ⟨⟨a1, a2⟩, ha⟩ : ∃ q, l[j]? = some q := ⟨_, List.getElem?_eq_getElem (by have := HL.out; omega)⟩
      obtain ⟨b, off, rfl, hb, hc1, hc2⟩ := (HC.out.below V.out.below).pair ha
      have HA := Lib.hid ha
      clear ha
      by_cases he : a1 = p1 ∧ a2 = p2
      · have HE4 := Lib.hid (show ∀ (X Y : Result Next), (if a1 = p1 then (if a2 = p2 then X else Y) else Y) = X from fun X Y => (if_pos he.1).trans (if_pos he.2))
        have HE := Lib.hid (show inL l (p1, p2) = true by unfold inL; rw [show l.contains (p1, p2) = true by simpa using List.mem_of_getElem? (show l[j]? = some (p1, p2) by rw [HA.out, he.1, he.2])]; rfl)
        clear he
        go_upto_region 4 with fail
        have hKp : Keep [(⟨b, off + j * 2, none⟩, .int .i64 a1), (⟨b, off + j * 2 + 1, none⟩, .int .i64 a2), (⟨w.heap.size, 0, none⟩, .int .i64 p1), (⟨w.heap.size, 1, none⟩, .int .i64 p2)] wi := List.forall_mem_cons.2 ⟨⟨hc1, hb⟩, List.forall_mem_cons.2 ⟨⟨hc2, hb⟩, List.forall_mem_cons.2 ⟨⟨(V.out.box_at (i := 0) (j := 0) rfl rfl).1, (V.out.box_at (i := 0) (j := 0) rfl rfl).2.2⟩, List.forall_mem_cons.2 ⟨⟨(V.out.box_at (i := 0) (j := 1) rfl rfl).1, (V.out.box_at (i := 0) (j := 1) rfl rfl).2.2⟩, fun _ h => by simp at h⟩⟩⟩⟩
        refine wp_region_held_drew (S := Keep _) (by kernel_rfl) hKp.drew (fun hHeld => ?_)
        have Vd := Lib.hid (V.out.go (bdrew _))
        refine tk 0 ?_ rfl ?_ ?_; rotate_left; focus (intro w hSw; clear hSw; go_simp; try (with_reducible rfl))
        try simp only [Act.put, sA, sZ, sS]
        refine tk 1 ?_ rfl ?_ ?_; rotate_left; focus (intro w hSw; clear hSw; go_simp; try (with_reducible rfl))
        try simp only [Act.put, sA, sZ, sS]
        refine tk 2 ?_ rfl ?_ ?_; rotate_left; focus (intro w hSw; clear hSw; go_simp; try (with_reducible rfl))
        try simp only [Act.put, sA, sZ, sS]
        refine tk 3 ?_ rfl ?_ ?_; rotate_left
        · intro wl hSw
          have hSw : Keep _ wl := hSw
          have k0 : wl.cell? ⟨b, off + j * 2, none⟩ = some (.int .i64 a1) := (hSw _ (.head _)).1
          have k1 : wl.cell? ⟨b, off + j * 2 + 1, none⟩ = some (.int .i64 a2) := (hSw _ (.tail _ (.head _))).1
          clear hSw
          go_simp
          try (with_reducible rfl)
        try simp only [Act.put, sA, sZ, sS]
        refine tk 4 ?_ rfl ?_ ?_; rotate_left
        · intro wl hSw
          have hSw : Keep _ wl := hSw
          have k0 : wl.cell? ⟨w.heap.size, 0, none⟩ = some (.int .i64 p1) := (hSw _ (.tail _ (.tail _ (.head _)))).1
          have k1 : wl.cell? ⟨w.heap.size, 1, none⟩ = some (.int .i64 p2) := (hSw _ (.tail _ (.tail _ (.tail _ (.head _))))).1
          clear hSw
          go_simp
          try (with_reducible rfl)
        try simp only [Act.put, sA, sZ, sS]
        refine tk 5 ?_ rfl ?_ ?_; rotate_left
        · intro w hSw; clear hSw; go_simp; exact HE4.out _ _
        try simp only [Act.put, sA, sZ, sS]
        refine wpAnyH_done (by kernel_rfl) ?_ _
        go_wp2_with fail
        go_ret
        exact ⟨ret_bool HE.out.symm, Vd.out.below⟩
      · have HE3 := Lib.hid (show ∀ (X Y : Result Next), (if a1 = p1 then (if a2 = p2 then X else Y) else Y) = Y from fun X Y => by
          by_cases e : a1 = p1
          · rw [if_pos e]; exact if_neg (fun e2 => he ⟨e, e2⟩)
          · exact if_neg e)
        have HN2 := Lib.hid (show ∀ (i : Nat) q, i < j + 1 → l[i]? = some q → ¬ q = (p1, p2) from fun i q hi hq e => by
          by_cases e2 : i = j
          · subst e2; rw [HA.out] at hq; injection hq with hq; rw [← hq] at e; injection e with e3 e4; exact he ⟨e3, e4⟩
          · exact HN.out i q (by omega) hq e)
        clear he
        go_upto_region 4 with fail
        have hKp : Keep [(⟨b, off + j * 2, none⟩, .int .i64 a1), (⟨b, off + j * 2 + 1, none⟩, .int .i64 a2), (⟨w.heap.size, 0, none⟩, .int .i64 p1), (⟨w.heap.size, 1, none⟩, .int .i64 p2)] wi := List.forall_mem_cons.2 ⟨⟨hc1, hb⟩, List.forall_mem_cons.2 ⟨⟨hc2, hb⟩, List.forall_mem_cons.2 ⟨⟨(V.out.box_at (i := 0) (j := 0) rfl rfl).1, (V.out.box_at (i := 0) (j := 0) rfl rfl).2.2⟩, List.forall_mem_cons.2 ⟨⟨(V.out.box_at (i := 0) (j := 1) rfl rfl).1, (V.out.box_at (i := 0) (j := 1) rfl rfl).2.2⟩, fun _ h => by simp at h⟩⟩⟩⟩
        refine wp_region_held_drew (S := Keep _) (by kernel_rfl) hKp.drew (fun hHeld => ?_)
        have Vd := Lib.hid (V.out.go (bdrew _))
        refine tk 0 ?_ rfl ?_ ?_; rotate_left; focus (intro w hSw; clear hSw; go_simp; try (with_reducible rfl))
        try simp only [Act.put, sA, sZ, sS]
        refine tk 1 ?_ rfl ?_ ?_; rotate_left; focus (intro w hSw; clear hSw; go_simp; try (with_reducible rfl))
        try simp only [Act.put, sA, sZ, sS]
        refine tk 2 ?_ rfl ?_ ?_; rotate_left; focus (intro w hSw; clear hSw; go_simp; try (with_reducible rfl))
        try simp only [Act.put, sA, sZ, sS]
        refine tk 3 ?_ rfl ?_ ?_; rotate_left
        · intro wl hSw
          have hSw : Keep _ wl := hSw
          have k0 : wl.cell? ⟨b, off + j * 2, none⟩ = some (.int .i64 a1) := (hSw _ (.head _)).1
          have k1 : wl.cell? ⟨b, off + j * 2 + 1, none⟩ = some (.int .i64 a2) := (hSw _ (.tail _ (.head _))).1
          clear hSw
          go_simp
          try (with_reducible rfl)
        try simp only [Act.put, sA, sZ, sS]
        refine tk 4 ?_ rfl ?_ ?_; rotate_left
        · intro wl hSw
          have hSw : Keep _ wl := hSw
          have k0 : wl.cell? ⟨w.heap.size, 0, none⟩ = some (.int .i64 p1) := (hSw _ (.tail _ (.tail _ (.head _)))).1
          have k1 : wl.cell? ⟨w.heap.size, 1, none⟩ = some (.int .i64 p2) := (hSw _ (.tail _ (.tail _ (.tail _ (.head _))))).1
          clear hSw
          go_simp
          try (with_reducible rfl)
        try simp only [Act.put, sA, sZ, sS]
        refine tk 5 ?_ rfl ?_ ?_; rotate_left
        · intro w hSw; clear hSw; go_simp; exact HE3.out _ _
        try simp only [Act.put, sA, sZ, sS]
        refine wpAnyH_done (by kernel_rfl) ?_ _
        go_wp2_with fail
        go_roundw
        case rel => exact ⟨j + 1, by go_num, by omega, HN2.out, Vd.out⟩
        case measure => simp [intOf]; omega
    · obtain rfl : j = n := by omega
      have HE := Lib.hid (inL_no (l := l) (p := (p1, p2)) (fun i q hq => HN.out i q (by have := (List.getElem?_eq_some_iff.1 hq).1; have := HL.out; omega) hq))
      obtain ⟨r0, _, r9⟩ := V.out.box_at (i := 0) (j := 0) rfl rfl
      obtain ⟨r1, _, _⟩ := V.out.box_at (i := 0) (j := 1) rfl rfl
      by_cases h1 : p1 < 0
      · by_cases h2 : p2 < 0
        · have HF := Lib.hid (show inL l (p1, p2) = true by rw [HE.out]; show (decide (p1 < 0) && decide (p2 < 0)) = true; rw [decide_eq_true h1, decide_eq_true h2]; rfl)
          go_wp2_with fail
          go_ret
          exact ⟨ret_bool HF.out.symm, V.out.below⟩
        · have HF := Lib.hid (show inL l (p1, p2) = false by rw [HE.out]; show (decide (p1 < 0) && decide (p2 < 0)) = false; rw [decide_eq_false h2]; simp)
          have h3 : 0 ≤ p2 := by omega
          go_wp2_with fail
          go_ret
          exact ⟨ret_bool HF.out.symm, V.out.below⟩
      · have HF := Lib.hid (show inL l (p1, p2) = false by rw [HE.out]; show (decide (p1 < 0) && decide (p2 < 0)) = false; rw [decide_eq_false h1]; rfl)
        have h3 : 0 ≤ p1 := by omega
        go_wp2_with fail
        go_ret
        exact ⟨ret_bool HF.out.symm, V.out.below⟩
end Go.Proofs.Ytjobhpekclomfaa
