/- Contract of the program: does a list prove that two languages are equal? -/
import Derived.Test.YtdkdfmflghbhiaaRe
import Derived.Test.YtdkdfmflghbhiaaQe
namespace Go.Proofs.Ytdkdfmflghbhiaa
open Go.RowKit
set_option linter.unusedVariables false
set_option linter.unusedSimpArgs false
set_option maxRecDepth 100000

/-- What CheckRelation answers. -/
def chkB (A B : Au) (l : List (Int × Int)) : Bool := decide (Au.pE A B = 0) && (isRelB A B l && relC A B l)
theorem chkB_pe {A B : Au} {l : List (Int × Int)} (h : ¬ Au.pE A B = 0) : chkB A B l = false := by unfold chkB; rw [decide_eq_false h]; rfl
theorem chkB_rel {A B : Au} {l : List (Int × Int)} (h : isRelB A B l = false) : chkB A B l = false := by unfold chkB; rw [h]; simp
theorem chkB_rc {A B : Au} {l : List (Int × Int)} (h : relC A B l = false) : chkB A B l = false := by unfold chkB; rw [h]; simp
theorem chkB_all {A B : Au} {l : List (Int × Int)} (h : Au.pE A B = 0) (h1 : isRelB A B l = true) (h2 : relC A B l = true) : chkB A B l = true := by unfold chkB; rw [decide_eq_true h, h1, h2]; rfl
theorem relC_start {A B : Au} {l : List (Int × Int)} (h : inL l (A.st, B.st) = false) : relC A B l = false := by unfold relC; rw [h]; rfl
theorem relC_pair {A B : Au} {l : List (Int × Int)} {j : Nat} {p : Int × Int} (h : l[j]? = some p) (hp : pairC A B l p = false) : relC A B l = false := by
  unfold relC
  rw [Bool.and_eq_false_iff]
  exact .inr (List.all_eq_false.2 ⟨p, List.mem_of_getElem? h, by rw [hp]; exact Bool.false_ne_true⟩)
theorem relC_all {A B : Au} {l : List (Int × Int)} (h : inL l (A.st, B.st) = true) (h2 : ∀ (i : Nat) p, l[i]? = some p → pairC A B l p = true) : relC A B l = true := by
  unfold relC
  rw [Bool.and_eq_true, List.all_eq_true]
  refine ⟨h, fun p hp => ?_⟩
  obtain ⟨i, hi⟩ := List.mem_iff_getElem?.1 hp
  exact h2 i p hi
theorem pairC_acc {A B : Au} {l : List (Int × Int)} {p : Int × Int} (h : ¬ A.acc p.1 = B.acc p.2) : pairC A B l p = false := by
  unfold pairC
  rw [Bool.and_eq_false_iff]
  exact .inl (by rw [beq_eq_false_iff_ne]; exact h)
theorem pairC_go {A B : Au} {l : List (Int × Int)} {p : Int × Int} {k c : Nat} (hk : A.lt = k) (hc : c < k) (h : inL l (A.go p.1 c, B.go p.2 c) = false) : pairC A B l p = false := by
  unfold pairC
  rw [Bool.and_eq_false_iff]
  exact .inr (List.all_eq_false.2 ⟨c, List.mem_range.2 (by omega), by rw [h]; exact Bool.false_ne_true⟩)
theorem pairC_all {A B : Au} {l : List (Int × Int)} {p : Int × Int} {k : Nat} (hk : A.lt = k) (h : A.acc p.1 = B.acc p.2) (h2 : ∀ c, c < k → inL l (A.go p.1 c, B.go p.2 c) = true) : pairC A B l p = true := by
  unfold pairC
  rw [Bool.and_eq_true, List.all_eq_true]
  exact ⟨by rw [beq_iff_eq]; exact h, fun c hc => h2 c (by have := List.mem_range.1 hc; omega)⟩
theorem asc_lt {l : List (Int × Int)} (h : ∀ (i : Nat) p q, l[i]? = some p → l[i + 1]? = some q → ltP p q = true) : ∀ (d i : Nat) p q, l[i]? = some p → l[i + (d + 1)]? = some q → ltP p q = true
  | 0, i, p, q, hp, hq => h i p q hp hq
  | d + 1, i, p, q, hp, hq => by
    have hl := (List.getElem?_eq_some_iff.1 hq).1
    obtain ⟨m, hm⟩ : ∃ m, l[i + (d + 1)]? = some m := ⟨_, List.getElem?_eq_getElem (by omega)⟩
    have h1 := asc_lt h d i p m hp hm
    have h2 := h (i + (d + 1)) m q hm hq
    unfold ltP at *
    simp only [decide_eq_true_eq] at *
    omega
theorem asc_nd {l : List (Int × Int)} (h : ∀ (i : Nat) p q, l[i]? = some p → l[i + 1]? = some q → ltP p q = true) {i j : Nat} {p q : Int × Int} (hij : i < j) (hp : l[i]? = some p) (hq : l[j]? = some q) : ¬ p = q := by
  intro e
  subst e
  have := asc_lt h (j - i - 1) i p p hp (by rw [show i + (j - i - 1 + 1) = j by omega]; exact hq)
  unfold ltP at this
  simp at this
theorem knw_inL {A B : Au} {l : List (Int × Int)} {tab : List Int} {p : Int × Int} (h : Tab2 A B l tab) (hp : in2 A B p) : knw B tab p = inL l p := by
  unfold knw inL
  have hno : (decide (p.1 < 0) && decide (p.2 < 0)) = decide (p = (-1, -1)) := by
    rw [Bool.eq_iff_iff]
    simp only [Bool.and_eq_true, decide_eq_true_eq]
    constructor
    · intro h; have h1 := hp.1; have h2 := hp.2; exact Prod.ext (by show p.1 = -1; omega) (by show p.2 = -1; omega)
    · intro h; rw [h]; exact ⟨by decide, by decide⟩
  rw [hno]
  rcases h.look hp with ⟨j, hj, ht⟩ | ⟨hj, ht⟩
  · have h1 : l.contains p = true := by simpa using List.mem_of_getElem? hj
    rw [h1, decide_eq_true (show tab.getD (pl2 B p) 0 ≠ 0 by omega)]
    simp
  · have h1 : l.contains p = false := by
      cases e : l.contains p
      · rfl
      · obtain ⟨j, h2⟩ := List.mem_iff_getElem?.1 (show p ∈ l by simpa using e)
        exact absurd h2 (hj j)
    rw [h1, decide_eq_false (show ¬ tab.getD (pl2 B p) 0 ≠ 0 by omega)]
    simp
set_option maxHeartbeats 32000000 in
theorem check_any (x y : DV) (A B : Au) (Al : Option Addr) (n c : Nat) (l : List (Int × Int)) (w : World) (hA : DfaIn w x A) (hB : DfaIn w y B) (hl : l.length = n) (hn : n ≤ 1000000) (hc : CellsIn w Al (pcells l)) :
    Calls Try.prog 11 #[dval x A, dval y B, .slice Al n c] w fun e w' => e = .returned (.bool (chkB A B l)) ∧ Below w.heap.size w w' := by
  have HA := Lib.hid hA
  have HB := Lib.hid hB
  have HL := Lib.hid hl
  have HC := Lib.hid hc
  clear hA hB hl hc
  by_cases hpe : Au.pE A B = 0
  case neg =>
    have HE := Lib.hid (chkB_pe (l := l) hpe)
    have HP := Lib.hid (show Au.pE A B = 1 by rcases Au.pE_cases A B with e | e; exact absurd e hpe; exact e)
    clear hpe
    obtain ⟨wz, hwz⟩ : ∃ z, z = ((w.alloc (.cells #[.int .i64 A.lt, .int .i64 A.st, .slice x.A x.n x.c, .slice x.B x.m x.d] 25)).alloc (.cells #[.int .i64 B.lt, .int .i64 B.st, .slice y.A y.n y.c, .slice y.B y.m y.d] 25)) := ⟨_, rfl⟩
    have V := Lib.hid (show Hp w [box 25 (w.heap.size + 1) [.int .i64 B.lt, .int .i64 B.st, .slice y.A y.n y.c, .slice y.B y.m y.d], box 25 w.heap.size [.int .i64 A.lt, .int .i64 A.st, .slice x.A x.n x.c, .slice x.B x.m x.d]] wz by
      have := (((Hp.start w).box_new 25 [.int .i64 A.lt, .int .i64 A.st, .slice x.A x.n x.c, .slice x.B x.m x.d]).box_new 25 [.int .i64 B.lt, .int .i64 B.st, .slice y.A y.n y.c, .slice y.B y.m y.d])
      rw [hwz]; simpa using this)
    have HZ := Lib.hid hwz
    clear hwz
    go_enter Try.func11, Try.ntmps11
    go_upto_region 1 with fail
    rw [← HZ.out]
    clear HZ
    obtain ⟨r0_0, _, r0_9⟩ := V.out.box_at (i := 0) (j := 0) rfl rfl
    obtain ⟨r0_1, _, _⟩ := V.out.box_at (i := 0) (j := 1) rfl rfl
    obtain ⟨r0_2, _, _⟩ := V.out.box_at (i := 0) (j := 2) rfl rfl
    obtain ⟨r0_3, _, _⟩ := V.out.box_at (i := 0) (j := 3) rfl rfl
    obtain ⟨r1_0, _, r1_9⟩ := V.out.box_at (i := 1) (j := 0) rfl rfl
    obtain ⟨r1_1, _, _⟩ := V.out.box_at (i := 1) (j := 1) rfl rfl
    obtain ⟨r1_2, _, _⟩ := V.out.box_at (i := 1) (j := 2) rfl rfl
    obtain ⟨r1_3, _, _⟩ := V.out.box_at (i := 1) (j := 3) rfl rfl
    go_wp2_with fail
    refine (pairError_any x y A B _ (HA.out.below V.out.below) (HB.out.below V.out.below)).mono ?_
    rintro e w1 ⟨rfl, b1⟩
    have V1 := Lib.hid (V.out.go b1)
    rw [HP.out]
    clear b1 V r0_9 r0_0 r0_1 r0_2 r0_3 r1_9 r1_0 r1_1 r1_2 r1_3
    go_wp2_with fail
    go_ret
    exact ⟨ret_bool HE.out.symm, V1.out.below⟩
  have HP := Lib.hid hpe
  clear hpe
  by_cases hrl : isRelB A B l = true
  case neg =>
    have HR := Lib.hid (show isRelB A B l = false by cases e : isRelB A B l; rfl; exact absurd e hrl)
    have HE := Lib.hid (chkB_rel HR.out)
    clear hrl
    obtain ⟨wz, hwz⟩ : ∃ z, z = ((w.alloc (.cells #[.int .i64 A.lt, .int .i64 A.st, .slice x.A x.n x.c, .slice x.B x.m x.d] 25)).alloc (.cells #[.int .i64 B.lt, .int .i64 B.st, .slice y.A y.n y.c, .slice y.B y.m y.d] 25)) := ⟨_, rfl⟩
    have V := Lib.hid (show Hp w [box 25 (w.heap.size + 1) [.int .i64 B.lt, .int .i64 B.st, .slice y.A y.n y.c, .slice y.B y.m y.d], box 25 w.heap.size [.int .i64 A.lt, .int .i64 A.st, .slice x.A x.n x.c, .slice x.B x.m x.d]] wz by
      have := (((Hp.start w).box_new 25 [.int .i64 A.lt, .int .i64 A.st, .slice x.A x.n x.c, .slice x.B x.m x.d]).box_new 25 [.int .i64 B.lt, .int .i64 B.st, .slice y.A y.n y.c, .slice y.B y.m y.d])
      rw [hwz]; simpa using this)
    have HZ := Lib.hid hwz
    clear hwz
    go_enter Try.func11, Try.ntmps11
    go_upto_region 1 with fail
    rw [← HZ.out]
    clear HZ
    obtain ⟨r0_0, _, r0_9⟩ := V.out.box_at (i := 0) (j := 0) rfl rfl
    obtain ⟨r0_1, _, _⟩ := V.out.box_at (i := 0) (j := 1) rfl rfl
    obtain ⟨r0_2, _, _⟩ := V.out.box_at (i := 0) (j := 2) rfl rfl
    obtain ⟨r0_3, _, _⟩ := V.out.box_at (i := 0) (j := 3) rfl rfl
    obtain ⟨r1_0, _, r1_9⟩ := V.out.box_at (i := 1) (j := 0) rfl rfl
    obtain ⟨r1_1, _, _⟩ := V.out.box_at (i := 1) (j := 1) rfl rfl
    obtain ⟨r1_2, _, _⟩ := V.out.box_at (i := 1) (j := 2) rfl rfl
    obtain ⟨r1_3, _, _⟩ := V.out.box_at (i := 1) (j := 3) rfl rfl
    go_wp2_with fail
    refine (pairError_any x y A B _ (HA.out.below V.out.below) (HB.out.below V.out.below)).mono ?_
    rintro e w1 ⟨rfl, b1⟩
    have V1 := Lib.hid (V.out.go b1)
    rw [HP.out]
    clear b1 V r0_9 r0_0 r0_1 r0_2 r0_3 r1_9 r1_0 r1_1 r1_2 r1_3
    obtain ⟨r0_0, _, r0_9⟩ := V1.out.box_at (i := 0) (j := 0) rfl rfl
    obtain ⟨r0_1, _, _⟩ := V1.out.box_at (i := 0) (j := 1) rfl rfl
    obtain ⟨r0_2, _, _⟩ := V1.out.box_at (i := 0) (j := 2) rfl rfl
    obtain ⟨r0_3, _, _⟩ := V1.out.box_at (i := 0) (j := 3) rfl rfl
    obtain ⟨r1_0, _, r1_9⟩ := V1.out.box_at (i := 1) (j := 0) rfl rfl
    obtain ⟨r1_1, _, _⟩ := V1.out.box_at (i := 1) (j := 1) rfl rfl
    obtain ⟨r1_2, _, _⟩ := V1.out.box_at (i := 1) (j := 2) rfl rfl
    obtain ⟨r1_3, _, _⟩ := V1.out.box_at (i := 1) (j := 3) rfl rfl
    go_wp2_with fail
    refine (isRel_any x y A B Al n c l _ (HA.out.below V1.out.below) (HB.out.below V1.out.below) HL.out (by omega) (HC.out.below V1.out.below)).mono ?_
    rintro e w2 ⟨rfl, b2⟩
    rw [HR.out]
    have V2 := Lib.hid (V1.out.go b2)
    clear b2 V1 r0_9 r0_0 r0_1 r0_2 r0_3 r1_9 r1_0 r1_1 r1_2 r1_3
    go_wp2_with fail
    go_ret
    exact ⟨ret_bool HE.out.symm, V2.out.below⟩
  have HR := Lib.hid hrl
  clear hrl
  obtain ⟨k, vA, vB⟩ := Au.pE_ok HP.out
  have GA := Lib.hid (vA.good HA.out)
  have GB := Lib.hid (vB.good HB.out)
  have HLT := Lib.hid vA.right.lt
  have hk8 := vA.k8
  have hA4 : x.n ≤ 400 := by have := vA.few; have h2 := HA.out.n; unfold Au.n at this; omega
  have hB4 : y.n ≤ 400 := by have := vB.few; have h2 := HB.out.n; unfold Au.n at this; omega
  have HAN := Lib.hid (show A.n = x.n from HA.out.n)
  have HBN := Lib.hid (show B.n = y.n from HB.out.n)
  have HIN := Lib.hid (isRelB_ok HR.out)
  have HI2 := Lib.hid (show ∀ (j : Nat) p, l[j]? = some p → in2 A B p from fun j p h => (okP_in ((isRelB_ok HR.out).1 j p h)).1)
  have HST := Lib.hid (in2_start vA.right vB.right)
  have HVA := Lib.hid vA
  have HVB := Lib.hid vB
  clear vA vB
  obtain ⟨wz, hwz⟩ : ∃ z, z = ((w.alloc (.cells #[.int .i64 A.lt, .int .i64 A.st, .slice x.A x.n x.c, .slice x.B x.m x.d] 25)).alloc (.cells #[.int .i64 B.lt, .int .i64 B.st, .slice y.A y.n y.c, .slice y.B y.m y.d] 25)) := ⟨_, rfl⟩
  have V := Lib.hid (show Hp w [box 25 (w.heap.size + 1) [.int .i64 B.lt, .int .i64 B.st, .slice y.A y.n y.c, .slice y.B y.m y.d], box 25 w.heap.size [.int .i64 A.lt, .int .i64 A.st, .slice x.A x.n x.c, .slice x.B x.m x.d]] wz by
    have := (((Hp.start w).box_new 25 [.int .i64 A.lt, .int .i64 A.st, .slice x.A x.n x.c, .slice x.B x.m x.d]).box_new 25 [.int .i64 B.lt, .int .i64 B.st, .slice y.A y.n y.c, .slice y.B y.m y.d])
    rw [hwz]; simpa using this)
  have HZ := Lib.hid hwz
  clear hwz
  go_enter Try.func11, Try.ntmps11
  go_upto_region 1 with fail
  rw [← HZ.out]
  clear HZ
  obtain ⟨r0_0, _, r0_9⟩ := V.out.box_at (i := 0) (j := 0) rfl rfl
  obtain ⟨r0_1, _, _⟩ := V.out.box_at (i := 0) (j := 1) rfl rfl
  obtain ⟨r0_2, _, _⟩ := V.out.box_at (i := 0) (j := 2) rfl rfl
  obtain ⟨r0_3, _, _⟩ := V.out.box_at (i := 0) (j := 3) rfl rfl
  obtain ⟨r1_0, _, r1_9⟩ := V.out.box_at (i := 1) (j := 0) rfl rfl
  obtain ⟨r1_1, _, _⟩ := V.out.box_at (i := 1) (j := 1) rfl rfl
  obtain ⟨r1_2, _, _⟩ := V.out.box_at (i := 1) (j := 2) rfl rfl
  obtain ⟨r1_3, _, _⟩ := V.out.box_at (i := 1) (j := 3) rfl rfl
  go_wp2_with fail
  refine (pairError_any x y A B _ (HA.out.below V.out.below) (HB.out.below V.out.below)).mono ?_
  rintro e w1 ⟨rfl, b1⟩
  have V1 := Lib.hid (V.out.go b1)
  rw [HP.out]
  clear b1 V r0_9 r0_0 r0_1 r0_2 r0_3 r1_9 r1_0 r1_1 r1_2 r1_3
  obtain ⟨r0_0, _, r0_9⟩ := V1.out.box_at (i := 0) (j := 0) rfl rfl
  obtain ⟨r0_1, _, _⟩ := V1.out.box_at (i := 0) (j := 1) rfl rfl
  obtain ⟨r0_2, _, _⟩ := V1.out.box_at (i := 0) (j := 2) rfl rfl
  obtain ⟨r0_3, _, _⟩ := V1.out.box_at (i := 0) (j := 3) rfl rfl
  obtain ⟨r1_0, _, r1_9⟩ := V1.out.box_at (i := 1) (j := 0) rfl rfl
  obtain ⟨r1_1, _, _⟩ := V1.out.box_at (i := 1) (j := 1) rfl rfl
  obtain ⟨r1_2, _, _⟩ := V1.out.box_at (i := 1) (j := 2) rfl rfl
  obtain ⟨r1_3, _, _⟩ := V1.out.box_at (i := 1) (j := 3) rfl rfl
  go_wp2_with fail
  refine (isRel_any x y A B Al n c l _ (HA.out.below V1.out.below) (HB.out.below V1.out.below) HL.out (by omega) (HC.out.below V1.out.below)).mono ?_
  rintro e w2 ⟨rfl, b2⟩
  rw [HR.out]
  have V2 := Lib.hid (V1.out.go b2)
  clear b2 V1 r0_9 r0_0 r0_1 r0_2 r0_3 r1_9 r1_0 r1_1 r1_2 r1_3
  obtain ⟨r0_0, _, r0_9⟩ := V2.out.box_at (i := 0) (j := 0) rfl rfl
  obtain ⟨r0_1, _, _⟩ := V2.out.box_at (i := 0) (j := 1) rfl rfl
  obtain ⟨r0_2, _, _⟩ := V2.out.box_at (i := 0) (j := 2) rfl rfl
  obtain ⟨r0_3, _, _⟩ := V2.out.box_at (i := 0) (j := 3) rfl rfl
  obtain ⟨r1_0, _, r1_9⟩ := V2.out.box_at (i := 1) (j := 0) rfl rfl
  obtain ⟨r1_1, _, _⟩ := V2.out.box_at (i := 1) (j := 1) rfl rfl
  obtain ⟨r1_2, _, _⟩ := V2.out.box_at (i := 1) (j := 2) rfl rfl
  obtain ⟨r1_3, _, _⟩ := V2.out.box_at (i := 1) (j := 3) rfl rfl
  obtain ⟨N, hN⟩ : ∃ N, N = (x.n + 1) * (y.n + 1) := ⟨_, rfl⟩
  have HN := Lib.hid hN
  go_wp2_with fail
  refine (newTable_any A.lt A.st x.A x.n x.c x.B x.m x.d B.lt B.st y.A y.n y.c y.B y.m y.d N w w2 _ V2.out (by omega) (by omega) hN).mono ?_
  rintro e w3 ⟨g, rfl, hv3⟩
  have V3 := Lib.hid hv3
  obtain ⟨w4, hw4⟩ : ∃ z, z = w3.alloc (.cells #[.int .i64 ((y.n : Int) + 1), .slice (some ⟨g, 0, none⟩) N N] 65) := ⟨_, rfl⟩
  obtain ⟨g7, hg7⟩ : ∃ z, z = w3.heap.size := ⟨_, rfl⟩
  have V4 := Lib.hid (show Hp w [box 65 g7 [.int .i64 ((y.n : Int) + 1), .slice (some ⟨g, 0, none⟩) N N], nums (some ⟨g, 0, none⟩) N N (List.replicate N 0), box 25 (w.heap.size + 1) [.int .i64 B.lt, .int .i64 B.st, .slice y.A y.n y.c, .slice y.B y.m y.d], box 25 w.heap.size [.int .i64 A.lt, .int .i64 A.st, .slice x.A x.n x.c, .slice x.B x.m x.d]] w4 by rw [hw4, hg7]; exact V3.out.box_new 65 [.int .i64 ((y.n : Int) + 1), .slice (some ⟨g, 0, none⟩) N N])
  have HW4 := Lib.hid hw4
  have HG7 := Lib.hid hg7
  clear hw4 hg7 hv3 V3 V2 hN r0_9 r0_0 r0_1 r0_2 r0_3 r1_9 r1_0 r1_1 r1_2 r1_3
  go_upto_region 4 with fail
  rw [← HW4.out, ← HG7.out]
  clear HW4
  have HT0 := Lib.hid (show ∃ tab, Tab2 A B (l.take 0) tab ∧ Sml tab ∧ Hp w [box 65 g7 [.int .i64 ((y.n : Int) + 1), .slice (some ⟨g, 0, none⟩) N N], nums (some ⟨g, 0, none⟩) N N tab, box 25 (w.heap.size + 1) [.int .i64 B.lt, .int .i64 B.st, .slice y.A y.n y.c, .slice y.B y.m y.d], box 25 w.heap.size [.int .i64 A.lt, .int .i64 A.st, .slice x.A x.n x.c, .slice x.B x.m x.d]] w4 from ⟨List.replicate N 0, by have := Tab2.start (A := A) (B := B); rwa [HAN.out, HBN.out, ← HN.out] at this, Sml.zeros _, V4.out⟩)
  clear V4
  go_wp2_with fail
  go_loopw [29] (fun cv wr => ∃ j : Nat, cv = .int .i64 (j : Int) ∧ j ≤ n ∧ ∃ tab, Tab2 A B (l.take j) tab ∧ Sml tab ∧ Hp w [box 65 g7 [.int .i64 ((y.n : Int) + 1), .slice (some ⟨g, 0, none⟩) N N], nums (some ⟨g, 0, none⟩) N N tab, box 25 (w.heap.size + 1) [.int .i64 B.lt, .int .i64 B.st, .slice y.A y.n y.c, .slice y.B y.m y.d], box 25 w.heap.size [.int .i64 A.lt, .int .i64 A.st, .slice x.A x.n x.c, .slice x.B x.m x.d]] wr) (fun cv _ => n - (intOf cv).toNat)
  case atStart => exact ⟨0, rfl, Nat.zero_le _, HT0.out⟩
  case round =>
    clear HT0
    obtain ⟨j, rfl, hjn, tab, ht, hs, hV⟩ := hrel
    obtain ⟨wi, rfl⟩ : ∃ wi : World, wi = wr := ⟨_, rfl⟩
    have V := Lib.hid hV
    have HT := Lib.hid ht
    have HS := Lib.hid hs
    clear hV ht hs
    by_cases hlt : j < n
    · obtain ⟨⟨p1, p2⟩, hp⟩ : ∃ p, l[j]? = some p := ⟨_, List.getElem?_eq_getElem (by have := HL.out; omega)⟩
      have HPJ := Lib.hid hp
      obtain ⟨b, off, rfl, hb, hc1, hc2⟩ := (HC.out.below V.out.below).pair hp
      have HI := Lib.hid (HI2.out j _ hp)
      obtain ⟨wx, hwx⟩ : ∃ z, z = wi.alloc (.cells #[.int .i64 p1, .int .i64 p2] 35) := ⟨_, rfl⟩
      have V5 := Lib.hid (show Hp w [box 35 wi.heap.size [.int .i64 p1, .int .i64 p2], box 65 g7 [.int .i64 ((y.n : Int) + 1), .slice (some ⟨g, 0, none⟩) N N], nums (some ⟨g, 0, none⟩) N N tab, box 25 (w.heap.size + 1) [.int .i64 B.lt, .int .i64 B.st, .slice y.A y.n y.c, .slice y.B y.m y.d], box 25 w.heap.size [.int .i64 A.lt, .int .i64 A.st, .slice x.A x.n x.c, .slice x.B x.m x.d]] wx by rw [hwx]; exact V.out.box_new 35 [.int .i64 p1, .int .i64 p2])
      have HWX := Lib.hid hwx
      have HTL := Lib.hid (show (l.take j).length = j by rw [List.length_take]; have := HL.out; omega)
      have HNP := Lib.hid (show ∀ i : Nat, (l.take j)[i]? ≠ some (p1, p2) from fun i hi => by
        have hil := (List.getElem?_eq_some_iff.1 hi).1
        rw [List.length_take] at hil
        rw [List.getElem?_take_of_lt (by omega)] at hi
        exact asc_nd HIN.out.2 (show i < j by omega) hi HPJ.out rfl)
      have HT2 := Lib.hid (show Tab2 A B (l.take (j + 1)) (tab.set (pl2 B (p1, p2)) ((j : Int) + 1)) by
        have := HT.out.put HI.out HNP.out
        rw [HTL.out] at this
        rw [List.take_add_one, HPJ.out]
        exact this)
      have HS2 := Lib.hid (HS.out.set (pl2 B (p1, p2)) (x := (j : Int) + 1) (by omega) (by omega))
      clear hwx hp V
      go_upto_region 7 with fail
      rw [← HWX.out]
      clear HWX hc1 hc2 hb
      obtain ⟨p_0, _, p_09⟩ := V5.out.box_at (i := 0) (j := 0) rfl rfl
      obtain ⟨p_1, _, p_19⟩ := V5.out.box_at (i := 0) (j := 1) rfl rfl
      obtain ⟨t_0, _, t_09⟩ := V5.out.box_at (i := 1) (j := 0) rfl rfl
      obtain ⟨t_1, _, t_19⟩ := V5.out.box_at (i := 1) (j := 1) rfl rfl
      go_wp2_with fail
      refine (put_any A B p1 p2 ((y.n : Int) + 1) (j : Int) g N N (l.take j) tab w wx _ 2 (by rw [HBN.out]) HI.out (by have := HAN.out; omega) (by have := HBN.out; omega) HT.out (by omega) (by omega) V5.out rfl).mono ?_
      rintro e w6 ⟨rfl, hv6⟩
      have V6 := Lib.hid hv6.tail
      clear hv6 V5 p_0 p_09 p_1 p_19 t_0 t_09 t_1 t_19
      go_wp2_with fail
      go_roundw
      case rel => exact ⟨j + 1, by go_num, by omega, _, HT2.out, HS2.out, V6.out⟩
      case measure => simp [intOf]; omega
    · obtain rfl : j = n := by omega
      have hfull : l.take j = l := List.take_of_length_le (by have := HL.out; omega)
      rw [hfull] at HT
      clear hfull
      have HTN := Lib.hid (show tab.length = N by have := HT.out.len; rw [HAN.out, HBN.out, ← HN.out] at this; exact this)
      obtain ⟨ks, hks⟩ : ∃ o, o = knw B tab (A.st, B.st) := ⟨_, rfl⟩
      have HKS := Lib.hid hks
      clear hks
      obtain ⟨t_0, _, t_09⟩ := V.out.box_at (i := 0) (j := 0) rfl rfl
      obtain ⟨t_1, _, t_19⟩ := V.out.box_at (i := 0) (j := 1) rfl rfl
      obtain ⟨b_0, _, b_09⟩ := V.out.box_at (i := 2) (j := 0) rfl rfl
      obtain ⟨b_1, _, b_19⟩ := V.out.box_at (i := 2) (j := 1) rfl rfl
      obtain ⟨b_2, _, b_29⟩ := V.out.box_at (i := 2) (j := 2) rfl rfl
      obtain ⟨b_3, _, b_39⟩ := V.out.box_at (i := 2) (j := 3) rfl rfl
      obtain ⟨a_0, _, a_09⟩ := V.out.box_at (i := 3) (j := 0) rfl rfl
      obtain ⟨a_1, _, a_19⟩ := V.out.box_at (i := 3) (j := 1) rfl rfl
      obtain ⟨a_2, _, a_29⟩ := V.out.box_at (i := 3) (j := 2) rfl rfl
      obtain ⟨a_3, _, a_39⟩ := V.out.box_at (i := 3) (j := 3) rfl rfl
      go_wp2_with fail
      refine (knows_any A B A.st B.st ((y.n : Int) + 1) (some ⟨g, 0, none⟩) N N l tab _ (by rw [HBN.out]) HST.out (by have := HAN.out; omega) (by have := HBN.out; omega) HT.out HTN.out (V.out.cells (i := 1) (A := some ⟨g, 0, none⟩) (c := N) rfl rfl) HS.out).mono ?_
      rintro e w7 ⟨rfl, b7⟩
      rw [← HKS.out]
      have V7 := Lib.hid (V.out.go b7)
      clear b7 V t_0 t_09 t_1 t_19 b_0 b_09 b_1 b_19 b_2 b_29 b_3 b_39 a_0 a_09 a_1 a_19 a_2 a_29 a_3 a_39
      cases hk : ks
      · have HE := Lib.hid (chkB_rc (relC_start (A := A) (B := B) (l := l) (by rw [← knw_inL HT.out HST.out, ← HKS.out]; exact hk)))
        subst hk
        go_wp2_with fail
        go_ret
        exact ⟨ret_bool HE.out.symm, V7.out.below⟩
      have HSK := Lib.hid (show inL l (A.st, B.st) = true by rw [← knw_inL HT.out HST.out, ← HKS.out]; exact hk)
      clear HKS
      subst hk
      go_wp2_with fail
      go_loopw [49] (fun cv wr => ∃ i : Nat, cv = .int .i64 (i : Int) ∧ i ≤ j ∧ (∀ (q : Nat) p, q < i → l[q]? = some p → pairC A B l p = true) ∧ Hp w [box 65 g7 [.int .i64 ((y.n : Int) + 1), .slice (some ⟨g, 0, none⟩) N N], nums (some ⟨g, 0, none⟩) N N tab, box 25 (w.heap.size + 1) [.int .i64 B.lt, .int .i64 B.st, .slice y.A y.n y.c, .slice y.B y.m y.d], box 25 w.heap.size [.int .i64 A.lt, .int .i64 A.st, .slice x.A x.n x.c, .slice x.B x.m x.d]] wr) (fun cv _ => j - (intOf cv).toNat)
      case atStart => exact ⟨0, rfl, Nat.zero_le _, fun q p h => absurd h (Nat.not_lt_zero _), V7.out⟩
      case round =>
        clear V7
        obtain ⟨i, rfl, hij, hpc, hV⟩ := hrel
        obtain ⟨wi, rfl⟩ : ∃ wi : World, wi = wr := ⟨_, rfl⟩
        have V := Lib.hid hV
        have HPC := Lib.hid hpc
        clear hV hpc
        by_cases hlt : i < j
        · obtain ⟨⟨p1, p2⟩, hp⟩ : ∃ p, l[i]? = some p := ⟨_, List.getElem?_eq_getElem (by have := HL.out; omega)⟩
          have HPJ := Lib.hid hp
          obtain ⟨b, off, rfl, hb, hc1, hc2⟩ := (HC.out.below V.out.below).pair hp
          have HI := Lib.hid (HI2.out i _ hp)
          have HI1 := Lib.hid (show (-1 ≤ p1 ∧ p1 < A.n) ∧ -1 ≤ p2 ∧ p2 < B.n from HI2.out i _ hp)
          obtain ⟨wx, hwx⟩ : ∃ z, z = wi.alloc (.cells #[.int .i64 p1, .int .i64 p2] 35) := ⟨_, rfl⟩
          have V5 := Lib.hid (show Hp w [box 35 wi.heap.size [.int .i64 p1, .int .i64 p2], box 65 g7 [.int .i64 ((y.n : Int) + 1), .slice (some ⟨g, 0, none⟩) N N], nums (some ⟨g, 0, none⟩) N N tab, box 25 (w.heap.size + 1) [.int .i64 B.lt, .int .i64 B.st, .slice y.A y.n y.c, .slice y.B y.m y.d], box 25 w.heap.size [.int .i64 A.lt, .int .i64 A.st, .slice x.A x.n x.c, .slice x.B x.m x.d]] wx by rw [hwx]; exact V.out.box_new 35 [.int .i64 p1, .int .i64 p2])
          have HWX := Lib.hid hwx
          obtain ⟨g9, hg9⟩ : ∃ z, z = wi.heap.size := ⟨_, rfl⟩
          rw [← hg9] at V5
          have HG9 := Lib.hid hg9
          clear hwx hp V hg9
          obtain ⟨qa, hqa⟩ : ∃ o, o = A.acc p1 := ⟨_, rfl⟩
          obtain ⟨qb, hqb⟩ : ∃ o, o = B.acc p2 := ⟨_, rfl⟩
          have HQA := Lib.hid hqa
          have HQB := Lib.hid hqb
          clear hqa hqb
          go_upto_region 14 with fail
          rw [← HWX.out, ← HG9.out]
          clear HWX hc1 hc2 hb
          go_cut [61] (fun r wy => r = .bool (qa != qb) ∧ Hp w [box 35 g9 [.int .i64 p1, .int .i64 p2], box 65 g7 [.int .i64 ((y.n : Int) + 1), .slice (some ⟨g, 0, none⟩) N N], nums (some ⟨g, 0, none⟩) N N tab, box 25 (w.heap.size + 1) [.int .i64 B.lt, .int .i64 B.st, .slice y.A y.n y.c, .slice y.B y.m y.d], box 25 w.heap.size [.int .i64 A.lt, .int .i64 A.st, .slice x.A x.n x.c, .slice x.B x.m x.d]] wy)
          case first =>
            have hKp : Keep [(⟨g9, 0, none⟩, .int .i64 p1), (⟨g9, 1, none⟩, .int .i64 p2), (⟨w.heap.size, 0, none⟩, .int .i64 A.lt), (⟨w.heap.size, 1, none⟩, .int .i64 A.st), (⟨w.heap.size, 2, none⟩, .slice x.A x.n x.c), (⟨w.heap.size, 3, none⟩, .slice x.B x.m x.d), (⟨w.heap.size + 1, 0, none⟩, .int .i64 B.lt), (⟨w.heap.size + 1, 1, none⟩, .int .i64 B.st), (⟨w.heap.size + 1, 2, none⟩, .slice y.A y.n y.c), (⟨w.heap.size + 1, 3, none⟩, .slice y.B y.m y.d)] wx := List.forall_mem_cons.2 ⟨⟨(V5.out.box_at (i := 0) (j := 0) rfl rfl).1, (V5.out.box_at (i := 0) (j := 0) rfl rfl).2.2⟩, List.forall_mem_cons.2 ⟨⟨(V5.out.box_at (i := 0) (j := 1) rfl rfl).1, (V5.out.box_at (i := 0) (j := 1) rfl rfl).2.2⟩, List.forall_mem_cons.2 ⟨⟨(V5.out.box_at (i := 4) (j := 0) rfl rfl).1, (V5.out.box_at (i := 4) (j := 0) rfl rfl).2.2⟩, List.forall_mem_cons.2 ⟨⟨(V5.out.box_at (i := 4) (j := 1) rfl rfl).1, (V5.out.box_at (i := 4) (j := 1) rfl rfl).2.2⟩, List.forall_mem_cons.2 ⟨⟨(V5.out.box_at (i := 4) (j := 2) rfl rfl).1, (V5.out.box_at (i := 4) (j := 2) rfl rfl).2.2⟩, List.forall_mem_cons.2 ⟨⟨(V5.out.box_at (i := 4) (j := 3) rfl rfl).1, (V5.out.box_at (i := 4) (j := 3) rfl rfl).2.2⟩, List.forall_mem_cons.2 ⟨⟨(V5.out.box_at (i := 3) (j := 0) rfl rfl).1, (V5.out.box_at (i := 3) (j := 0) rfl rfl).2.2⟩, List.forall_mem_cons.2 ⟨⟨(V5.out.box_at (i := 3) (j := 1) rfl rfl).1, (V5.out.box_at (i := 3) (j := 1) rfl rfl).2.2⟩, List.forall_mem_cons.2 ⟨⟨(V5.out.box_at (i := 3) (j := 2) rfl rfl).1, (V5.out.box_at (i := 3) (j := 2) rfl rfl).2.2⟩, List.forall_mem_cons.2 ⟨⟨(V5.out.box_at (i := 3) (j := 3) rfl rfl).1, (V5.out.box_at (i := 3) (j := 3) rfl rfl).2.2⟩, fun _ h => by simp at h⟩⟩⟩⟩⟩⟩⟩⟩⟩⟩
            refine wp_region_held_drew (S := Keep _) (by kernel_rfl) hKp.drew (fun hHeld => ?_)
            have V5d := Lib.hid (V5.out.go (bdrew _))
            refine tk 0 ?_ rfl ?_ ?_; rotate_left
            · intro wl hSw
              have hSw : Keep _ wl := hSw
              have k0 : wl.cell? ⟨w.heap.size, 0, none⟩ = some (.int .i64 A.lt) := (hSw _ (.tail _ (.tail _ (.head _)))).1
              have k1 : wl.cell? ⟨w.heap.size, 1, none⟩ = some (.int .i64 A.st) := (hSw _ (.tail _ (.tail _ (.tail _ (.head _))))).1
              have k2 : wl.cell? ⟨w.heap.size, 2, none⟩ = some (.slice x.A x.n x.c) := (hSw _ (.tail _ (.tail _ (.tail _ (.tail _ (.head _)))))).1
              have k3 : wl.cell? ⟨w.heap.size, 3, none⟩ = some (.slice x.B x.m x.d) := (hSw _ (.tail _ (.tail _ (.tail _ (.tail _ (.tail _ (.head _))))))).1
              clear hSw
              go_simp
              try (with_reducible rfl)
            try simp only [Act.put, sA, sZ, sS]
            refine tk 1 ?_ rfl ?_ ?_; rotate_left; focus (intro w hSw; clear hSw; go_simp; try (with_reducible rfl))
            try simp only [Act.put, sA, sZ, sS]
            refine tk 2 ?_ rfl ?_ ?_; rotate_left
            · intro wl hSw
              have hSw : Keep _ wl := hSw
              have k0 : wl.cell? ⟨g9, 0, none⟩ = some (.int .i64 p1) := (hSw _ (.head _)).1
              clear hSw
              go_simp
              try (with_reducible rfl)
            try simp only [Act.put, sA, sZ, sS]
            refine tk 4 ?_ rfl ?_ ?_; rotate_left
            · intro wl hSw
              have hSw : Keep _ wl := hSw
              have k0 : wl.cell? ⟨w.heap.size + 1, 0, none⟩ = some (.int .i64 B.lt) := (hSw _ (.tail _ (.tail _ (.tail _ (.tail _ (.tail _ (.tail _ (.head _)))))))).1
              have k1 : wl.cell? ⟨w.heap.size + 1, 1, none⟩ = some (.int .i64 B.st) := (hSw _ (.tail _ (.tail _ (.tail _ (.tail _ (.tail _ (.tail _ (.tail _ (.head _))))))))).1
              have k2 : wl.cell? ⟨w.heap.size + 1, 2, none⟩ = some (.slice y.A y.n y.c) := (hSw _ (.tail _ (.tail _ (.tail _ (.tail _ (.tail _ (.tail _ (.tail _ (.tail _ (.head _)))))))))).1
              have k3 : wl.cell? ⟨w.heap.size + 1, 3, none⟩ = some (.slice y.B y.m y.d) := (hSw _ (.tail _ (.tail _ (.tail _ (.tail _ (.tail _ (.tail _ (.tail _ (.tail _ (.tail _ (.head _))))))))))).1
              clear hSw
              go_simp
              try (with_reducible rfl)
            try simp only [Act.put, sA, sZ, sS]
            refine tk 5 ?_ rfl ?_ ?_; rotate_left; focus (intro w hSw; clear hSw; go_simp; try (with_reducible rfl))
            try simp only [Act.put, sA, sZ, sS]
            refine tk 6 ?_ rfl ?_ ?_; rotate_left
            · intro wl hSw
              have hSw : Keep _ wl := hSw
              have k0 : wl.cell? ⟨g9, 1, none⟩ = some (.int .i64 p2) := (hSw _ (.tail _ (.head _))).1
              clear hSw
              go_simp
              try (with_reducible rfl)
            try simp only [Act.put, sA, sZ, sS]
            refine wpAnyH_ready (rs := [3]) (by kernel_rfl) (by simp) ?_
            refine AllReadyH.cons (List.getElem?_toArray.trans rfl) (fun K hK => ?_) AllReadyH.nil
            go_simp
            refine ((GA.out.below V5d.out.below).isAcc p1 HI1.out.1.1 HI1.out.1.2).mono ?_
            rintro e w_3 ⟨rfl, b_3⟩
            try go_wp2_with fail
            rw [← HQA.out]
            have V_3 := Lib.hid (V5d.out.go b_3)
            refine hK.out _ _ (hHeld.go b_3) (fun hHeld => ?_)
            clear hK K
            try simp only [Act.put, sA, sZ, sS]
            refine wpAnyH_ready (rs := [7]) (by kernel_rfl) (by simp) ?_
            refine AllReadyH.cons (List.getElem?_toArray.trans rfl) (fun K hK => ?_) AllReadyH.nil
            go_simp
            refine ((GB.out.below V_3.out.below).isAcc p2 HI1.out.2.1 HI1.out.2.2).mono ?_
            rintro e w_3_7 ⟨rfl, b_3_7⟩
            try go_wp2_with fail
            rw [← HQB.out]
            have V_3_7 := Lib.hid (V_3.out.go b_3_7)
            refine hK.out _ _ (hHeld.go b_3_7) (fun hHeld => ?_)
            clear hK K
            try simp only [Act.put, sA, sZ, sS]
            refine tk 8 ?_ rfl ?_ ?_; rotate_left; focus (intro w hSw; clear hSw; go_simp; try (with_reducible rfl))
            try simp only [Act.put, sA, sZ, sS]
            refine wpAnyH_done (by kernel_rfl) ?_ _
            go_wp2_with fail
            go_meet
            exact ⟨rfl, V_3_7.out⟩
          case rest =>
            obtain ⟨rfl, hv⟩ := hcut
            have V6 := Lib.hid hv
            clear hv V5
            by_cases hq : qa = qb
            case neg =>
              have HE := Lib.hid (chkB_rc (relC_pair HPJ.out (pairC_acc (A := A) (B := B) (l := l) (p := (p1, p2)) (by show ¬ A.acc p1 = B.acc p2; rw [← HQA.out, ← HQB.out]; exact hq))))
              have hne : (qa != qb) = true := by rw [bne_iff_ne]; exact hq
              rw [hne]
              clear hq hne
              go_wp2_with fail
              go_ret
              exact ⟨ret_bool HE.out.symm, V6.out.below⟩
            have HACC := Lib.hid (show A.acc p1 = B.acc p2 by rw [← HQA.out, ← HQB.out]; exact hq)
            have hne : (qa != qb) = false := by rw [hq]; simp
            rw [hne]
            clear hq hne HQA HQB
            have hlt2 := HLT.out
            obtain ⟨a0, _, a9⟩ := V6.out.box_at (i := 4) (j := 0) rfl rfl
            rw [hlt2] at a0
            go_wp2_with fail
            clear a0 a9 hlt2
            go_loopw [64] (fun cv wr => ∃ d : Nat, cv = .int .i64 (d : Int) ∧ d ≤ k ∧ (∀ q, q < d → inL l (A.go p1 q, B.go p2 q) = true) ∧ Hp w [box 35 g9 [.int .i64 p1, .int .i64 p2], box 65 g7 [.int .i64 ((y.n : Int) + 1), .slice (some ⟨g, 0, none⟩) N N], nums (some ⟨g, 0, none⟩) N N tab, box 25 (w.heap.size + 1) [.int .i64 B.lt, .int .i64 B.st, .slice y.A y.n y.c, .slice y.B y.m y.d], box 25 w.heap.size [.int .i64 A.lt, .int .i64 A.st, .slice x.A x.n x.c, .slice x.B x.m x.d]] wr) (fun cv _ => k - (intOf cv).toNat)
            case atStart => exact ⟨0, rfl, Nat.zero_le _, fun q h => absurd h (Nat.not_lt_zero _), V6.out⟩
            case round =>
              clear V6
              obtain ⟨d, rfl, hdk, hin, hV⟩ := hrel
              obtain ⟨wj, rfl⟩ : ∃ wj : World, wj = wr := ⟨_, rfl⟩
              have V := Lib.hid hV
              have HG := Lib.hid hin
              clear hV hin
              by_cases hdlt : d < k
              · have HI3 := Lib.hid (show in2 A B (A.go p1 d, B.go p2 d) from in2_step HVA.out.right HVB.out.right (p1, p2) d)
                obtain ⟨kn, hkn⟩ : ∃ o, o = knw B tab (A.go p1 d, B.go p2 d) := ⟨_, rfl⟩
                have HKN := Lib.hid hkn
                clear hkn
                go_upto_region 19 with fail
                go_cut [74] (fun r wy => r = .bool (!kn) ∧ Hp w [box 35 g9 [.int .i64 p1, .int .i64 p2], box 65 g7 [.int .i64 ((y.n : Int) + 1), .slice (some ⟨g, 0, none⟩) N N], nums (some ⟨g, 0, none⟩) N N tab, box 25 (w.heap.size + 1) [.int .i64 B.lt, .int .i64 B.st, .slice y.A y.n y.c, .slice y.B y.m y.d], box 25 w.heap.size [.int .i64 A.lt, .int .i64 A.st, .slice x.A x.n x.c, .slice x.B x.m x.d]] wy)
                case first =>
                  have hKp : Keep [(⟨g9, 0, none⟩, .int .i64 p1), (⟨g9, 1, none⟩, .int .i64 p2), (⟨g7, 0, none⟩, .int .i64 ((y.n : Int) + 1)), (⟨g7, 1, none⟩, .slice (some ⟨g, 0, none⟩) N N), (⟨w.heap.size, 0, none⟩, .int .i64 A.lt), (⟨w.heap.size, 1, none⟩, .int .i64 A.st), (⟨w.heap.size, 2, none⟩, .slice x.A x.n x.c), (⟨w.heap.size, 3, none⟩, .slice x.B x.m x.d), (⟨w.heap.size + 1, 0, none⟩, .int .i64 B.lt), (⟨w.heap.size + 1, 1, none⟩, .int .i64 B.st), (⟨w.heap.size + 1, 2, none⟩, .slice y.A y.n y.c), (⟨w.heap.size + 1, 3, none⟩, .slice y.B y.m y.d)] wj := List.forall_mem_cons.2 ⟨⟨(V.out.box_at (i := 0) (j := 0) rfl rfl).1, (V.out.box_at (i := 0) (j := 0) rfl rfl).2.2⟩, List.forall_mem_cons.2 ⟨⟨(V.out.box_at (i := 0) (j := 1) rfl rfl).1, (V.out.box_at (i := 0) (j := 1) rfl rfl).2.2⟩, List.forall_mem_cons.2 ⟨⟨(V.out.box_at (i := 1) (j := 0) rfl rfl).1, (V.out.box_at (i := 1) (j := 0) rfl rfl).2.2⟩, List.forall_mem_cons.2 ⟨⟨(V.out.box_at (i := 1) (j := 1) rfl rfl).1, (V.out.box_at (i := 1) (j := 1) rfl rfl).2.2⟩, List.forall_mem_cons.2 ⟨⟨(V.out.box_at (i := 4) (j := 0) rfl rfl).1, (V.out.box_at (i := 4) (j := 0) rfl rfl).2.2⟩, List.forall_mem_cons.2 ⟨⟨(V.out.box_at (i := 4) (j := 1) rfl rfl).1, (V.out.box_at (i := 4) (j := 1) rfl rfl).2.2⟩, List.forall_mem_cons.2 ⟨⟨(V.out.box_at (i := 4) (j := 2) rfl rfl).1, (V.out.box_at (i := 4) (j := 2) rfl rfl).2.2⟩, List.forall_mem_cons.2 ⟨⟨(V.out.box_at (i := 4) (j := 3) rfl rfl).1, (V.out.box_at (i := 4) (j := 3) rfl rfl).2.2⟩, List.forall_mem_cons.2 ⟨⟨(V.out.box_at (i := 3) (j := 0) rfl rfl).1, (V.out.box_at (i := 3) (j := 0) rfl rfl).2.2⟩, List.forall_mem_cons.2 ⟨⟨(V.out.box_at (i := 3) (j := 1) rfl rfl).1, (V.out.box_at (i := 3) (j := 1) rfl rfl).2.2⟩, List.forall_mem_cons.2 ⟨⟨(V.out.box_at (i := 3) (j := 2) rfl rfl).1, (V.out.box_at (i := 3) (j := 2) rfl rfl).2.2⟩, List.forall_mem_cons.2 ⟨⟨(V.out.box_at (i := 3) (j := 3) rfl rfl).1, (V.out.box_at (i := 3) (j := 3) rfl rfl).2.2⟩, fun _ h => by simp at h⟩⟩⟩⟩⟩⟩⟩⟩⟩⟩⟩⟩
                  refine wp_region_held_drew (S := Keep _) (by kernel_rfl) hKp.drew (fun hHeld => ?_)
                  have Vd := Lib.hid (V.out.go (bdrew _))
                  refine tk 0 ?_ rfl ?_ ?_; rotate_left
                  · intro wl hSw
                    have hSw : Keep _ wl := hSw
                    have k0 : wl.cell? ⟨g7, 0, none⟩ = some (.int .i64 ((y.n : Int) + 1)) := (hSw _ (.tail _ (.tail _ (.head _)))).1
                    have k1 : wl.cell? ⟨g7, 1, none⟩ = some (.slice (some ⟨g, 0, none⟩) N N) := (hSw _ (.tail _ (.tail _ (.tail _ (.head _))))).1
                    clear hSw
                    go_simp
                    try (with_reducible rfl)
                  try simp only [Act.put, sA, sZ, sS]
                  refine tk 1 ?_ rfl ?_ ?_; rotate_left
                  · intro wl hSw
                    have hSw : Keep _ wl := hSw
                    have k0 : wl.cell? ⟨w.heap.size, 0, none⟩ = some (.int .i64 A.lt) := (hSw _ (.tail _ (.tail _ (.tail _ (.tail _ (.head _)))))).1
                    have k1 : wl.cell? ⟨w.heap.size, 1, none⟩ = some (.int .i64 A.st) := (hSw _ (.tail _ (.tail _ (.tail _ (.tail _ (.tail _ (.head _))))))).1
                    have k2 : wl.cell? ⟨w.heap.size, 2, none⟩ = some (.slice x.A x.n x.c) := (hSw _ (.tail _ (.tail _ (.tail _ (.tail _ (.tail _ (.tail _ (.head _)))))))).1
                    have k3 : wl.cell? ⟨w.heap.size, 3, none⟩ = some (.slice x.B x.m x.d) := (hSw _ (.tail _ (.tail _ (.tail _ (.tail _ (.tail _ (.tail _ (.tail _ (.head _))))))))).1
                    clear hSw
                    go_simp
                    try (with_reducible rfl)
                  try simp only [Act.put, sA, sZ, sS]
                  refine tk 2 ?_ rfl ?_ ?_; rotate_left
                  · intro wl hSw
                    have hSw : Keep _ wl := hSw
                    have k0 : wl.cell? ⟨w.heap.size + 1, 0, none⟩ = some (.int .i64 B.lt) := (hSw _ (.tail _ (.tail _ (.tail _ (.tail _ (.tail _ (.tail _ (.tail _ (.tail _ (.head _)))))))))).1
                    have k1 : wl.cell? ⟨w.heap.size + 1, 1, none⟩ = some (.int .i64 B.st) := (hSw _ (.tail _ (.tail _ (.tail _ (.tail _ (.tail _ (.tail _ (.tail _ (.tail _ (.tail _ (.head _))))))))))).1
                    have k2 : wl.cell? ⟨w.heap.size + 1, 2, none⟩ = some (.slice y.A y.n y.c) := (hSw _ (.tail _ (.tail _ (.tail _ (.tail _ (.tail _ (.tail _ (.tail _ (.tail _ (.tail _ (.tail _ (.head _)))))))))))).1
                    have k3 : wl.cell? ⟨w.heap.size + 1, 3, none⟩ = some (.slice y.B y.m y.d) := (hSw _ (.tail _ (.tail _ (.tail _ (.tail _ (.tail _ (.tail _ (.tail _ (.tail _ (.tail _ (.tail _ (.tail _ (.head _))))))))))))).1
                    clear hSw
                    go_simp
                    try (with_reducible rfl)
                  try simp only [Act.put, sA, sZ, sS]
                  refine tk 3 ?_ rfl ?_ ?_; rotate_left
                  · intro wl hSw
                    have hSw : Keep _ wl := hSw
                    have k0 : wl.cell? ⟨g9, 0, none⟩ = some (.int .i64 p1) := (hSw _ (.head _)).1
                    have k1 : wl.cell? ⟨g9, 1, none⟩ = some (.int .i64 p2) := (hSw _ (.tail _ (.head _))).1
                    clear hSw
                    go_simp
                    try (with_reducible rfl)
                  try simp only [Act.put, sA, sZ, sS]
                  refine tk 4 ?_ rfl ?_ ?_; rotate_left; focus (intro w hSw; clear hSw; go_simp; try (with_reducible rfl))
                  try simp only [Act.put, sA, sZ, sS]
                  refine wpAnyH_ready (rs := [5]) (by kernel_rfl) (by simp) ?_
                  refine AllReadyH.cons (List.getElem?_toArray.trans rfl) (fun K hK => ?_) AllReadyH.nil
                  go_simp
                  refine (followPair_any x y A B k p1 p2 d _ (GA.out.below Vd.out.below) (GB.out.below Vd.out.below) HI.out hdlt).mono ?_
                  rintro e w_5 ⟨rfl, b_5⟩
                  try go_wp2_with fail
                  have V_5 := Lib.hid (Vd.out.go b_5)
                  refine hK.out _ _ (hHeld.go b_5) (fun hHeld => ?_)
                  clear hK K
                  try simp only [Act.put, sA, sZ, sS]
                  refine wpAnyH_ready (rs := [6]) (by kernel_rfl) (by simp) ?_
                  refine AllReadyH.cons (List.getElem?_toArray.trans rfl) (fun K hK => ?_) AllReadyH.nil
                  go_simp
                  refine (knows_any A B (A.go p1 d) (B.go p2 d) ((y.n : Int) + 1) (some ⟨g, 0, none⟩) N N l tab _ (by rw [HBN.out]) HI3.out (by have := HAN.out; omega) (by have := HBN.out; omega) HT.out HTN.out (V_5.out.cells (i := 2) (A := some ⟨g, 0, none⟩) (c := N) rfl rfl) HS.out).mono ?_
                  rintro e w_5_6 ⟨rfl, b_5_6⟩
                  try go_wp2_with fail
                  rw [← HKN.out]
                  have V_5_6 := Lib.hid (V_5.out.go b_5_6)
                  refine hK.out _ _ (hHeld.go b_5_6) (fun hHeld => ?_)
                  clear hK K
                  try simp only [Act.put, sA, sZ, sS]
                  refine tk 7 ?_ rfl ?_ ?_; rotate_left; focus (intro w hSw; clear hSw; go_simp; try (with_reducible rfl))
                  try simp only [Act.put, sA, sZ, sS]
                  refine wpAnyH_done (by kernel_rfl) ?_ _
                  go_wp2_with fail
                  go_meet
                  exact ⟨rfl, V_5_6.out⟩
                case rest =>
                  obtain ⟨rfl, hv⟩ := hcut
                  have V8 := Lib.hid hv
                  clear hv V
                  cases hk : kn
                  · have HE := Lib.hid (chkB_rc (relC_pair HPJ.out (pairC_go (A := A) (B := B) (l := l) (p := (p1, p2)) HLT.out hdlt (by rw [← knw_inL HT.out HI3.out, ← HKN.out]; exact hk))))
                    subst hk
                    go_wp2_with fail
                    go_ret
                    exact ⟨ret_bool HE.out.symm, V8.out.below⟩
                  · have HG2 := Lib.hid (show ∀ q, q < d + 1 → inL l (A.go p1 q, B.go p2 q) = true from fun q hq => by
                      by_cases e : q = d
                      · subst e; rw [← knw_inL HT.out HI3.out, ← HKN.out]; exact hk
                      · exact HG.out q (by omega))
                    clear HKN
                    subst hk
                    go_wp2_with fail
                    go_roundw
                    case rel => exact ⟨d + 1, by go_num, by omega, HG2.out, V8.out⟩
                    case measure => simp [intOf]; omega
              · obtain rfl : k = d := by omega
                have HPC2 := Lib.hid (show ∀ (q : Nat) p, q < i + 1 → l[q]? = some p → pairC A B l p = true from fun q p hq hp => by
                  by_cases e : q = i
                  · subst e; rw [HPJ.out] at hp; injection hp with hp; subst hp; exact pairC_all HLT.out HACC.out HG.out
                  · exact HPC.out q p (by omega) hp)
                have V9 := Lib.hid V.out.tail
                clear V
                go_wp2_with fail
                go_roundw
                case rel => exact ⟨i + 1, by go_num, by omega, HPC2.out, V9.out⟩
                case measure => simp [intOf]; omega
        · obtain rfl : i = j := by omega
          have HE := Lib.hid (chkB_all HP.out HR.out (relC_all (A := A) (B := B) (l := l) HSK.out (fun q p hp => HPC.out q p (by have := (List.getElem?_eq_some_iff.1 hp).1; have := HL.out; omega) hp)))
          go_wp2_with fail
          go_ret
          exact ⟨ret_bool HE.out.symm, V.out.below⟩
end Go.Proofs.Ytdkdfmflghbhiaa
