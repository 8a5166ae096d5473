/- What the statement about the minimal automaton answers: true, whatever the input. -/
import Derived.Test.YtbfedfiemkhefaaRx
import Derived.Test.YtbfedfiemkhefaaQz
import Derived.Test.YtbfedfiemkhefaaQy
namespace Go.Proofs.Ytbfedfiemkhefaa
open Go.RowKit
set_option linter.unusedVariables false
set_option linter.unusedSimpArgs false
set_option maxRecDepth 100000

theorem again_min {A R : Au} (h : MinR A R 0) : ∃ k, A.Vld k ∧ R.Vld k ∧ (∀ u, Let k u → R.lang u = A.lang u) ∧ MinR R R 0 := by
  rcases h with ⟨_, _, h⟩ | ⟨k, h1, h2, _⟩
  · cases h
  · have hs := h2.small h1.right
    have hv : R.Vld k := ⟨h2.right, h1.k8, by have := h1.few; omega⟩
    exact ⟨k, h1, hv, h2.lang, .inr ⟨k, hv, h2.self, rfl⟩⟩
theorem MinR.er {A R : Au} {er : Int} (h : MinR A R er) : er = 1 ∨ er = 0 := by
  rcases h with ⟨_, _, h⟩ | ⟨_, _, _, h⟩
  · exact .inl h
  · exact .inr h
set_option maxHeartbeats 32000000 in
theorem lawmin_any (x : DV) (A : Au) (Aw : Option Addr) (n c : Nat) (L : List Int) (w : World) (hA : DfaIn w x A) (hL : L.length = n) (hn : n ≤ 17592186044416) (hc : CellsIn w Aw (ints L)) :
    Calls Try.prog 3 #[dval x A, .slice Aw n c] w fun e w' => e = .returned (.bool true) ∧ Below w.heap.size w w' := by
  have HA := Lib.hid hA
  have HL := Lib.hid hL
  have HW := Lib.hid hc
  clear hA hL hc
  by_cases hf : A.fewB = true
  case neg =>
    have HF := Lib.hid (show A.fewB = false by cases e : A.fewB; rfl; exact absurd e hf)
    clear hf
    obtain ⟨wz, hwz⟩ : ∃ z, z = (w.alloc (.cells #[.int .i64 A.lt, .int .i64 A.st, .slice x.A x.n x.c, .slice x.B x.m x.d] 25)) := ⟨_, rfl⟩
    have V := Lib.hid (show Hp w [box 25 w.heap.size [.int .i64 A.lt, .int .i64 A.st, .slice x.A x.n x.c, .slice x.B x.m x.d]] wz by
      have := ((Hp.start w).box_new 25 [.int .i64 A.lt, .int .i64 A.st, .slice x.A x.n x.c, .slice x.B x.m x.d])
      rw [hwz]; simpa using this)
    have HZ := Lib.hid hwz
    clear hwz
    go_enter Try.func3, Try.ntmps3
    go_upto_region 1 with fail
    rw [← HZ.out]
    clear HZ
    go_wp2_with fail
    refine (awake_any wz).mono ?_
    rintro e w1 ⟨rfl, b1⟩
    have V1 := Lib.hid (V.out.go b1)
    clear b1 V
    obtain ⟨r0_0, _, r0_9⟩ := V1.out.box_at (i := 0) (j := 0) rfl rfl
    obtain ⟨r0_1, _, _⟩ := V1.out.box_at (i := 0) (j := 1) rfl rfl
    obtain ⟨r0_2, _, _⟩ := V1.out.box_at (i := 0) (j := 2) rfl rfl
    obtain ⟨r0_3, _, _⟩ := V1.out.box_at (i := 0) (j := 3) rfl rfl
    go_wp2_with fail
    refine (few_any x A w1 (HA.out.below V1.out.below)).mono ?_
    rintro e w2 ⟨rfl, b2⟩
    rw [HF.out]
    have V2 := Lib.hid (V1.out.go b2)
    clear b2 V1 r0_9 r0_0 r0_1 r0_2 r0_3
    go_wp2_with fail
    refine (awake_any w2).mono ?_
    rintro e w3 ⟨rfl, b3⟩
    have V3 := Lib.hid (V2.out.go b3)
    go_wp2_with fail
    go_ret
    exact ⟨rfl, V3.out.below⟩
  have HF := Lib.hid hf
  clear hf
  by_cases hbig : 100 < n
  · obtain ⟨wz, hwz⟩ : ∃ z, z = (w.alloc (.cells #[.int .i64 A.lt, .int .i64 A.st, .slice x.A x.n x.c, .slice x.B x.m x.d] 25)) := ⟨_, rfl⟩
    have V := Lib.hid (show Hp w [box 25 w.heap.size [.int .i64 A.lt, .int .i64 A.st, .slice x.A x.n x.c, .slice x.B x.m x.d]] wz by
      have := ((Hp.start w).box_new 25 [.int .i64 A.lt, .int .i64 A.st, .slice x.A x.n x.c, .slice x.B x.m x.d])
      rw [hwz]; simpa using this)
    have HZ := Lib.hid hwz
    clear hwz
    go_enter Try.func3, Try.ntmps3
    go_upto_region 1 with fail
    rw [← HZ.out]
    clear HZ
    go_wp2_with fail
    refine (awake_any wz).mono ?_
    rintro e w1 ⟨rfl, b1⟩
    have V1 := Lib.hid (V.out.go b1)
    clear b1 V
    obtain ⟨r0_0, _, r0_9⟩ := V1.out.box_at (i := 0) (j := 0) rfl rfl
    obtain ⟨r0_1, _, _⟩ := V1.out.box_at (i := 0) (j := 1) rfl rfl
    obtain ⟨r0_2, _, _⟩ := V1.out.box_at (i := 0) (j := 2) rfl rfl
    obtain ⟨r0_3, _, _⟩ := V1.out.box_at (i := 0) (j := 3) rfl rfl
    go_wp2_with fail
    refine (few_any x A w1 (HA.out.below V1.out.below)).mono ?_
    rintro e w2 ⟨rfl, b2⟩
    rw [HF.out]
    have V2 := Lib.hid (V1.out.go b2)
    clear b2 V1 r0_9 r0_0 r0_1 r0_2 r0_3
    go_wp2_with fail
    refine (awake_any w2).mono ?_
    rintro e w3 ⟨rfl, b3⟩
    have V3 := Lib.hid (V2.out.go b3)
    go_wp2_with fail
    go_ret
    exact ⟨rfl, V3.out.below⟩
  have hn1 : n ≤ 100 := by omega
  obtain ⟨wz, hwz⟩ : ∃ z, z = (w.alloc (.cells #[.int .i64 A.lt, .int .i64 A.st, .slice x.A x.n x.c, .slice x.B x.m x.d] 25)) := ⟨_, rfl⟩
  have V := Lib.hid (show Hp w [box 25 w.heap.size [.int .i64 A.lt, .int .i64 A.st, .slice x.A x.n x.c, .slice x.B x.m x.d]] wz by
    have := ((Hp.start w).box_new 25 [.int .i64 A.lt, .int .i64 A.st, .slice x.A x.n x.c, .slice x.B x.m x.d])
    rw [hwz]; simpa using this)
  have HZ := Lib.hid hwz
  clear hwz
  go_enter Try.func3, Try.ntmps3
  go_upto_region 1 with fail
  rw [← HZ.out]
  clear HZ
  go_wp2_with fail
  refine (awake_any wz).mono ?_
  rintro e w1 ⟨rfl, b1⟩
  have V1 := Lib.hid (V.out.go b1)
  clear b1 V
  obtain ⟨r0_0, _, r0_9⟩ := V1.out.box_at (i := 0) (j := 0) rfl rfl
  obtain ⟨r0_1, _, _⟩ := V1.out.box_at (i := 0) (j := 1) rfl rfl
  obtain ⟨r0_2, _, _⟩ := V1.out.box_at (i := 0) (j := 2) rfl rfl
  obtain ⟨r0_3, _, _⟩ := V1.out.box_at (i := 0) (j := 3) rfl rfl
  go_wp2_with fail
  refine (few_any x A w1 (HA.out.below V1.out.below)).mono ?_
  rintro e w2 ⟨rfl, b2⟩
  rw [HF.out]
  have V2 := Lib.hid (V1.out.go b2)
  clear b2 V1 r0_9 r0_0 r0_1 r0_2 r0_3
  obtain ⟨r0_0, _, r0_9⟩ := V2.out.box_at (i := 0) (j := 0) rfl rfl
  obtain ⟨r0_1, _, _⟩ := V2.out.box_at (i := 0) (j := 1) rfl rfl
  obtain ⟨r0_2, _, _⟩ := V2.out.box_at (i := 0) (j := 2) rfl rfl
  obtain ⟨r0_3, _, _⟩ := V2.out.box_at (i := 0) (j := 3) rfl rfl
  go_wp2_with fail
  refine (copied_any x A w2 (HA.out.below V2.out.below) HF.out).mono ?_
  rintro e w3 ⟨yc, rfl, hy, b3⟩
  have HY := Lib.hid hy
  have V3 := Lib.hid (V2.out.go b3)
  clear hy b3 V2 hbig r0_9 r0_0 r0_1 r0_2 r0_3
  go_wp2_with fail
  refine (minV_any yc A w3 HY.out).mono ?_
  rintro e w4 ⟨y, R, er, rfl, hmr, hd, b4⟩
  have HM := Lib.hid hmr
  have HD := Lib.hid hd
  have V4 := Lib.hid (V3.out.go b4)
  clear hmr hd b4 V3 HY
  obtain ⟨w5, hw5⟩ : ∃ zz, zz = w4.alloc (.cells #[.int .i64 R.lt, .int .i64 R.st, .slice y.A y.n y.c, .slice y.B y.m y.d] 25) := ⟨_, rfl⟩
  obtain ⟨g5, hg5⟩ : ∃ zz, zz = w4.heap.size := ⟨_, rfl⟩
  have V5 := Lib.hid (show Hp w [box 25 g5 [.int .i64 R.lt, .int .i64 R.st, .slice y.A y.n y.c, .slice y.B y.m y.d], box 25 w.heap.size [.int .i64 A.lt, .int .i64 A.st, .slice x.A x.n x.c, .slice x.B x.m x.d]] w5 by rw [hw5, hg5]; exact V4.out.box_new 25 [.int .i64 R.lt, .int .i64 R.st, .slice y.A y.n y.c, .slice y.B y.m y.d])
  have BB := Lib.hid (show Below w4.heap.size w4 w5 by rw [hw5]; exact bnew _ _)
  have HH := Lib.hid hw5
  have HG := Lib.hid hg5
  clear hw5 hg5
  go_upto_region 4 with fail
  rw [← HH.out, ← HG.out]
  clear HH HG V4
  have HD5 := Lib.hid (HD.out.below BB.out)
  clear HD BB
  obtain ⟨r1_0, _, r1_9⟩ := V5.out.box_at (i := 1) (j := 0) rfl rfl
  obtain ⟨r1_1, _, _⟩ := V5.out.box_at (i := 1) (j := 1) rfl rfl
  obtain ⟨r1_2, _, _⟩ := V5.out.box_at (i := 1) (j := 2) rfl rfl
  obtain ⟨r1_3, _, _⟩ := V5.out.box_at (i := 1) (j := 3) rfl rfl
  go_wp2_with fail
  refine (rminV_any x A w5 (HA.out.below V5.out.below)).mono ?_
  rintro e w6 ⟨yn, S, es, rfl, hms, hd, b6⟩
  obtain ⟨e1, e2⟩ := HM.out.uniq hms
  subst e1
  subst e2
  have HD6 := Lib.hid hd
  have V6 := Lib.hid (V5.out.go b6)
  have HM6 := Lib.hid (HD5.out.below b6)
  clear hms hd b6 V5 HD5 r1_9 r1_0 r1_1 r1_2 r1_3
  obtain ⟨w7, hw7⟩ : ∃ zz, zz = w6.alloc (.cells #[.int .i64 R.lt, .int .i64 R.st, .slice yn.A yn.n yn.c, .slice yn.B yn.m yn.d] 25) := ⟨_, rfl⟩
  obtain ⟨g7, hg7⟩ : ∃ zz, zz = w6.heap.size := ⟨_, rfl⟩
  have V7 := Lib.hid (show Hp w [box 25 g7 [.int .i64 R.lt, .int .i64 R.st, .slice yn.A yn.n yn.c, .slice yn.B yn.m yn.d], box 25 g5 [.int .i64 R.lt, .int .i64 R.st, .slice y.A y.n y.c, .slice y.B y.m y.d], box 25 w.heap.size [.int .i64 A.lt, .int .i64 A.st, .slice x.A x.n x.c, .slice x.B x.m x.d]] w7 by rw [hw7, hg7]; exact V6.out.box_new 25 [.int .i64 R.lt, .int .i64 R.st, .slice yn.A yn.n yn.c, .slice yn.B yn.m yn.d])
  have BB := Lib.hid (show Below w6.heap.size w6 w7 by rw [hw7]; exact bnew _ _)
  have HH := Lib.hid hw7
  have HG := Lib.hid hg7
  clear hw7 hg7
  go_upto_region 5 with fail
  rw [← HH.out, ← HG.out]
  clear HH HG V6
  have HD7 := Lib.hid (HD6.out.below BB.out)
  have HM7 := Lib.hid (HM6.out.below BB.out)
  clear HD6 HM6 BB
  rcases HM.out.er with rfl | rfl
  · obtain ⟨r1_0, _, r1_9⟩ := V7.out.box_at (i := 1) (j := 0) rfl rfl
    obtain ⟨r1_1, _, _⟩ := V7.out.box_at (i := 1) (j := 1) rfl rfl
    obtain ⟨r1_2, _, _⟩ := V7.out.box_at (i := 1) (j := 2) rfl rfl
    obtain ⟨r1_3, _, _⟩ := V7.out.box_at (i := 1) (j := 3) rfl rfl
    obtain ⟨r0_0, _, r0_9⟩ := V7.out.box_at (i := 0) (j := 0) rfl rfl
    obtain ⟨r0_1, _, _⟩ := V7.out.box_at (i := 0) (j := 1) rfl rfl
    obtain ⟨r0_2, _, _⟩ := V7.out.box_at (i := 0) (j := 2) rfl rfl
    obtain ⟨r0_3, _, _⟩ := V7.out.box_at (i := 0) (j := 3) rfl rfl
    go_wp2_with fail
    refine (sameDFA_any y yn R R w7 HM7.out HD7.out).mono ?_
    rintro e w8 ⟨rfl, b8⟩
    rw [decide_eq_true rfl]
    have V8 := Lib.hid (V7.out.go b8)
    have HD8 := Lib.hid (HD7.out.below b8)
    have HM8 := Lib.hid (HM7.out.below b8)
    clear b8 V7 HD7 HM7 r1_9 r1_0 r1_1 r1_2 r1_3 r0_9 r0_0 r0_1 r0_2 r0_3
    obtain ⟨r1_0, _, r1_9⟩ := V8.out.box_at (i := 1) (j := 0) rfl rfl
    obtain ⟨r1_1, _, _⟩ := V8.out.box_at (i := 1) (j := 1) rfl rfl
    obtain ⟨r1_2, _, _⟩ := V8.out.box_at (i := 1) (j := 2) rfl rfl
    obtain ⟨r1_3, _, _⟩ := V8.out.box_at (i := 1) (j := 3) rfl rfl
    obtain ⟨r0_0, _, r0_9⟩ := V8.out.box_at (i := 0) (j := 0) rfl rfl
    obtain ⟨r0_1, _, _⟩ := V8.out.box_at (i := 0) (j := 1) rfl rfl
    obtain ⟨r0_2, _, _⟩ := V8.out.box_at (i := 0) (j := 2) rfl rfl
    obtain ⟨r0_3, _, _⟩ := V8.out.box_at (i := 0) (j := 3) rfl rfl
    go_wp2_with fail
    refine (sameDFA_any y yn R R w8 HM8.out HD8.out).mono ?_
    rintro e w9 ⟨rfl, b9⟩
    rw [decide_eq_true rfl]
    have V9 := Lib.hid (V8.out.go b9)
    clear b9 V8 r1_9 r1_0 r1_1 r1_2 r1_3 r0_9 r0_0 r0_1 r0_2 r0_3
    go_wp2_with fail
    go_ret
    exact ⟨rfl, V9.out.below⟩
  · obtain ⟨k, hka, hkr, hlang, hrr⟩ := again_min HM.out
    have HKA := Lib.hid hka
    have HKR := Lib.hid hkr
    have HRR := Lib.hid hrr
    have HAC := Lib.hid (acc_same hka hkr hlang L)
    have HVE := Lib.hid hkr.vE
    clear hka hkr hlang hrr
    obtain ⟨r1_0, _, r1_9⟩ := V7.out.box_at (i := 1) (j := 0) rfl rfl
    obtain ⟨r1_1, _, _⟩ := V7.out.box_at (i := 1) (j := 1) rfl rfl
    obtain ⟨r1_2, _, _⟩ := V7.out.box_at (i := 1) (j := 2) rfl rfl
    obtain ⟨r1_3, _, _⟩ := V7.out.box_at (i := 1) (j := 3) rfl rfl
    obtain ⟨r0_0, _, r0_9⟩ := V7.out.box_at (i := 0) (j := 0) rfl rfl
    obtain ⟨r0_1, _, _⟩ := V7.out.box_at (i := 0) (j := 1) rfl rfl
    obtain ⟨r0_2, _, _⟩ := V7.out.box_at (i := 0) (j := 2) rfl rfl
    obtain ⟨r0_3, _, _⟩ := V7.out.box_at (i := 0) (j := 3) rfl rfl
    go_wp2_with fail
    refine (sameDFA_any y yn R R w7 HM7.out HD7.out).mono ?_
    rintro e w8 ⟨rfl, b8⟩
    rw [decide_eq_true rfl]
    have V8 := Lib.hid (V7.out.go b8)
    have HM8 := Lib.hid (HM7.out.below b8)
    clear b8 V7 HD7 HM7 r1_9 r1_0 r1_1 r1_2 r1_3 r0_9 r0_0 r0_1 r0_2 r0_3
    obtain ⟨r1_0, _, r1_9⟩ := V8.out.box_at (i := 1) (j := 0) rfl rfl
    obtain ⟨r1_1, _, _⟩ := V8.out.box_at (i := 1) (j := 1) rfl rfl
    obtain ⟨r1_2, _, _⟩ := V8.out.box_at (i := 1) (j := 2) rfl rfl
    obtain ⟨r1_3, _, _⟩ := V8.out.box_at (i := 1) (j := 3) rfl rfl
    go_wp2_with fail
    refine (minV_any y R w8 HM8.out).mono ?_
    rintro e w9 ⟨q, S, es, rfl, hms, hd, b9⟩
    obtain ⟨e1, e2⟩ := HRR.out.uniq hms
    subst e1
    subst e2
    have HD9 := Lib.hid hd
    have V9 := Lib.hid (V8.out.go b9)
    have HM9 := Lib.hid (HM8.out.below b9)
    clear hms hd b9 V8 HM8 r1_9 r1_0 r1_1 r1_2 r1_3
    obtain ⟨w10, hw10⟩ : ∃ zz, zz = w9.alloc (.cells #[.int .i64 R.lt, .int .i64 R.st, .slice q.A q.n q.c, .slice q.B q.m q.d] 25) := ⟨_, rfl⟩
    obtain ⟨g9, hg9⟩ : ∃ zz, zz = w9.heap.size := ⟨_, rfl⟩
    have V10 := Lib.hid (show Hp w [box 25 g9 [.int .i64 R.lt, .int .i64 R.st, .slice q.A q.n q.c, .slice q.B q.m q.d], box 25 g7 [.int .i64 R.lt, .int .i64 R.st, .slice yn.A yn.n yn.c, .slice yn.B yn.m yn.d], box 25 g5 [.int .i64 R.lt, .int .i64 R.st, .slice y.A y.n y.c, .slice y.B y.m y.d], box 25 w.heap.size [.int .i64 A.lt, .int .i64 A.st, .slice x.A x.n x.c, .slice x.B x.m x.d]] w10 by rw [hw10, hg9]; exact V9.out.box_new 25 [.int .i64 R.lt, .int .i64 R.st, .slice q.A q.n q.c, .slice q.B q.m q.d])
    have BB := Lib.hid (show Below w9.heap.size w9 w10 by rw [hw10]; exact bnew _ _)
    have HH := Lib.hid hw10
    have HG := Lib.hid hg9
    clear hw10 hg9
    go_upto_region 8 with fail
    rw [← HH.out, ← HG.out]
    clear HH HG V9
    have HQ := Lib.hid (HD9.out.below BB.out)
    have HMQ := Lib.hid (HM9.out.below BB.out)
    clear HD9 HM9 BB
    obtain ⟨va, hva⟩ : ∃ o, o = A.accI L := ⟨_, rfl⟩
    have HV1 := Lib.hid (show R.accI L = va by rw [HAC.out, hva])
    have HV2 := Lib.hid hva.symm
    clear hva
    have hKp : Keep [(⟨g9, 0, none⟩, .int .i64 R.lt), (⟨g9, 1, none⟩, .int .i64 R.st), (⟨g9, 2, none⟩, .slice q.A q.n q.c), (⟨g9, 3, none⟩, .slice q.B q.m q.d), (⟨g5, 0, none⟩, .int .i64 R.lt), (⟨g5, 1, none⟩, .int .i64 R.st), (⟨g5, 2, none⟩, .slice y.A y.n y.c), (⟨g5, 3, none⟩, .slice y.B y.m y.d), (⟨w.heap.size, 0, none⟩, .int .i64 A.lt), (⟨w.heap.size, 1, none⟩, .int .i64 A.st), (⟨w.heap.size, 2, none⟩, .slice x.A x.n x.c), (⟨w.heap.size, 3, none⟩, .slice x.B x.m x.d)] w10 := List.forall_mem_cons.2 ⟨⟨(V10.out.box_at (i := 0) (j := 0) rfl rfl).1, (V10.out.box_at (i := 0) (j := 0) rfl rfl).2.2⟩, List.forall_mem_cons.2 ⟨⟨(V10.out.box_at (i := 0) (j := 1) rfl rfl).1, (V10.out.box_at (i := 0) (j := 1) rfl rfl).2.2⟩, List.forall_mem_cons.2 ⟨⟨(V10.out.box_at (i := 0) (j := 2) rfl rfl).1, (V10.out.box_at (i := 0) (j := 2) rfl rfl).2.2⟩, List.forall_mem_cons.2 ⟨⟨(V10.out.box_at (i := 0) (j := 3) rfl rfl).1, (V10.out.box_at (i := 0) (j := 3) rfl rfl).2.2⟩, List.forall_mem_cons.2 ⟨⟨(V10.out.box_at (i := 2) (j := 0) rfl rfl).1, (V10.out.box_at (i := 2) (j := 0) rfl rfl).2.2⟩, List.forall_mem_cons.2 ⟨⟨(V10.out.box_at (i := 2) (j := 1) rfl rfl).1, (V10.out.box_at (i := 2) (j := 1) rfl rfl).2.2⟩, List.forall_mem_cons.2 ⟨⟨(V10.out.box_at (i := 2) (j := 2) rfl rfl).1, (V10.out.box_at (i := 2) (j := 2) rfl rfl).2.2⟩, List.forall_mem_cons.2 ⟨⟨(V10.out.box_at (i := 2) (j := 3) rfl rfl).1, (V10.out.box_at (i := 2) (j := 3) rfl rfl).2.2⟩, List.forall_mem_cons.2 ⟨⟨(V10.out.box_at (i := 3) (j := 0) rfl rfl).1, (V10.out.box_at (i := 3) (j := 0) rfl rfl).2.2⟩, List.forall_mem_cons.2 ⟨⟨(V10.out.box_at (i := 3) (j := 1) rfl rfl).1, (V10.out.box_at (i := 3) (j := 1) rfl rfl).2.2⟩, List.forall_mem_cons.2 ⟨⟨(V10.out.box_at (i := 3) (j := 2) rfl rfl).1, (V10.out.box_at (i := 3) (j := 2) rfl rfl).2.2⟩, List.forall_mem_cons.2 ⟨⟨(V10.out.box_at (i := 3) (j := 3) rfl rfl).1, (V10.out.box_at (i := 3) (j := 3) rfl rfl).2.2⟩, fun _ h => by simp at h⟩⟩⟩⟩⟩⟩⟩⟩⟩⟩⟩⟩
    refine wp_region_held_drew (S := Keep _) (by kernel_rfl) hKp.drew (fun hHeld => ?_)
    have V10d := Lib.hid (V10.out.go (bdrew _))
    refine tk 0 ?_ rfl ?_ ?_; rotate_left; focus (intro w hSw; clear hSw; go_simp; try (with_reducible rfl))
    try simp only [Act.put, sA, sZ, sS]
    refine tk 1 ?_ rfl ?_ ?_; rotate_left; focus (intro w hSw; clear hSw; go_simp; try (with_reducible rfl))
    try simp only [Act.put, sA, sZ, sS]
    refine tk 2 ?_ rfl ?_ ?_; rotate_left; focus (intro w hSw; clear hSw; go_simp; try (with_reducible rfl))
    try simp only [Act.put, sA, sZ, sS]
    refine tk 3 ?_ rfl ?_ ?_; rotate_left
    · intro wl hSw
      have hSw : Keep _ wl := hSw
      have k0 : wl.cell? ⟨g9, 0, none⟩ = some (.int .i64 R.lt) := (hSw _ (.head _)).1
      have k1 : wl.cell? ⟨g9, 1, none⟩ = some (.int .i64 R.st) := (hSw _ (.tail _ (.head _))).1
      have k2 : wl.cell? ⟨g9, 2, none⟩ = some (.slice q.A q.n q.c) := (hSw _ (.tail _ (.tail _ (.head _)))).1
      have k3 : wl.cell? ⟨g9, 3, none⟩ = some (.slice q.B q.m q.d) := (hSw _ (.tail _ (.tail _ (.tail _ (.head _))))).1
      clear hSw
      go_simp
      try (with_reducible rfl)
    try simp only [Act.put, sA, sZ, sS]
    refine tk 4 ?_ rfl ?_ ?_; rotate_left
    · intro wl hSw
      have hSw : Keep _ wl := hSw
      have k0 : wl.cell? ⟨g5, 0, none⟩ = some (.int .i64 R.lt) := (hSw _ (.tail _ (.tail _ (.tail _ (.tail _ (.head _)))))).1
      have k1 : wl.cell? ⟨g5, 1, none⟩ = some (.int .i64 R.st) := (hSw _ (.tail _ (.tail _ (.tail _ (.tail _ (.tail _ (.head _))))))).1
      have k2 : wl.cell? ⟨g5, 2, none⟩ = some (.slice y.A y.n y.c) := (hSw _ (.tail _ (.tail _ (.tail _ (.tail _ (.tail _ (.tail _ (.head _)))))))).1
      have k3 : wl.cell? ⟨g5, 3, none⟩ = some (.slice y.B y.m y.d) := (hSw _ (.tail _ (.tail _ (.tail _ (.tail _ (.tail _ (.tail _ (.tail _ (.head _))))))))).1
      clear hSw
      go_simp
      try (with_reducible rfl)
    try simp only [Act.put, sA, sZ, sS]
    refine wpAnyH_ready (rs := [5]) (by kernel_rfl) (by simp) ?_
    refine AllReadyH.cons (List.getElem?_toArray.trans rfl) (fun K hK => ?_) AllReadyH.nil
    go_simp
    refine (sameDFA_any q y R R _ (HQ.out.below (bdrew _)) (HMQ.out.below (bdrew _))).mono ?_
    rintro e w_5 ⟨rfl, b_5⟩
    try go_wp2_with fail
    try rw [decide_eq_true rfl]
    have M5 := Lib.hid ((HMQ.out.below (bdrew _)).below b_5)
    have V_5 := Lib.hid (V10d.out.go b_5)
    refine hK.out _ _ (hHeld.go b_5) (fun hHeld => ?_)
    clear hK K
    try simp only [Act.put, sA, sZ, sS]
    refine tk 6 ?_ rfl ?_ ?_; rotate_left; focus (intro w hSw; clear hSw; go_simp; try (with_reducible rfl))
    try simp only [Act.put, sA, sZ, sS]
    refine tk 7 ?_ rfl ?_ ?_; rotate_left; focus (intro w hSw; clear hSw; go_simp; try (with_reducible rfl))
    try simp only [Act.put, sA, sZ, sS]
    refine tk 8 ?_ rfl ?_ ?_; rotate_left
    · intro wl hSw
      have hSw : Keep _ wl := hSw
      have k0 : wl.cell? ⟨g5, 0, none⟩ = some (.int .i64 R.lt) := (hSw _ (.tail _ (.tail _ (.tail _ (.tail _ (.head _)))))).1
      have k1 : wl.cell? ⟨g5, 1, none⟩ = some (.int .i64 R.st) := (hSw _ (.tail _ (.tail _ (.tail _ (.tail _ (.tail _ (.head _))))))).1
      have k2 : wl.cell? ⟨g5, 2, none⟩ = some (.slice y.A y.n y.c) := (hSw _ (.tail _ (.tail _ (.tail _ (.tail _ (.tail _ (.tail _ (.head _)))))))).1
      have k3 : wl.cell? ⟨g5, 3, none⟩ = some (.slice y.B y.m y.d) := (hSw _ (.tail _ (.tail _ (.tail _ (.tail _ (.tail _ (.tail _ (.tail _ (.head _))))))))).1
      clear hSw
      go_simp
      try (with_reducible rfl)
    try simp only [Act.put, sA, sZ, sS]
    refine wpAnyH_ready (rs := [9]) (by kernel_rfl) (by simp) ?_
    refine AllReadyH.cons (List.getElem?_toArray.trans rfl) (fun K hK => ?_) AllReadyH.nil
    go_simp
    refine (valid_any y R _ M5.out).mono ?_
    rintro e w_5_9 ⟨rfl, b_5_9⟩
    try go_wp2_with fail
    rw [HVE.out]
    have M9 := Lib.hid (M5.out.below b_5_9)
    have V_5_9 := Lib.hid (V_5.out.go b_5_9)
    refine hK.out _ _ (hHeld.go b_5_9) (fun hHeld => ?_)
    clear hK K
    try simp only [Act.put, sA, sZ, sS]
    refine tk 10 ?_ rfl ?_ ?_; rotate_left; focus (intro w hSw; clear hSw; go_simp; try (with_reducible rfl))
    try simp only [Act.put, sA, sZ, sS]
    refine tk 11 ?_ rfl ?_ ?_; rotate_left; focus (intro w hSw; clear hSw; go_simp; try (with_reducible rfl))
    try simp only [Act.put, sA, sZ, sS]
    refine tk 12 ?_ rfl ?_ ?_; rotate_left; focus (intro w hSw; clear hSw; go_simp; try (with_reducible rfl))
    try simp only [Act.put, sA, sZ, sS]
    refine tk 13 ?_ rfl ?_ ?_; rotate_left
    · intro wl hSw
      have hSw : Keep _ wl := hSw
      have k0 : wl.cell? ⟨g5, 0, none⟩ = some (.int .i64 R.lt) := (hSw _ (.tail _ (.tail _ (.tail _ (.tail _ (.head _)))))).1
      have k1 : wl.cell? ⟨g5, 1, none⟩ = some (.int .i64 R.st) := (hSw _ (.tail _ (.tail _ (.tail _ (.tail _ (.tail _ (.head _))))))).1
      have k2 : wl.cell? ⟨g5, 2, none⟩ = some (.slice y.A y.n y.c) := (hSw _ (.tail _ (.tail _ (.tail _ (.tail _ (.tail _ (.tail _ (.head _)))))))).1
      have k3 : wl.cell? ⟨g5, 3, none⟩ = some (.slice y.B y.m y.d) := (hSw _ (.tail _ (.tail _ (.tail _ (.tail _ (.tail _ (.tail _ (.tail _ (.head _))))))))).1
      clear hSw
      go_simp
      try (with_reducible rfl)
    try simp only [Act.put, sA, sZ, sS]
    refine tk 14 ?_ rfl ?_ ?_; rotate_left; focus (intro w hSw; clear hSw; go_simp; try (with_reducible rfl))
    try simp only [Act.put, sA, sZ, sS]
    refine tk 16 ?_ rfl ?_ ?_; rotate_left
    · intro wl hSw
      have hSw : Keep _ wl := hSw
      have k0 : wl.cell? ⟨w.heap.size, 0, none⟩ = some (.int .i64 A.lt) := (hSw _ (.tail _ (.tail _ (.tail _ (.tail _ (.tail _ (.tail _ (.tail _ (.tail _ (.head _)))))))))).1
      have k1 : wl.cell? ⟨w.heap.size, 1, none⟩ = some (.int .i64 A.st) := (hSw _ (.tail _ (.tail _ (.tail _ (.tail _ (.tail _ (.tail _ (.tail _ (.tail _ (.tail _ (.head _))))))))))).1
      have k2 : wl.cell? ⟨w.heap.size, 2, none⟩ = some (.slice x.A x.n x.c) := (hSw _ (.tail _ (.tail _ (.tail _ (.tail _ (.tail _ (.tail _ (.tail _ (.tail _ (.tail _ (.tail _ (.head _)))))))))))).1
      have k3 : wl.cell? ⟨w.heap.size, 3, none⟩ = some (.slice x.B x.m x.d) := (hSw _ (.tail _ (.tail _ (.tail _ (.tail _ (.tail _ (.tail _ (.tail _ (.tail _ (.tail _ (.tail _ (.tail _ (.head _))))))))))))).1
      clear hSw
      go_simp
      try (with_reducible rfl)
    try simp only [Act.put, sA, sZ, sS]
    refine tk 17 ?_ rfl ?_ ?_; rotate_left; focus (intro w hSw; clear hSw; go_simp; try (with_reducible rfl))
    try simp only [Act.put, sA, sZ, sS]
    refine wpAnyH_ready (rs := [15]) (by kernel_rfl) (by simp) ?_
    refine AllReadyH.cons (List.getElem?_toArray.trans rfl) (fun K hK => ?_) AllReadyH.nil
    go_simp
    refine (accepts_any y R Aw n c L _ M9.out HL.out hn (HW.out.below V_5_9.out.below)).mono ?_
    rintro e w_5_9_15 ⟨rfl, b_5_9_15⟩
    try go_wp2_with fail
    rw [HV1.out]
    have V_5_9_15 := Lib.hid (V_5_9.out.go b_5_9_15)
    refine hK.out _ _ (hHeld.go b_5_9_15) (fun hHeld => ?_)
    clear hK K
    try simp only [Act.put, sA, sZ, sS]
    refine wpAnyH_ready (rs := [18]) (by kernel_rfl) (by simp) ?_
    refine AllReadyH.cons (List.getElem?_toArray.trans rfl) (fun K hK => ?_) AllReadyH.nil
    go_simp
    refine (accepts_any x A Aw n c L _ (HA.out.below V_5_9_15.out.below) HL.out hn (HW.out.below V_5_9_15.out.below)).mono ?_
    rintro e w_5_9_15_18 ⟨rfl, b_5_9_15_18⟩
    try go_wp2_with fail
    rw [HV2.out]
    have V_5_9_15_18 := Lib.hid (V_5_9_15.out.go b_5_9_15_18)
    refine hK.out _ _ (hHeld.go b_5_9_15_18) (fun hHeld => ?_)
    clear hK K
    try simp only [Act.put, sA, sZ, sS]
    refine tk 19 ?_ rfl ?_ ?_; rotate_left; focus (intro w hSw; clear hSw; go_simp; try (with_reducible rfl))
    try simp only [Act.put, sA, sZ, sS]
    refine tk 20 ?_ rfl ?_ ?_; rotate_left; focus (intro w hSw; clear hSw; go_simp; try (with_reducible rfl))
    try simp only [Act.put, sA, sZ, sS]
    refine tk 21 ?_ rfl ?_ ?_; rotate_left; focus (intro w hSw; clear hSw; go_simp; try (with_reducible rfl))
    try simp only [Act.put, sA, sZ, sS]
    refine wpAnyH_done (by kernel_rfl) ?_ _
    go_wp2_with fail
    go_ret
    exact ⟨ret_bool (by cases va <;> rfl), V_5_9_15_18.out.below⟩
end Go.Proofs.Ytbfedfiemkhefaa
