/- What the statement about products answers: true, whatever the input. -/
import Derived.Test.YtbfedfiemkhefaaRq
import Derived.Test.YtbfedfiemkhefaaQz
import Derived.Test.YtbfedfiemkhefaaQy
namespace Go.Proofs.Ytbfedfiemkhefaa
open Go.RowKit
set_option linter.unusedVariables false
set_option linter.unusedSimpArgs false
set_option maxRecDepth 100000

/-- These rows hold the automaton. -/
def Owns (its : List Itm) (y : DV) (R : Au) : Prop := ∀ (W w : World), Hp W its w → DfaIn w y R
theorem Hp.backN {W w : World} {l N : List Itm} (hp : Hp W (l ++ N) w) : Hp W N w :=
  hp.sub (fun i => i + l.length) (fun i j e => by omega) (fun i it hi => by rw [List.getElem?_append_right (by omega), Nat.add_sub_cancel]; exact hi)
def ProdO (A B : Au) (kd : Int) (w : World) (e : Ending) (w' : World) : Prop :=
  ∃ y R er its, e = .returned (.tuple #[dval y R, .int .i64 er]) ∧ ProdR A B kd R er ∧ Owns its y R ∧ Hp w its w'
theorem Hp.none {W w : World} (h : Below W.heap.size W w) : Hp W [] w := ⟨fun i it h => by simp at h, fun i j a b _ h => by simp at h, h⟩
theorem prodO_any (x y : DV) (A B : Au) (kd : Int) (W : World) (hA : DfaIn W x A) (hB : DfaIn W y B) : Calls Try.prog 26 #[dval x A, dval y B, .int .i64 kd] W (ProdO A B kd W) := by
  refine (product_any x y A B kd W hA hB).mono ?_
  rintro e w' ⟨hb, ⟨h1, rfl⟩ | ⟨k, v1, v2, ⟨h2, rfl⟩ | ⟨h2, _, R, hc, hr⟩⟩⟩
  · exact ⟨zV, zA, 1, [], rfl, .inl ⟨h1, rfl, rfl⟩, fun W w _ => zA_in w, Hp.none hb⟩
  · exact ⟨zV, zA, 6, [], rfl, .inr ⟨k, v1, v2, .inl ⟨h2, rfl, rfl⟩⟩, fun W w _ => zA_in w, Hp.none hb⟩
  · rcases hr with ⟨h4, y, rfl, hm, kk, gs, h5, h6, h7, h8⟩ | ⟨h4, rfl⟩
    · exact ⟨y, R, 0, _, rfl, .inr ⟨k, v1, v2, .inr ⟨h2, R, hc, .inl ⟨h4, rfl, rfl⟩⟩⟩, fun W w h => OwnDfa.dfa ⟨kk, gs, h5, h6, h7, h⟩ hm, h8⟩
    · exact ⟨zV, zA, 3, [], rfl, .inr ⟨k, v1, v2, .inr ⟨h2, R, hc, .inr ⟨h4, rfl, rfl⟩⟩⟩, fun W w _ => zA_in w, Hp.none hb⟩
theorem ProdR.er {A B R : Au} {kd er : Int} (h : ProdR A B kd R er) : er = 1 ∨ er = 6 ∨ er = 3 ∨ er = 0 := by
  rcases h with ⟨_, _, h3⟩ | ⟨k, _, _, ⟨_, _, h3⟩ | ⟨_, Q, _, ⟨_, _, h3⟩ | ⟨_, _, h3⟩⟩⟩
  · exact .inl h3
  · exact .inr (.inl h3)
  · exact .inr (.inr (.inr h3))
  · exact .inr (.inr (.inl h3))
theorem ProdR.acc {A B R : Au} {kd : Int} (h : ProdR A B kd R 0) (L : List Int) : (kd = 1 ∨ kd = 2 ∨ kd = 3) ∧ R.accI L = combF kd (A.accI L) (B.accI L) := by
  rcases h with ⟨_, _, h3⟩ | ⟨k, v1, v2, ⟨_, _, h3⟩ | ⟨hk, Q, hc, ⟨h4, rfl, _⟩ | ⟨_, _, h3⟩⟩⟩
  · cases h3
  · cases h3
  · refine ⟨hk, ?_⟩
    have hv : R.Vld k := ⟨hc.right, v1.k8, h4⟩
    by_cases hl : ∀ t ∈ L, 0 ≤ t ∧ t < (k : Int)
    · obtain ⟨u, hu, rfl⟩ := Au.word_nat hl
      rw [v1.accI_nat hu, v2.accI_nat hu, hv.accI_nat hu]
      exact hc.lang u hu
    · rw [v1.accI_bad hl, v2.accI_bad hl, hv.accI_bad hl, combF_no]
  · cases h3
theorem sml_few2 {A B : Au} (h : smlB A B = true) : A.fewB = true ∧ B.fewB = true := by
  unfold smlB at h
  rw [Bool.and_eq_true, Bool.and_eq_true] at h
  exact h.1
set_option maxHeartbeats 64000000 in
theorem lawprod_any (x : DV) (A : Au) (y : DV) (B : Au) (kd : Int) (Aw : Option Addr) (n c : Nat) (L : List Int) (w : World) (hr : DfaIn w x A ∧ DfaIn w y B ∧ L.length = n ∧ n ≤ 17592186044416 ∧ CellsIn w Aw (ints L)) :
    Calls Try.prog 6 #[.agg #[.int .i64 A.lt, .int .i64 A.st, .slice x.A x.n x.c, .slice x.B x.m x.d, .int .i64 B.lt, .int .i64 B.st, .slice y.A y.n y.c, .slice y.B y.m y.d, .int .i64 kd, .slice Aw n c]] w fun e w' => e = .returned (.bool true) ∧ Below w.heap.size w w' := by
  have HA := Lib.hid hr.1
  have HB := Lib.hid hr.2.1
  have HL := Lib.hid hr.2.2.1
  have hn := hr.2.2.2.1
  have HW := Lib.hid hr.2.2.2.2
  clear hr
  by_cases hf : smlB A B = true
  case neg =>
    have HF := Lib.hid (show smlB A B = false by cases e : smlB A B; rfl; exact absurd e hf)
    clear hf
    obtain ⟨wz, hwz⟩ : ∃ z, z = (w.alloc (.cells #[.int .i64 A.lt, .int .i64 A.st, .slice x.A x.n x.c, .slice x.B x.m x.d, .int .i64 B.lt, .int .i64 B.st, .slice y.A y.n y.c, .slice y.B y.m y.d, .int .i64 kd, .slice Aw n c] 49)) := ⟨_, rfl⟩
    have V := Lib.hid (show Hp w [box 49 w.heap.size [.int .i64 A.lt, .int .i64 A.st, .slice x.A x.n x.c, .slice x.B x.m x.d, .int .i64 B.lt, .int .i64 B.st, .slice y.A y.n y.c, .slice y.B y.m y.d, .int .i64 kd, .slice Aw n c]] wz by
      have := ((Hp.start w).box_new 49 [.int .i64 A.lt, .int .i64 A.st, .slice x.A x.n x.c, .slice x.B x.m x.d, .int .i64 B.lt, .int .i64 B.st, .slice y.A y.n y.c, .slice y.B y.m y.d, .int .i64 kd, .slice Aw n c])
      rw [hwz]; simpa using this)
    have HZ := Lib.hid hwz
    clear hwz
    go_enter Try.func6, Try.ntmps6
    go_upto_region 1 with fail
    rw [← HZ.out]
    clear HZ
    go_wp2_with fail
    refine (awake_any wz).mono ?_
    rintro e w1 ⟨rfl, b1⟩
    have V1 := Lib.hid (V.out.go b1)
    clear b1 V
    obtain ⟨p0_0, _, p0_x⟩ := V1.out.box_at (i := 0) (j := 0) rfl rfl
    obtain ⟨p0_1, _, _⟩ := V1.out.box_at (i := 0) (j := 1) rfl rfl
    obtain ⟨p0_2, _, _⟩ := V1.out.box_at (i := 0) (j := 2) rfl rfl
    obtain ⟨p0_3, _, _⟩ := V1.out.box_at (i := 0) (j := 3) rfl rfl
    obtain ⟨p0_4, _, _⟩ := V1.out.box_at (i := 0) (j := 4) rfl rfl
    obtain ⟨p0_5, _, _⟩ := V1.out.box_at (i := 0) (j := 5) rfl rfl
    obtain ⟨p0_6, _, _⟩ := V1.out.box_at (i := 0) (j := 6) rfl rfl
    obtain ⟨p0_7, _, _⟩ := V1.out.box_at (i := 0) (j := 7) rfl rfl
    obtain ⟨p0_8, _, _⟩ := V1.out.box_at (i := 0) (j := 8) rfl rfl
    obtain ⟨p0_9, _, _⟩ := V1.out.box_at (i := 0) (j := 9) rfl rfl
    go_wp2_with fail
    refine (small_any x y A B w1 (HA.out.below V1.out.below) (HB.out.below V1.out.below)).mono ?_
    rintro e w2 ⟨rfl, b2⟩
    rw [HF.out]
    have V2 := Lib.hid (V1.out.go b2)
    clear b2 V1 p0_x p0_0 p0_1 p0_2 p0_3 p0_4 p0_5 p0_6 p0_7 p0_8 p0_9
    obtain ⟨p0_0, _, p0_x⟩ := V2.out.box_at (i := 0) (j := 0) rfl rfl
    obtain ⟨p0_1, _, _⟩ := V2.out.box_at (i := 0) (j := 1) rfl rfl
    obtain ⟨p0_2, _, _⟩ := V2.out.box_at (i := 0) (j := 2) rfl rfl
    obtain ⟨p0_3, _, _⟩ := V2.out.box_at (i := 0) (j := 3) rfl rfl
    obtain ⟨p0_4, _, _⟩ := V2.out.box_at (i := 0) (j := 4) rfl rfl
    obtain ⟨p0_5, _, _⟩ := V2.out.box_at (i := 0) (j := 5) rfl rfl
    obtain ⟨p0_6, _, _⟩ := V2.out.box_at (i := 0) (j := 6) rfl rfl
    obtain ⟨p0_7, _, _⟩ := V2.out.box_at (i := 0) (j := 7) rfl rfl
    obtain ⟨p0_8, _, _⟩ := V2.out.box_at (i := 0) (j := 8) rfl rfl
    obtain ⟨p0_9, _, _⟩ := V2.out.box_at (i := 0) (j := 9) rfl rfl
    go_wp2_with fail
    refine (awake_any w2).mono ?_
    rintro e w3 ⟨rfl, b3⟩
    have V3 := Lib.hid (V2.out.go b3)
    go_wp2_with fail
    go_ret
    exact ⟨rfl, V3.out.below⟩
  have HF := Lib.hid hf
  have FA := Lib.hid (sml_few2 hf).1
  have FB := Lib.hid (sml_few2 hf).2
  clear hf
  by_cases hbig : 100 < n
  · obtain ⟨wz, hwz⟩ : ∃ z, z = (w.alloc (.cells #[.int .i64 A.lt, .int .i64 A.st, .slice x.A x.n x.c, .slice x.B x.m x.d, .int .i64 B.lt, .int .i64 B.st, .slice y.A y.n y.c, .slice y.B y.m y.d, .int .i64 kd, .slice Aw n c] 49)) := ⟨_, rfl⟩
    have V := Lib.hid (show Hp w [box 49 w.heap.size [.int .i64 A.lt, .int .i64 A.st, .slice x.A x.n x.c, .slice x.B x.m x.d, .int .i64 B.lt, .int .i64 B.st, .slice y.A y.n y.c, .slice y.B y.m y.d, .int .i64 kd, .slice Aw n c]] wz by
      have := ((Hp.start w).box_new 49 [.int .i64 A.lt, .int .i64 A.st, .slice x.A x.n x.c, .slice x.B x.m x.d, .int .i64 B.lt, .int .i64 B.st, .slice y.A y.n y.c, .slice y.B y.m y.d, .int .i64 kd, .slice Aw n c])
      rw [hwz]; simpa using this)
    have HZ := Lib.hid hwz
    clear hwz
    go_enter Try.func6, Try.ntmps6
    go_upto_region 1 with fail
    rw [← HZ.out]
    clear HZ
    go_wp2_with fail
    refine (awake_any wz).mono ?_
    rintro e w1 ⟨rfl, b1⟩
    have V1 := Lib.hid (V.out.go b1)
    clear b1 V
    obtain ⟨p0_0, _, p0_x⟩ := V1.out.box_at (i := 0) (j := 0) rfl rfl
    obtain ⟨p0_1, _, _⟩ := V1.out.box_at (i := 0) (j := 1) rfl rfl
    obtain ⟨p0_2, _, _⟩ := V1.out.box_at (i := 0) (j := 2) rfl rfl
    obtain ⟨p0_3, _, _⟩ := V1.out.box_at (i := 0) (j := 3) rfl rfl
    obtain ⟨p0_4, _, _⟩ := V1.out.box_at (i := 0) (j := 4) rfl rfl
    obtain ⟨p0_5, _, _⟩ := V1.out.box_at (i := 0) (j := 5) rfl rfl
    obtain ⟨p0_6, _, _⟩ := V1.out.box_at (i := 0) (j := 6) rfl rfl
    obtain ⟨p0_7, _, _⟩ := V1.out.box_at (i := 0) (j := 7) rfl rfl
    obtain ⟨p0_8, _, _⟩ := V1.out.box_at (i := 0) (j := 8) rfl rfl
    obtain ⟨p0_9, _, _⟩ := V1.out.box_at (i := 0) (j := 9) rfl rfl
    go_wp2_with fail
    refine (small_any x y A B w1 (HA.out.below V1.out.below) (HB.out.below V1.out.below)).mono ?_
    rintro e w2 ⟨rfl, b2⟩
    rw [HF.out]
    have V2 := Lib.hid (V1.out.go b2)
    clear b2 V1 p0_x p0_0 p0_1 p0_2 p0_3 p0_4 p0_5 p0_6 p0_7 p0_8 p0_9
    obtain ⟨p0_0, _, p0_x⟩ := V2.out.box_at (i := 0) (j := 0) rfl rfl
    obtain ⟨p0_1, _, _⟩ := V2.out.box_at (i := 0) (j := 1) rfl rfl
    obtain ⟨p0_2, _, _⟩ := V2.out.box_at (i := 0) (j := 2) rfl rfl
    obtain ⟨p0_3, _, _⟩ := V2.out.box_at (i := 0) (j := 3) rfl rfl
    obtain ⟨p0_4, _, _⟩ := V2.out.box_at (i := 0) (j := 4) rfl rfl
    obtain ⟨p0_5, _, _⟩ := V2.out.box_at (i := 0) (j := 5) rfl rfl
    obtain ⟨p0_6, _, _⟩ := V2.out.box_at (i := 0) (j := 6) rfl rfl
    obtain ⟨p0_7, _, _⟩ := V2.out.box_at (i := 0) (j := 7) rfl rfl
    obtain ⟨p0_8, _, _⟩ := V2.out.box_at (i := 0) (j := 8) rfl rfl
    obtain ⟨p0_9, _, _⟩ := V2.out.box_at (i := 0) (j := 9) rfl rfl
    go_wp2_with fail
    refine (awake_any w2).mono ?_
    rintro e w3 ⟨rfl, b3⟩
    have V3 := Lib.hid (V2.out.go b3)
    go_wp2_with fail
    go_ret
    exact ⟨rfl, V3.out.below⟩
  have hn1 : n ≤ 100 := by omega
  obtain ⟨wz, hwz⟩ : ∃ z, z = (w.alloc (.cells #[.int .i64 A.lt, .int .i64 A.st, .slice x.A x.n x.c, .slice x.B x.m x.d, .int .i64 B.lt, .int .i64 B.st, .slice y.A y.n y.c, .slice y.B y.m y.d, .int .i64 kd, .slice Aw n c] 49)) := ⟨_, rfl⟩
  have V := Lib.hid (show Hp w [box 49 w.heap.size [.int .i64 A.lt, .int .i64 A.st, .slice x.A x.n x.c, .slice x.B x.m x.d, .int .i64 B.lt, .int .i64 B.st, .slice y.A y.n y.c, .slice y.B y.m y.d, .int .i64 kd, .slice Aw n c]] wz by
    have := ((Hp.start w).box_new 49 [.int .i64 A.lt, .int .i64 A.st, .slice x.A x.n x.c, .slice x.B x.m x.d, .int .i64 B.lt, .int .i64 B.st, .slice y.A y.n y.c, .slice y.B y.m y.d, .int .i64 kd, .slice Aw n c])
    rw [hwz]; simpa using this)
  have HZ := Lib.hid hwz
  clear hwz
  go_enter Try.func6, Try.ntmps6
  go_upto_region 1 with fail
  rw [← HZ.out]
  clear HZ
  go_wp2_with fail
  refine (awake_any wz).mono ?_
  rintro e w1 ⟨rfl, b1⟩
  have V1 := Lib.hid (V.out.go b1)
  clear b1 V
  obtain ⟨p0_0, _, p0_x⟩ := V1.out.box_at (i := 0) (j := 0) rfl rfl
  obtain ⟨p0_1, _, _⟩ := V1.out.box_at (i := 0) (j := 1) rfl rfl
  obtain ⟨p0_2, _, _⟩ := V1.out.box_at (i := 0) (j := 2) rfl rfl
  obtain ⟨p0_3, _, _⟩ := V1.out.box_at (i := 0) (j := 3) rfl rfl
  obtain ⟨p0_4, _, _⟩ := V1.out.box_at (i := 0) (j := 4) rfl rfl
  obtain ⟨p0_5, _, _⟩ := V1.out.box_at (i := 0) (j := 5) rfl rfl
  obtain ⟨p0_6, _, _⟩ := V1.out.box_at (i := 0) (j := 6) rfl rfl
  obtain ⟨p0_7, _, _⟩ := V1.out.box_at (i := 0) (j := 7) rfl rfl
  obtain ⟨p0_8, _, _⟩ := V1.out.box_at (i := 0) (j := 8) rfl rfl
  obtain ⟨p0_9, _, _⟩ := V1.out.box_at (i := 0) (j := 9) rfl rfl
  go_wp2_with fail
  refine (small_any x y A B w1 (HA.out.below V1.out.below) (HB.out.below V1.out.below)).mono ?_
  rintro e w2 ⟨rfl, b2⟩
  rw [HF.out]
  have V2 := Lib.hid (V1.out.go b2)
  clear b2 V1 p0_x p0_0 p0_1 p0_2 p0_3 p0_4 p0_5 p0_6 p0_7 p0_8 p0_9
  obtain ⟨p0_0, _, p0_x⟩ := V2.out.box_at (i := 0) (j := 0) rfl rfl
  obtain ⟨p0_1, _, _⟩ := V2.out.box_at (i := 0) (j := 1) rfl rfl
  obtain ⟨p0_2, _, _⟩ := V2.out.box_at (i := 0) (j := 2) rfl rfl
  obtain ⟨p0_3, _, _⟩ := V2.out.box_at (i := 0) (j := 3) rfl rfl
  obtain ⟨p0_4, _, _⟩ := V2.out.box_at (i := 0) (j := 4) rfl rfl
  obtain ⟨p0_5, _, _⟩ := V2.out.box_at (i := 0) (j := 5) rfl rfl
  obtain ⟨p0_6, _, _⟩ := V2.out.box_at (i := 0) (j := 6) rfl rfl
  obtain ⟨p0_7, _, _⟩ := V2.out.box_at (i := 0) (j := 7) rfl rfl
  obtain ⟨p0_8, _, _⟩ := V2.out.box_at (i := 0) (j := 8) rfl rfl
  obtain ⟨p0_9, _, _⟩ := V2.out.box_at (i := 0) (j := 9) rfl rfl
  go_upto_region 3 with fail
  clear p0_x p0_0 p0_1 p0_2 p0_3 p0_4 p0_5 p0_6 p0_7 p0_8 p0_9
  go_cut [3, 4] (fun r3 r4 wy => ∃ g5 yr R er its, r3 = .pointer (some ⟨g5, 0, none⟩) ∧ r4 = .int .i64 er ∧ ProdR A B kd R er ∧ Owns its yr R ∧ Hp w ([box 25 g5 [.int .i64 R.lt, .int .i64 R.st, .slice yr.A yr.n yr.c, .slice yr.B yr.m yr.d], box 49 w.heap.size [.int .i64 A.lt, .int .i64 A.st, .slice x.A x.n x.c, .slice x.B x.m x.d, .int .i64 B.lt, .int .i64 B.st, .slice y.A y.n y.c, .slice y.B y.m y.d, .int .i64 kd, .slice Aw n c]] ++ its) wy)
  case first =>
    have hKp : Keep [(⟨w.heap.size, 0, none⟩, .int .i64 A.lt), (⟨w.heap.size, 1, none⟩, .int .i64 A.st), (⟨w.heap.size, 2, none⟩, .slice x.A x.n x.c), (⟨w.heap.size, 3, none⟩, .slice x.B x.m x.d), (⟨w.heap.size, 4, none⟩, .int .i64 B.lt), (⟨w.heap.size, 5, none⟩, .int .i64 B.st), (⟨w.heap.size, 6, none⟩, .slice y.A y.n y.c), (⟨w.heap.size, 7, none⟩, .slice y.B y.m y.d), (⟨w.heap.size, 8, none⟩, .int .i64 kd), (⟨w.heap.size, 9, none⟩, .slice Aw n c)] w2 := List.forall_mem_cons.2 ⟨⟨(V2.out.box_at (i := 0) (j := 0) rfl rfl).1, (V2.out.box_at (i := 0) (j := 0) rfl rfl).2.2⟩, List.forall_mem_cons.2 ⟨⟨(V2.out.box_at (i := 0) (j := 1) rfl rfl).1, (V2.out.box_at (i := 0) (j := 1) rfl rfl).2.2⟩, List.forall_mem_cons.2 ⟨⟨(V2.out.box_at (i := 0) (j := 2) rfl rfl).1, (V2.out.box_at (i := 0) (j := 2) rfl rfl).2.2⟩, List.forall_mem_cons.2 ⟨⟨(V2.out.box_at (i := 0) (j := 3) rfl rfl).1, (V2.out.box_at (i := 0) (j := 3) rfl rfl).2.2⟩, List.forall_mem_cons.2 ⟨⟨(V2.out.box_at (i := 0) (j := 4) rfl rfl).1, (V2.out.box_at (i := 0) (j := 4) rfl rfl).2.2⟩, List.forall_mem_cons.2 ⟨⟨(V2.out.box_at (i := 0) (j := 5) rfl rfl).1, (V2.out.box_at (i := 0) (j := 5) rfl rfl).2.2⟩, List.forall_mem_cons.2 ⟨⟨(V2.out.box_at (i := 0) (j := 6) rfl rfl).1, (V2.out.box_at (i := 0) (j := 6) rfl rfl).2.2⟩, List.forall_mem_cons.2 ⟨⟨(V2.out.box_at (i := 0) (j := 7) rfl rfl).1, (V2.out.box_at (i := 0) (j := 7) rfl rfl).2.2⟩, List.forall_mem_cons.2 ⟨⟨(V2.out.box_at (i := 0) (j := 8) rfl rfl).1, (V2.out.box_at (i := 0) (j := 8) rfl rfl).2.2⟩, List.forall_mem_cons.2 ⟨⟨(V2.out.box_at (i := 0) (j := 9) rfl rfl).1, (V2.out.box_at (i := 0) (j := 9) rfl rfl).2.2⟩, fun _ h => by simp at h⟩⟩⟩⟩⟩⟩⟩⟩⟩⟩
    refine wp_region_held_drew (S := Keep _) (by kernel_rfl) hKp.drew (fun hHeld => ?_)
    have V2d := Lib.hid (V2.out.go (bdrew _))
    refine tk 0 ?_ rfl ?_ ?_; rotate_left; focus (intro w hSw; clear hSw; go_simp; try (with_reducible rfl))
    try simp only [Act.put, sA, sZ, sS]
    refine tk 1 ?_ rfl ?_ ?_; rotate_left
    · intro wl hSw
      have hSw : Keep _ wl := hSw
      have k0 : wl.cell? ⟨w.heap.size, 0, none⟩ = some (.int .i64 A.lt) := (hSw _ (.head _)).1
      have k1 : wl.cell? ⟨w.heap.size, 1, none⟩ = some (.int .i64 A.st) := (hSw _ (.tail _ (.head _))).1
      have k2 : wl.cell? ⟨w.heap.size, 2, none⟩ = some (.slice x.A x.n x.c) := (hSw _ (.tail _ (.tail _ (.head _)))).1
      have k3 : wl.cell? ⟨w.heap.size, 3, none⟩ = some (.slice x.B x.m x.d) := (hSw _ (.tail _ (.tail _ (.tail _ (.head _))))).1
      clear hSw
      go_simp
      try (with_reducible rfl)
    try simp only [Act.put, sA, sZ, sS]
    refine tk 3 ?_ rfl ?_ ?_; rotate_left; focus (intro w hSw; clear hSw; go_simp; try (with_reducible rfl))
    try simp only [Act.put, sA, sZ, sS]
    refine tk 4 ?_ rfl ?_ ?_; rotate_left
    · intro wl hSw
      have hSw : Keep _ wl := hSw
      have k0 : wl.cell? ⟨w.heap.size, 4, none⟩ = some (.int .i64 B.lt) := (hSw _ (.tail _ (.tail _ (.tail _ (.tail _ (.head _)))))).1
      have k1 : wl.cell? ⟨w.heap.size, 5, none⟩ = some (.int .i64 B.st) := (hSw _ (.tail _ (.tail _ (.tail _ (.tail _ (.tail _ (.head _))))))).1
      have k2 : wl.cell? ⟨w.heap.size, 6, none⟩ = some (.slice y.A y.n y.c) := (hSw _ (.tail _ (.tail _ (.tail _ (.tail _ (.tail _ (.tail _ (.head _)))))))).1
      have k3 : wl.cell? ⟨w.heap.size, 7, none⟩ = some (.slice y.B y.m y.d) := (hSw _ (.tail _ (.tail _ (.tail _ (.tail _ (.tail _ (.tail _ (.tail _ (.head _))))))))).1
      clear hSw
      go_simp
      try (with_reducible rfl)
    try simp only [Act.put, sA, sZ, sS]
    refine tk 6 ?_ rfl ?_ ?_; rotate_left; focus (intro w hSw; clear hSw; go_simp; try (with_reducible rfl))
    try simp only [Act.put, sA, sZ, sS]
    refine tk 7 ?_ rfl ?_ ?_; rotate_left
    · intro wl hSw
      have hSw : Keep _ wl := hSw
      have k0 : wl.cell? ⟨w.heap.size, 8, none⟩ = some (.int .i64 kd) := (hSw _ (.tail _ (.tail _ (.tail _ (.tail _ (.tail _ (.tail _ (.tail _ (.tail _ (.head _)))))))))).1
      clear hSw
      go_simp
      try (with_reducible rfl)
    try simp only [Act.put, sA, sZ, sS]
    refine wpAnyH_ready (rs := [2, 12]) (by kernel_rfl) (by simp) ?_
    refine AllReadyH.cons (List.getElem?_toArray.trans rfl) (fun K hK => ?_) ?_
    · go_simp
      refine (copied_any x A _ (HA.out.below V2d.out.below) FA.out).mono ?_
      rintro e w_2 ⟨ya, rfl, hya, b_2⟩
      try go_wp2_with fail
      have Dya := Lib.hid hya
      clear hya
      have V_2 := Lib.hid (V2d.out.go b_2)
      have DA1 := Lib.hid Dya.out
      refine hK.out _ _ (hHeld.go b_2) (fun hHeld => ?_)
      clear hK K
      try simp only [Act.put, sA, sZ, sS]
      refine wpAnyH_ready (rs := [5, 12]) (by kernel_rfl) (by simp) ?_
      refine AllReadyH.cons (List.getElem?_toArray.trans rfl) (fun K hK => ?_) ?_
      · go_simp
        refine (copied_any y B _ (HB.out.below V_2.out.below) FB.out).mono ?_
        rintro e w_2_5 ⟨yb, rfl, hyb, b_2_5⟩
        try go_wp2_with fail
        have Dyb := Lib.hid hyb
        clear hyb
        have V_2_5 := Lib.hid (V_2.out.go b_2_5)
        refine hK.out _ _ (hHeld.go b_2_5) (fun hHeld => ?_)
        clear hK K
        try simp only [Act.put, sA, sZ, sS]
        refine wpAnyH_ready (rs := [8, 12]) (by kernel_rfl) (by simp) ?_
        refine AllReadyH.cons (List.getElem?_toArray.trans rfl) (fun K hK => ?_) ?_
        · go_simp
          refine (prodO_any ya yb A B kd _ (Dya.out.below b_2_5) (Dyb.out)).mono ?_
          rintro e w_2_5_8 ⟨yr, R, er, its, rfl, hpr, hown, hp_2_5_8⟩
          have b_2_5_8 := hp_2_5_8.below
          try go_wp2_with fail
          have HPR := Lib.hid hpr
          have HOW := Lib.hid hown
          have V_2_5_8 := Lib.hid (show Hp w ([box 49 w.heap.size [.int .i64 A.lt, .int .i64 A.st, .slice x.A x.n x.c, .slice x.B x.m x.d, .int .i64 B.lt, .int .i64 B.st, .slice y.A y.n y.c, .slice y.B y.m y.d, .int .i64 kd, .slice Aw n c]] ++ its) w_2_5_8 from (V_2_5.out.join hp_2_5_8).comm)
          clear hpr hown hp_2_5_8
          refine hK.out _ _ (hHeld.go b_2_5_8) (fun hHeld => ?_)
          clear hK K
          try simp only [Act.put, sA, sZ, sS]
          refine tk 9 ?_ rfl ?_ ?_; rotate_left; focus (intro w hSw; clear hSw; go_simp; try (with_reducible rfl))
          try simp only [Act.put, sA, sZ, sS]
          refine tk 10 ?_ rfl ?_ ?_; rotate_left; focus (intro w hSw; clear hSw; go_simp; try (with_reducible rfl))
          try simp only [Act.put, sA, sZ, sS]
          refine tk 11 ?_ rfl ?_ ?_; rotate_left; focus (intro w hSw; clear hSw; go_simp; try (with_reducible rfl))
          try simp only [Act.put, sA, sZ, sS]
          refine wpAnyH_ready (rs := [12]) (by kernel_rfl) (by simp) ?_
          refine AllReadyH.cons (List.getElem?_toArray.trans rfl) (fun K hK => ?_) AllReadyH.nil
          obtain ⟨w_2_5_8_12, hw_2_5_8_12⟩ : ∃ zz, zz = (w_2_5_8.alloc (.cells #[.int .i64 0, .int .i64 0, .slice none 0 0, .slice none 0 0] 25)) := ⟨_, rfl⟩
          have V_2_5_8_12 := Lib.hid (show Hp w (box 25 w_2_5_8.heap.size [.int .i64 0, .int .i64 0, .slice none 0 0, .slice none 0 0] :: _) w_2_5_8_12 by rw [hw_2_5_8_12]; exact V_2_5_8.out.box_new 25 [.int .i64 0, .int .i64 0, .slice none 0 0, .slice none 0 0])
          have Bw_2_5_8_12 := Lib.hid (show Below w_2_5_8.heap.size w_2_5_8 w_2_5_8_12 by rw [hw_2_5_8_12]; exact bnew _ _)
          have B_2_5_8_12 := Bw_2_5_8_12
          go_simp
          rw [← hw_2_5_8_12]
          clear hw_2_5_8_12
          refine hK.out _ _ (hHeld.go Bw_2_5_8_12.out) (fun hHeld => ?_)
          clear hK K
          try simp only [Act.put, sA, sZ, sS]
          refine wpAnyH_ready (rs := [13]) (by kernel_rfl) (by simp) ?_
          refine AllReadyH.cons (List.getElem?_toArray.trans rfl) (fun K hK => ?_) AllReadyH.nil
          obtain ⟨r0, o0, z0⟩ := V_2_5_8_12.out.box_at (i := 0) (j := 0) rfl rfl
          obtain ⟨r1, o1, z1⟩ := V_2_5_8_12.out.box_at (i := 0) (j := 1) rfl rfl
          obtain ⟨r2, o2, z2⟩ := V_2_5_8_12.out.box_at (i := 0) (j := 2) rfl rfl
          obtain ⟨r3, o3, z3⟩ := V_2_5_8_12.out.box_at (i := 0) (j := 3) rfl rfl
          have VE := Lib.hid ((((V_2_5_8_12.out.box_set (i := 0) rfl 0 (.int .i64 R.lt)).box_set (i := 0) rfl 1 (.int .i64 R.st)).box_set (i := 0) rfl 2 (.slice yr.A yr.n yr.c)).box_set (i := 0) rfl 3 (.slice yr.B yr.m yr.d))
          have KPE := Lib.hid (show Keep [(⟨w.heap.size, 0, none⟩, .int .i64 A.lt), (⟨w.heap.size, 1, none⟩, .int .i64 A.st), (⟨w.heap.size, 2, none⟩, .slice x.A x.n x.c), (⟨w.heap.size, 3, none⟩, .slice x.B x.m x.d), (⟨w.heap.size, 4, none⟩, .int .i64 B.lt), (⟨w.heap.size, 5, none⟩, .int .i64 B.st), (⟨w.heap.size, 6, none⟩, .slice y.A y.n y.c), (⟨w.heap.size, 7, none⟩, .slice y.B y.m y.d), (⟨w.heap.size, 8, none⟩, .int .i64 kd), (⟨w.heap.size, 9, none⟩, .slice Aw n c)] _ from List.forall_mem_cons.2 ⟨(have z := VE.out.box_at (i := 1) (j := 0) rfl rfl; ⟨z.1, z.2.2⟩), List.forall_mem_cons.2 ⟨(have z := VE.out.box_at (i := 1) (j := 1) rfl rfl; ⟨z.1, z.2.2⟩), List.forall_mem_cons.2 ⟨(have z := VE.out.box_at (i := 1) (j := 2) rfl rfl; ⟨z.1, z.2.2⟩), List.forall_mem_cons.2 ⟨(have z := VE.out.box_at (i := 1) (j := 3) rfl rfl; ⟨z.1, z.2.2⟩), List.forall_mem_cons.2 ⟨(have z := VE.out.box_at (i := 1) (j := 4) rfl rfl; ⟨z.1, z.2.2⟩), List.forall_mem_cons.2 ⟨(have z := VE.out.box_at (i := 1) (j := 5) rfl rfl; ⟨z.1, z.2.2⟩), List.forall_mem_cons.2 ⟨(have z := VE.out.box_at (i := 1) (j := 6) rfl rfl; ⟨z.1, z.2.2⟩), List.forall_mem_cons.2 ⟨(have z := VE.out.box_at (i := 1) (j := 7) rfl rfl; ⟨z.1, z.2.2⟩), List.forall_mem_cons.2 ⟨(have z := VE.out.box_at (i := 1) (j := 8) rfl rfl; ⟨z.1, z.2.2⟩), List.forall_mem_cons.2 ⟨(have z := VE.out.box_at (i := 1) (j := 9) rfl rfl; ⟨z.1, z.2.2⟩), fun _ h => by simp at h⟩⟩⟩⟩⟩⟩⟩⟩⟩⟩)
          go_simp
          refine hK.out _ _ (KPE.out) (fun hHeld => ?_)
          clear hK K
          try simp only [Act.put, sA, sZ, sS]
          refine tk 14 ?_ rfl ?_ ?_; rotate_left; focus (intro w hSw; clear hSw; go_simp; try (with_reducible rfl))
          try simp only [Act.put, sA, sZ, sS]
          refine wpAnyH_done (by kernel_rfl) ?_ _
          go_wp2_with fail
          go_meet
          exact ⟨_, yr, R, er, its, rfl, rfl, HPR.out, HOW.out, VE.out⟩
        refine AllReadyH.cons (List.getElem?_toArray.trans rfl) (fun K hK => ?_) ?_
        · obtain ⟨w_2_5_12, hw_2_5_12⟩ : ∃ zz, zz = (w_2_5.alloc (.cells #[.int .i64 0, .int .i64 0, .slice none 0 0, .slice none 0 0] 25)) := ⟨_, rfl⟩
          have V_2_5_12 := Lib.hid (show Hp w (box 25 w_2_5.heap.size [.int .i64 0, .int .i64 0, .slice none 0 0, .slice none 0 0] :: _) w_2_5_12 by rw [hw_2_5_12]; exact V_2_5.out.box_new 25 [.int .i64 0, .int .i64 0, .slice none 0 0, .slice none 0 0])
          have Bw_2_5_12 := Lib.hid (show Below w_2_5.heap.size w_2_5 w_2_5_12 by rw [hw_2_5_12]; exact bnew _ _)
          have B_2_5_12 := Bw_2_5_12
          go_simp
          rw [← hw_2_5_12]
          clear hw_2_5_12
          refine hK.out _ _ (hHeld.go Bw_2_5_12.out) (fun hHeld => ?_)
          clear hK K
          try simp only [Act.put, sA, sZ, sS]
          refine wpAnyH_ready (rs := [8]) (by kernel_rfl) (by simp) ?_
          refine AllReadyH.cons (List.getElem?_toArray.trans rfl) (fun K hK => ?_) AllReadyH.nil
          go_simp
          refine (prodO_any ya yb A B kd _ (Dya.out.below (btwo b_2_5 B_2_5_12.out)) (Dyb.out.below B_2_5_12.out)).mono ?_
          rintro e w_2_5_12_8 ⟨yr, R, er, its, rfl, hpr, hown, hp_2_5_12_8⟩
          have b_2_5_12_8 := hp_2_5_12_8.below
          try go_wp2_with fail
          have HPR := Lib.hid hpr
          have HOW := Lib.hid hown
          have V_2_5_12_8 := Lib.hid (show Hp w ([box 25 w_2_5.heap.size [.int .i64 0, .int .i64 0, .slice none 0 0, .slice none 0 0], box 49 w.heap.size [.int .i64 A.lt, .int .i64 A.st, .slice x.A x.n x.c, .slice x.B x.m x.d, .int .i64 B.lt, .int .i64 B.st, .slice y.A y.n y.c, .slice y.B y.m y.d, .int .i64 kd, .slice Aw n c]] ++ its) w_2_5_12_8 from (V_2_5_12.out.join hp_2_5_12_8).comm)
          clear hpr hown hp_2_5_12_8
          refine hK.out _ _ (hHeld.go b_2_5_12_8) (fun hHeld => ?_)
          clear hK K
          try simp only [Act.put, sA, sZ, sS]
          refine tk 9 ?_ rfl ?_ ?_; rotate_left; focus (intro w hSw; clear hSw; go_simp; try (with_reducible rfl))
          try simp only [Act.put, sA, sZ, sS]
          refine tk 10 ?_ rfl ?_ ?_; rotate_left; focus (intro w hSw; clear hSw; go_simp; try (with_reducible rfl))
          try simp only [Act.put, sA, sZ, sS]
          refine tk 11 ?_ rfl ?_ ?_; rotate_left; focus (intro w hSw; clear hSw; go_simp; try (with_reducible rfl))
          try simp only [Act.put, sA, sZ, sS]
          refine wpAnyH_ready (rs := [13]) (by kernel_rfl) (by simp) ?_
          refine AllReadyH.cons (List.getElem?_toArray.trans rfl) (fun K hK => ?_) AllReadyH.nil
          obtain ⟨r0, o0, z0⟩ := V_2_5_12_8.out.box_at (i := 0) (j := 0) rfl rfl
          obtain ⟨r1, o1, z1⟩ := V_2_5_12_8.out.box_at (i := 0) (j := 1) rfl rfl
          obtain ⟨r2, o2, z2⟩ := V_2_5_12_8.out.box_at (i := 0) (j := 2) rfl rfl
          obtain ⟨r3, o3, z3⟩ := V_2_5_12_8.out.box_at (i := 0) (j := 3) rfl rfl
          have VE := Lib.hid ((((V_2_5_12_8.out.box_set (i := 0) rfl 0 (.int .i64 R.lt)).box_set (i := 0) rfl 1 (.int .i64 R.st)).box_set (i := 0) rfl 2 (.slice yr.A yr.n yr.c)).box_set (i := 0) rfl 3 (.slice yr.B yr.m yr.d))
          have KPE := Lib.hid (show Keep [(⟨w.heap.size, 0, none⟩, .int .i64 A.lt), (⟨w.heap.size, 1, none⟩, .int .i64 A.st), (⟨w.heap.size, 2, none⟩, .slice x.A x.n x.c), (⟨w.heap.size, 3, none⟩, .slice x.B x.m x.d), (⟨w.heap.size, 4, none⟩, .int .i64 B.lt), (⟨w.heap.size, 5, none⟩, .int .i64 B.st), (⟨w.heap.size, 6, none⟩, .slice y.A y.n y.c), (⟨w.heap.size, 7, none⟩, .slice y.B y.m y.d), (⟨w.heap.size, 8, none⟩, .int .i64 kd), (⟨w.heap.size, 9, none⟩, .slice Aw n c)] _ from List.forall_mem_cons.2 ⟨(have z := VE.out.box_at (i := 1) (j := 0) rfl rfl; ⟨z.1, z.2.2⟩), List.forall_mem_cons.2 ⟨(have z := VE.out.box_at (i := 1) (j := 1) rfl rfl; ⟨z.1, z.2.2⟩), List.forall_mem_cons.2 ⟨(have z := VE.out.box_at (i := 1) (j := 2) rfl rfl; ⟨z.1, z.2.2⟩), List.forall_mem_cons.2 ⟨(have z := VE.out.box_at (i := 1) (j := 3) rfl rfl; ⟨z.1, z.2.2⟩), List.forall_mem_cons.2 ⟨(have z := VE.out.box_at (i := 1) (j := 4) rfl rfl; ⟨z.1, z.2.2⟩), List.forall_mem_cons.2 ⟨(have z := VE.out.box_at (i := 1) (j := 5) rfl rfl; ⟨z.1, z.2.2⟩), List.forall_mem_cons.2 ⟨(have z := VE.out.box_at (i := 1) (j := 6) rfl rfl; ⟨z.1, z.2.2⟩), List.forall_mem_cons.2 ⟨(have z := VE.out.box_at (i := 1) (j := 7) rfl rfl; ⟨z.1, z.2.2⟩), List.forall_mem_cons.2 ⟨(have z := VE.out.box_at (i := 1) (j := 8) rfl rfl; ⟨z.1, z.2.2⟩), List.forall_mem_cons.2 ⟨(have z := VE.out.box_at (i := 1) (j := 9) rfl rfl; ⟨z.1, z.2.2⟩), fun _ h => by simp at h⟩⟩⟩⟩⟩⟩⟩⟩⟩⟩)
          go_simp
          refine hK.out _ _ (KPE.out) (fun hHeld => ?_)
          clear hK K
          try simp only [Act.put, sA, sZ, sS]
          refine tk 14 ?_ rfl ?_ ?_; rotate_left; focus (intro w hSw; clear hSw; go_simp; try (with_reducible rfl))
          try simp only [Act.put, sA, sZ, sS]
          refine wpAnyH_done (by kernel_rfl) ?_ _
          go_wp2_with fail
          go_meet
          exact ⟨_, yr, R, er, its, rfl, rfl, HPR.out, HOW.out, VE.out⟩
        exact AllReadyH.nil
      refine AllReadyH.cons (List.getElem?_toArray.trans rfl) (fun K hK => ?_) ?_
      · obtain ⟨w_2_12, hw_2_12⟩ : ∃ zz, zz = (w_2.alloc (.cells #[.int .i64 0, .int .i64 0, .slice none 0 0, .slice none 0 0] 25)) := ⟨_, rfl⟩
        have V_2_12 := Lib.hid (show Hp w (box 25 w_2.heap.size [.int .i64 0, .int .i64 0, .slice none 0 0, .slice none 0 0] :: _) w_2_12 by rw [hw_2_12]; exact V_2.out.box_new 25 [.int .i64 0, .int .i64 0, .slice none 0 0, .slice none 0 0])
        have Bw_2_12 := Lib.hid (show Below w_2.heap.size w_2 w_2_12 by rw [hw_2_12]; exact bnew _ _)
        have B_2_12 := Bw_2_12
        go_simp
        rw [← hw_2_12]
        clear hw_2_12
        refine hK.out _ _ (hHeld.go Bw_2_12.out) (fun hHeld => ?_)
        clear hK K
        try simp only [Act.put, sA, sZ, sS]
        refine wpAnyH_ready (rs := [5]) (by kernel_rfl) (by simp) ?_
        refine AllReadyH.cons (List.getElem?_toArray.trans rfl) (fun K hK => ?_) AllReadyH.nil
        go_simp
        refine (copied_any y B _ (HB.out.below V_2_12.out.below) FB.out).mono ?_
        rintro e w_2_12_5 ⟨yb, rfl, hyb, b_2_12_5⟩
        try go_wp2_with fail
        have Dyb := Lib.hid hyb
        clear hyb
        have V_2_12_5 := Lib.hid (V_2_12.out.go b_2_12_5)
        refine hK.out _ _ (hHeld.go b_2_12_5) (fun hHeld => ?_)
        clear hK K
        try simp only [Act.put, sA, sZ, sS]
        refine wpAnyH_ready (rs := [8]) (by kernel_rfl) (by simp) ?_
        refine AllReadyH.cons (List.getElem?_toArray.trans rfl) (fun K hK => ?_) AllReadyH.nil
        go_simp
        refine (prodO_any ya yb A B kd _ (Dya.out.below (btwo B_2_12.out b_2_12_5)) (Dyb.out)).mono ?_
        rintro e w_2_12_5_8 ⟨yr, R, er, its, rfl, hpr, hown, hp_2_12_5_8⟩
        have b_2_12_5_8 := hp_2_12_5_8.below
        try go_wp2_with fail
        have HPR := Lib.hid hpr
        have HOW := Lib.hid hown
        have V_2_12_5_8 := Lib.hid (show Hp w ([box 25 w_2.heap.size [.int .i64 0, .int .i64 0, .slice none 0 0, .slice none 0 0], box 49 w.heap.size [.int .i64 A.lt, .int .i64 A.st, .slice x.A x.n x.c, .slice x.B x.m x.d, .int .i64 B.lt, .int .i64 B.st, .slice y.A y.n y.c, .slice y.B y.m y.d, .int .i64 kd, .slice Aw n c]] ++ its) w_2_12_5_8 from (V_2_12_5.out.join hp_2_12_5_8).comm)
        clear hpr hown hp_2_12_5_8
        refine hK.out _ _ (hHeld.go b_2_12_5_8) (fun hHeld => ?_)
        clear hK K
        try simp only [Act.put, sA, sZ, sS]
        refine tk 9 ?_ rfl ?_ ?_; rotate_left; focus (intro w hSw; clear hSw; go_simp; try (with_reducible rfl))
        try simp only [Act.put, sA, sZ, sS]
        refine tk 10 ?_ rfl ?_ ?_; rotate_left; focus (intro w hSw; clear hSw; go_simp; try (with_reducible rfl))
        try simp only [Act.put, sA, sZ, sS]
        refine tk 11 ?_ rfl ?_ ?_; rotate_left; focus (intro w hSw; clear hSw; go_simp; try (with_reducible rfl))
        try simp only [Act.put, sA, sZ, sS]
        refine wpAnyH_ready (rs := [13]) (by kernel_rfl) (by simp) ?_
        refine AllReadyH.cons (List.getElem?_toArray.trans rfl) (fun K hK => ?_) AllReadyH.nil
        obtain ⟨r0, o0, z0⟩ := V_2_12_5_8.out.box_at (i := 0) (j := 0) rfl rfl
        obtain ⟨r1, o1, z1⟩ := V_2_12_5_8.out.box_at (i := 0) (j := 1) rfl rfl
        obtain ⟨r2, o2, z2⟩ := V_2_12_5_8.out.box_at (i := 0) (j := 2) rfl rfl
        obtain ⟨r3, o3, z3⟩ := V_2_12_5_8.out.box_at (i := 0) (j := 3) rfl rfl
        have VE := Lib.hid ((((V_2_12_5_8.out.box_set (i := 0) rfl 0 (.int .i64 R.lt)).box_set (i := 0) rfl 1 (.int .i64 R.st)).box_set (i := 0) rfl 2 (.slice yr.A yr.n yr.c)).box_set (i := 0) rfl 3 (.slice yr.B yr.m yr.d))
        have KPE := Lib.hid (show Keep [(⟨w.heap.size, 0, none⟩, .int .i64 A.lt), (⟨w.heap.size, 1, none⟩, .int .i64 A.st), (⟨w.heap.size, 2, none⟩, .slice x.A x.n x.c), (⟨w.heap.size, 3, none⟩, .slice x.B x.m x.d), (⟨w.heap.size, 4, none⟩, .int .i64 B.lt), (⟨w.heap.size, 5, none⟩, .int .i64 B.st), (⟨w.heap.size, 6, none⟩, .slice y.A y.n y.c), (⟨w.heap.size, 7, none⟩, .slice y.B y.m y.d), (⟨w.heap.size, 8, none⟩, .int .i64 kd), (⟨w.heap.size, 9, none⟩, .slice Aw n c)] _ from List.forall_mem_cons.2 ⟨(have z := VE.out.box_at (i := 1) (j := 0) rfl rfl; ⟨z.1, z.2.2⟩), List.forall_mem_cons.2 ⟨(have z := VE.out.box_at (i := 1) (j := 1) rfl rfl; ⟨z.1, z.2.2⟩), List.forall_mem_cons.2 ⟨(have z := VE.out.box_at (i := 1) (j := 2) rfl rfl; ⟨z.1, z.2.2⟩), List.forall_mem_cons.2 ⟨(have z := VE.out.box_at (i := 1) (j := 3) rfl rfl; ⟨z.1, z.2.2⟩), List.forall_mem_cons.2 ⟨(have z := VE.out.box_at (i := 1) (j := 4) rfl rfl; ⟨z.1, z.2.2⟩), List.forall_mem_cons.2 ⟨(have z := VE.out.box_at (i := 1) (j := 5) rfl rfl; ⟨z.1, z.2.2⟩), List.forall_mem_cons.2 ⟨(have z := VE.out.box_at (i := 1) (j := 6) rfl rfl; ⟨z.1, z.2.2⟩), List.forall_mem_cons.2 ⟨(have z := VE.out.box_at (i := 1) (j := 7) rfl rfl; ⟨z.1, z.2.2⟩), List.forall_mem_cons.2 ⟨(have z := VE.out.box_at (i := 1) (j := 8) rfl rfl; ⟨z.1, z.2.2⟩), List.forall_mem_cons.2 ⟨(have z := VE.out.box_at (i := 1) (j := 9) rfl rfl; ⟨z.1, z.2.2⟩), fun _ h => by simp at h⟩⟩⟩⟩⟩⟩⟩⟩⟩⟩)
        go_simp
        refine hK.out _ _ (KPE.out) (fun hHeld => ?_)
        clear hK K
        try simp only [Act.put, sA, sZ, sS]
        refine tk 14 ?_ rfl ?_ ?_; rotate_left; focus (intro w hSw; clear hSw; go_simp; try (with_reducible rfl))
        try simp only [Act.put, sA, sZ, sS]
        refine wpAnyH_done (by kernel_rfl) ?_ _
        go_wp2_with fail
        go_meet
        exact ⟨_, yr, R, er, its, rfl, rfl, HPR.out, HOW.out, VE.out⟩
      exact AllReadyH.nil
    refine AllReadyH.cons (List.getElem?_toArray.trans rfl) (fun K hK => ?_) ?_
    · obtain ⟨w_12, hw_12⟩ : ∃ zz, zz = (w2.alloc (.cells #[.int .i64 0, .int .i64 0, .slice none 0 0, .slice none 0 0] 25)).drew := ⟨_, rfl⟩
      have V_12 := Lib.hid (show Hp w (box 25 w2.heap.size [.int .i64 0, .int .i64 0, .slice none 0 0, .slice none 0 0] :: _) w_12 by rw [hw_12]; exact V2d.out.box_new 25 [.int .i64 0, .int .i64 0, .slice none 0 0, .slice none 0 0])
      have Bw_12 := Lib.hid (show Below w2.drew.heap.size w2.drew w_12 by rw [hw_12]; exact bnew _ _)
      have B_12 := Bw_12
      go_simp
      rw [← hw_12]
      clear hw_12
      refine hK.out _ _ (hHeld.go Bw_12.out) (fun hHeld => ?_)
      clear hK K
      try simp only [Act.put, sA, sZ, sS]
      refine wpAnyH_ready (rs := [2]) (by kernel_rfl) (by simp) ?_
      refine AllReadyH.cons (List.getElem?_toArray.trans rfl) (fun K hK => ?_) AllReadyH.nil
      go_simp
      refine (copied_any x A _ (HA.out.below V_12.out.below) FA.out).mono ?_
      rintro e w_12_2 ⟨ya, rfl, hya, b_12_2⟩
      try go_wp2_with fail
      have Dya := Lib.hid hya
      clear hya
      have V_12_2 := Lib.hid (V_12.out.go b_12_2)
      have DA1 := Lib.hid Dya.out
      refine hK.out _ _ (hHeld.go b_12_2) (fun hHeld => ?_)
      clear hK K
      try simp only [Act.put, sA, sZ, sS]
      refine wpAnyH_ready (rs := [5]) (by kernel_rfl) (by simp) ?_
      refine AllReadyH.cons (List.getElem?_toArray.trans rfl) (fun K hK => ?_) AllReadyH.nil
      go_simp
      refine (copied_any y B _ (HB.out.below V_12_2.out.below) FB.out).mono ?_
      rintro e w_12_2_5 ⟨yb, rfl, hyb, b_12_2_5⟩
      try go_wp2_with fail
      have Dyb := Lib.hid hyb
      clear hyb
      have V_12_2_5 := Lib.hid (V_12_2.out.go b_12_2_5)
      refine hK.out _ _ (hHeld.go b_12_2_5) (fun hHeld => ?_)
      clear hK K
      try simp only [Act.put, sA, sZ, sS]
      refine wpAnyH_ready (rs := [8]) (by kernel_rfl) (by simp) ?_
      refine AllReadyH.cons (List.getElem?_toArray.trans rfl) (fun K hK => ?_) AllReadyH.nil
      go_simp
      refine (prodO_any ya yb A B kd _ (Dya.out.below b_12_2_5) (Dyb.out)).mono ?_
      rintro e w_12_2_5_8 ⟨yr, R, er, its, rfl, hpr, hown, hp_12_2_5_8⟩
      have b_12_2_5_8 := hp_12_2_5_8.below
      try go_wp2_with fail
      have HPR := Lib.hid hpr
      have HOW := Lib.hid hown
      have V_12_2_5_8 := Lib.hid (show Hp w ([box 25 w2.heap.size [.int .i64 0, .int .i64 0, .slice none 0 0, .slice none 0 0], box 49 w.heap.size [.int .i64 A.lt, .int .i64 A.st, .slice x.A x.n x.c, .slice x.B x.m x.d, .int .i64 B.lt, .int .i64 B.st, .slice y.A y.n y.c, .slice y.B y.m y.d, .int .i64 kd, .slice Aw n c]] ++ its) w_12_2_5_8 from (V_12_2_5.out.join hp_12_2_5_8).comm)
      clear hpr hown hp_12_2_5_8
      refine hK.out _ _ (hHeld.go b_12_2_5_8) (fun hHeld => ?_)
      clear hK K
      try simp only [Act.put, sA, sZ, sS]
      refine tk 9 ?_ rfl ?_ ?_; rotate_left; focus (intro w hSw; clear hSw; go_simp; try (with_reducible rfl))
      try simp only [Act.put, sA, sZ, sS]
      refine tk 10 ?_ rfl ?_ ?_; rotate_left; focus (intro w hSw; clear hSw; go_simp; try (with_reducible rfl))
      try simp only [Act.put, sA, sZ, sS]
      refine tk 11 ?_ rfl ?_ ?_; rotate_left; focus (intro w hSw; clear hSw; go_simp; try (with_reducible rfl))
      try simp only [Act.put, sA, sZ, sS]
      refine wpAnyH_ready (rs := [13]) (by kernel_rfl) (by simp) ?_
      refine AllReadyH.cons (List.getElem?_toArray.trans rfl) (fun K hK => ?_) AllReadyH.nil
      obtain ⟨r0, o0, z0⟩ := V_12_2_5_8.out.box_at (i := 0) (j := 0) rfl rfl
      obtain ⟨r1, o1, z1⟩ := V_12_2_5_8.out.box_at (i := 0) (j := 1) rfl rfl
      obtain ⟨r2, o2, z2⟩ := V_12_2_5_8.out.box_at (i := 0) (j := 2) rfl rfl
      obtain ⟨r3, o3, z3⟩ := V_12_2_5_8.out.box_at (i := 0) (j := 3) rfl rfl
      have VE := Lib.hid ((((V_12_2_5_8.out.box_set (i := 0) rfl 0 (.int .i64 R.lt)).box_set (i := 0) rfl 1 (.int .i64 R.st)).box_set (i := 0) rfl 2 (.slice yr.A yr.n yr.c)).box_set (i := 0) rfl 3 (.slice yr.B yr.m yr.d))
      have KPE := Lib.hid (show Keep [(⟨w.heap.size, 0, none⟩, .int .i64 A.lt), (⟨w.heap.size, 1, none⟩, .int .i64 A.st), (⟨w.heap.size, 2, none⟩, .slice x.A x.n x.c), (⟨w.heap.size, 3, none⟩, .slice x.B x.m x.d), (⟨w.heap.size, 4, none⟩, .int .i64 B.lt), (⟨w.heap.size, 5, none⟩, .int .i64 B.st), (⟨w.heap.size, 6, none⟩, .slice y.A y.n y.c), (⟨w.heap.size, 7, none⟩, .slice y.B y.m y.d), (⟨w.heap.size, 8, none⟩, .int .i64 kd), (⟨w.heap.size, 9, none⟩, .slice Aw n c)] _ from List.forall_mem_cons.2 ⟨(have z := VE.out.box_at (i := 1) (j := 0) rfl rfl; ⟨z.1, z.2.2⟩), List.forall_mem_cons.2 ⟨(have z := VE.out.box_at (i := 1) (j := 1) rfl rfl; ⟨z.1, z.2.2⟩), List.forall_mem_cons.2 ⟨(have z := VE.out.box_at (i := 1) (j := 2) rfl rfl; ⟨z.1, z.2.2⟩), List.forall_mem_cons.2 ⟨(have z := VE.out.box_at (i := 1) (j := 3) rfl rfl; ⟨z.1, z.2.2⟩), List.forall_mem_cons.2 ⟨(have z := VE.out.box_at (i := 1) (j := 4) rfl rfl; ⟨z.1, z.2.2⟩), List.forall_mem_cons.2 ⟨(have z := VE.out.box_at (i := 1) (j := 5) rfl rfl; ⟨z.1, z.2.2⟩), List.forall_mem_cons.2 ⟨(have z := VE.out.box_at (i := 1) (j := 6) rfl rfl; ⟨z.1, z.2.2⟩), List.forall_mem_cons.2 ⟨(have z := VE.out.box_at (i := 1) (j := 7) rfl rfl; ⟨z.1, z.2.2⟩), List.forall_mem_cons.2 ⟨(have z := VE.out.box_at (i := 1) (j := 8) rfl rfl; ⟨z.1, z.2.2⟩), List.forall_mem_cons.2 ⟨(have z := VE.out.box_at (i := 1) (j := 9) rfl rfl; ⟨z.1, z.2.2⟩), fun _ h => by simp at h⟩⟩⟩⟩⟩⟩⟩⟩⟩⟩)
      go_simp
      refine hK.out _ _ (KPE.out) (fun hHeld => ?_)
      clear hK K
      try simp only [Act.put, sA, sZ, sS]
      refine tk 14 ?_ rfl ?_ ?_; rotate_left; focus (intro w hSw; clear hSw; go_simp; try (with_reducible rfl))
      try simp only [Act.put, sA, sZ, sS]
      refine wpAnyH_done (by kernel_rfl) ?_ _
      go_wp2_with fail
      go_meet
      exact ⟨_, yr, R, er, its, rfl, rfl, HPR.out, HOW.out, VE.out⟩
    exact AllReadyH.nil
  case rest =>
    obtain ⟨g5, yr, R, er, its, rfl, rfl, hpr, hown, hv⟩ := hcut
    have V5 := Lib.hid hv
    have HPR := Lib.hid hpr
    have HOW := Lib.hid hown
    clear hv V2 hpr hown hbig
    obtain ⟨p1_0, _, p1_x⟩ := V5.out.box_at (i := 1) (j := 0) rfl rfl
    obtain ⟨p1_1, _, _⟩ := V5.out.box_at (i := 1) (j := 1) rfl rfl
    obtain ⟨p1_2, _, _⟩ := V5.out.box_at (i := 1) (j := 2) rfl rfl
    obtain ⟨p1_3, _, _⟩ := V5.out.box_at (i := 1) (j := 3) rfl rfl
    obtain ⟨p1_4, _, _⟩ := V5.out.box_at (i := 1) (j := 4) rfl rfl
    obtain ⟨p1_5, _, _⟩ := V5.out.box_at (i := 1) (j := 5) rfl rfl
    obtain ⟨p1_6, _, _⟩ := V5.out.box_at (i := 1) (j := 6) rfl rfl
    obtain ⟨p1_7, _, _⟩ := V5.out.box_at (i := 1) (j := 7) rfl rfl
    obtain ⟨p1_8, _, _⟩ := V5.out.box_at (i := 1) (j := 8) rfl rfl
    obtain ⟨p1_9, _, _⟩ := V5.out.box_at (i := 1) (j := 9) rfl rfl
    go_wp2_with fail
    refine (rprodV_any x y A B kd wc (HA.out.below V5.out.below) (HB.out.below V5.out.below)).mono ?_
    rintro e w6 ⟨yn, S, es, rfl, hms, hd, b6⟩
    obtain ⟨e1, e2⟩ := HPR.out.uniq hms
    subst e1
    subst e2
    have HD6 := Lib.hid hd
    have V6 := Lib.hid (V5.out.go b6)
    clear hms hd b6 V5 p1_x p1_0 p1_1 p1_2 p1_3 p1_4 p1_5 p1_6 p1_7 p1_8 p1_9
    obtain ⟨w7, hw7⟩ : ∃ zz, zz = w6.alloc (.cells #[.int .i64 R.lt, .int .i64 R.st, .slice yn.A yn.n yn.c, .slice yn.B yn.m yn.d] 25) := ⟨_, rfl⟩
    obtain ⟨g7, hg7⟩ : ∃ zz, zz = w6.heap.size := ⟨_, rfl⟩
    have V7 := Lib.hid (show Hp w (box 25 g7 [.int .i64 R.lt, .int .i64 R.st, .slice yn.A yn.n yn.c, .slice yn.B yn.m yn.d] :: ([box 25 g5 [.int .i64 R.lt, .int .i64 R.st, .slice yr.A yr.n yr.c, .slice yr.B yr.m yr.d], box 49 w.heap.size [.int .i64 A.lt, .int .i64 A.st, .slice x.A x.n x.c, .slice x.B x.m x.d, .int .i64 B.lt, .int .i64 B.st, .slice y.A y.n y.c, .slice y.B y.m y.d, .int .i64 kd, .slice Aw n c]] ++ its)) w7 by rw [hw7, hg7]; exact V6.out.box_new 25 [.int .i64 R.lt, .int .i64 R.st, .slice yn.A yn.n yn.c, .slice yn.B yn.m yn.d])
    have HN7 := Lib.hid (HD6.out.below (show Below w6.heap.size w6 w7 by rw [hw7]; exact bnew _ _))
    have HH := Lib.hid hw7
    have HG := Lib.hid hg7
    clear hw7 hg7
    go_upto_region 5 with fail
    rw [← HH.out, ← HG.out]
    clear HH HG V6 HD6
    have HM7 := Lib.hid (HOW.out w w7 (Hp.backN (l := [_, _, _]) V7.out))
    obtain ⟨r0_0, _, r0_9⟩ := V7.out.box_at (i := 0) (j := 0) rfl rfl
    obtain ⟨r0_1, _, _⟩ := V7.out.box_at (i := 0) (j := 1) rfl rfl
    obtain ⟨r0_2, _, _⟩ := V7.out.box_at (i := 0) (j := 2) rfl rfl
    obtain ⟨r0_3, _, _⟩ := V7.out.box_at (i := 0) (j := 3) rfl rfl
    obtain ⟨r1_0, _, r1_9⟩ := V7.out.box_at (i := 1) (j := 0) rfl rfl
    obtain ⟨r1_1, _, _⟩ := V7.out.box_at (i := 1) (j := 1) rfl rfl
    obtain ⟨r1_2, _, _⟩ := V7.out.box_at (i := 1) (j := 2) rfl rfl
    obtain ⟨r1_3, _, _⟩ := V7.out.box_at (i := 1) (j := 3) rfl rfl
    rcases HPR.out.er with rfl | rfl | rfl | rfl
    · go_wp2_with fail
      refine (sameDFA_any yr yn R R w7 HM7.out HN7.out).mono ?_
      rintro e w8 ⟨rfl, b8⟩
      rw [decide_eq_true rfl]
      have V8 := Lib.hid (V7.out.go b8)
      have HN8 := Lib.hid (HN7.out.below b8)
      have HM8 := Lib.hid (HM7.out.below b8)
      clear b8 V7 HN7 HM7 r0_9 r0_0 r0_1 r0_2 r0_3 r1_9 r1_0 r1_1 r1_2 r1_3
      obtain ⟨r0_0, _, r0_9⟩ := V8.out.box_at (i := 0) (j := 0) rfl rfl
      obtain ⟨r0_1, _, _⟩ := V8.out.box_at (i := 0) (j := 1) rfl rfl
      obtain ⟨r0_2, _, _⟩ := V8.out.box_at (i := 0) (j := 2) rfl rfl
      obtain ⟨r0_3, _, _⟩ := V8.out.box_at (i := 0) (j := 3) rfl rfl
      obtain ⟨r1_0, _, r1_9⟩ := V8.out.box_at (i := 1) (j := 0) rfl rfl
      obtain ⟨r1_1, _, _⟩ := V8.out.box_at (i := 1) (j := 1) rfl rfl
      obtain ⟨r1_2, _, _⟩ := V8.out.box_at (i := 1) (j := 2) rfl rfl
      obtain ⟨r1_3, _, _⟩ := V8.out.box_at (i := 1) (j := 3) rfl rfl
      go_wp2_with fail
      refine (sameDFA_any yr yn R R w8 HM8.out HN8.out).mono ?_
      rintro e w9 ⟨rfl, b9⟩
      rw [decide_eq_true rfl]
      have V9 := Lib.hid (V8.out.go b9)
      clear b9 V8 r0_9 r0_0 r0_1 r0_2 r0_3 r1_9 r1_0 r1_1 r1_2 r1_3
      go_wp2_with fail
      go_ret
      exact ⟨rfl, V9.out.below⟩
    · go_wp2_with fail
      refine (sameDFA_any yr yn R R w7 HM7.out HN7.out).mono ?_
      rintro e w8 ⟨rfl, b8⟩
      rw [decide_eq_true rfl]
      have V8 := Lib.hid (V7.out.go b8)
      have HN8 := Lib.hid (HN7.out.below b8)
      have HM8 := Lib.hid (HM7.out.below b8)
      clear b8 V7 HN7 HM7 r0_9 r0_0 r0_1 r0_2 r0_3 r1_9 r1_0 r1_1 r1_2 r1_3
      obtain ⟨r0_0, _, r0_9⟩ := V8.out.box_at (i := 0) (j := 0) rfl rfl
      obtain ⟨r0_1, _, _⟩ := V8.out.box_at (i := 0) (j := 1) rfl rfl
      obtain ⟨r0_2, _, _⟩ := V8.out.box_at (i := 0) (j := 2) rfl rfl
      obtain ⟨r0_3, _, _⟩ := V8.out.box_at (i := 0) (j := 3) rfl rfl
      obtain ⟨r1_0, _, r1_9⟩ := V8.out.box_at (i := 1) (j := 0) rfl rfl
      obtain ⟨r1_1, _, _⟩ := V8.out.box_at (i := 1) (j := 1) rfl rfl
      obtain ⟨r1_2, _, _⟩ := V8.out.box_at (i := 1) (j := 2) rfl rfl
      obtain ⟨r1_3, _, _⟩ := V8.out.box_at (i := 1) (j := 3) rfl rfl
      go_wp2_with fail
      refine (sameDFA_any yr yn R R w8 HM8.out HN8.out).mono ?_
      rintro e w9 ⟨rfl, b9⟩
      rw [decide_eq_true rfl]
      have V9 := Lib.hid (V8.out.go b9)
      clear b9 V8 r0_9 r0_0 r0_1 r0_2 r0_3 r1_9 r1_0 r1_1 r1_2 r1_3
      go_wp2_with fail
      go_ret
      exact ⟨rfl, V9.out.below⟩
    · go_wp2_with fail
      refine (sameDFA_any yr yn R R w7 HM7.out HN7.out).mono ?_
      rintro e w8 ⟨rfl, b8⟩
      rw [decide_eq_true rfl]
      have V8 := Lib.hid (V7.out.go b8)
      have HN8 := Lib.hid (HN7.out.below b8)
      have HM8 := Lib.hid (HM7.out.below b8)
      clear b8 V7 HN7 HM7 r0_9 r0_0 r0_1 r0_2 r0_3 r1_9 r1_0 r1_1 r1_2 r1_3
      obtain ⟨r0_0, _, r0_9⟩ := V8.out.box_at (i := 0) (j := 0) rfl rfl
      obtain ⟨r0_1, _, _⟩ := V8.out.box_at (i := 0) (j := 1) rfl rfl
      obtain ⟨r0_2, _, _⟩ := V8.out.box_at (i := 0) (j := 2) rfl rfl
      obtain ⟨r0_3, _, _⟩ := V8.out.box_at (i := 0) (j := 3) rfl rfl
      obtain ⟨r1_0, _, r1_9⟩ := V8.out.box_at (i := 1) (j := 0) rfl rfl
      obtain ⟨r1_1, _, _⟩ := V8.out.box_at (i := 1) (j := 1) rfl rfl
      obtain ⟨r1_2, _, _⟩ := V8.out.box_at (i := 1) (j := 2) rfl rfl
      obtain ⟨r1_3, _, _⟩ := V8.out.box_at (i := 1) (j := 3) rfl rfl
      go_wp2_with fail
      refine (sameDFA_any yr yn R R w8 HM8.out HN8.out).mono ?_
      rintro e w9 ⟨rfl, b9⟩
      rw [decide_eq_true rfl]
      have V9 := Lib.hid (V8.out.go b9)
      clear b9 V8 r0_9 r0_0 r0_1 r0_2 r0_3 r1_9 r1_0 r1_1 r1_2 r1_3
      go_wp2_with fail
      go_ret
      exact ⟨rfl, V9.out.below⟩
    · obtain ⟨hk3, hacc⟩ := HPR.out.acc L
      have HK3 := Lib.hid hk3
      obtain ⟨va, hva⟩ : ∃ o, o = A.accI L := ⟨_, rfl⟩
      obtain ⟨vb, hvb⟩ : ∃ o, o = B.accI L := ⟨_, rfl⟩
      rw [← hva, ← hvb] at hacc
      have HAC := Lib.hid hacc
      have HVA := Lib.hid hva.symm
      have HVB := Lib.hid hvb.symm
      clear hk3 hacc hva hvb
      go_wp2_with fail
      refine (sameDFA_any yr yn R R w7 HM7.out HN7.out).mono ?_
      rintro e w8 ⟨rfl, b8⟩
      rw [decide_eq_true rfl]
      have V8 := Lib.hid (V7.out.go b8)
      clear b8 V7 HN7 HM7 r0_9 r0_0 r0_1 r0_2 r0_3 r1_9 r1_0 r1_1 r1_2 r1_3
      go_upto_region 7 with fail
      go_cut [7, 8] (fun r7 r8 wy => r7 = .bool va ∧ r8 = .bool vb ∧ Hp w (box 25 g7 [.int .i64 R.lt, .int .i64 R.st, .slice yn.A yn.n yn.c, .slice yn.B yn.m yn.d] :: ([box 25 g5 [.int .i64 R.lt, .int .i64 R.st, .slice yr.A yr.n yr.c, .slice yr.B yr.m yr.d], box 49 w.heap.size [.int .i64 A.lt, .int .i64 A.st, .slice x.A x.n x.c, .slice x.B x.m x.d, .int .i64 B.lt, .int .i64 B.st, .slice y.A y.n y.c, .slice y.B y.m y.d, .int .i64 kd, .slice Aw n c]] ++ its)) wy)
      case first =>
        have hKp : Keep [(⟨w.heap.size, 0, none⟩, .int .i64 A.lt), (⟨w.heap.size, 1, none⟩, .int .i64 A.st), (⟨w.heap.size, 2, none⟩, .slice x.A x.n x.c), (⟨w.heap.size, 3, none⟩, .slice x.B x.m x.d), (⟨w.heap.size, 4, none⟩, .int .i64 B.lt), (⟨w.heap.size, 5, none⟩, .int .i64 B.st), (⟨w.heap.size, 6, none⟩, .slice y.A y.n y.c), (⟨w.heap.size, 7, none⟩, .slice y.B y.m y.d), (⟨w.heap.size, 8, none⟩, .int .i64 kd), (⟨w.heap.size, 9, none⟩, .slice Aw n c)] w8 := List.forall_mem_cons.2 ⟨⟨(V8.out.box_at (i := 2) (j := 0) rfl rfl).1, (V8.out.box_at (i := 2) (j := 0) rfl rfl).2.2⟩, List.forall_mem_cons.2 ⟨⟨(V8.out.box_at (i := 2) (j := 1) rfl rfl).1, (V8.out.box_at (i := 2) (j := 1) rfl rfl).2.2⟩, List.forall_mem_cons.2 ⟨⟨(V8.out.box_at (i := 2) (j := 2) rfl rfl).1, (V8.out.box_at (i := 2) (j := 2) rfl rfl).2.2⟩, List.forall_mem_cons.2 ⟨⟨(V8.out.box_at (i := 2) (j := 3) rfl rfl).1, (V8.out.box_at (i := 2) (j := 3) rfl rfl).2.2⟩, List.forall_mem_cons.2 ⟨⟨(V8.out.box_at (i := 2) (j := 4) rfl rfl).1, (V8.out.box_at (i := 2) (j := 4) rfl rfl).2.2⟩, List.forall_mem_cons.2 ⟨⟨(V8.out.box_at (i := 2) (j := 5) rfl rfl).1, (V8.out.box_at (i := 2) (j := 5) rfl rfl).2.2⟩, List.forall_mem_cons.2 ⟨⟨(V8.out.box_at (i := 2) (j := 6) rfl rfl).1, (V8.out.box_at (i := 2) (j := 6) rfl rfl).2.2⟩, List.forall_mem_cons.2 ⟨⟨(V8.out.box_at (i := 2) (j := 7) rfl rfl).1, (V8.out.box_at (i := 2) (j := 7) rfl rfl).2.2⟩, List.forall_mem_cons.2 ⟨⟨(V8.out.box_at (i := 2) (j := 8) rfl rfl).1, (V8.out.box_at (i := 2) (j := 8) rfl rfl).2.2⟩, List.forall_mem_cons.2 ⟨⟨(V8.out.box_at (i := 2) (j := 9) rfl rfl).1, (V8.out.box_at (i := 2) (j := 9) rfl rfl).2.2⟩, fun _ h => by simp at h⟩⟩⟩⟩⟩⟩⟩⟩⟩⟩
        refine wp_region_held_drew (S := Keep _) (by kernel_rfl) hKp.drew (fun hHeld => ?_)
        have V8d := Lib.hid (V8.out.go (bdrew _))
        refine tk 0 ?_ rfl ?_ ?_; rotate_left; focus (intro w hSw; clear hSw; go_simp; try (with_reducible rfl))
        try simp only [Act.put, sA, sZ, sS]
        refine tk 1 ?_ rfl ?_ ?_; rotate_left
        · intro wl hSw
          have hSw : Keep _ wl := hSw
          have k0 : wl.cell? ⟨w.heap.size, 0, none⟩ = some (.int .i64 A.lt) := (hSw _ (.head _)).1
          have k1 : wl.cell? ⟨w.heap.size, 1, none⟩ = some (.int .i64 A.st) := (hSw _ (.tail _ (.head _))).1
          have k2 : wl.cell? ⟨w.heap.size, 2, none⟩ = some (.slice x.A x.n x.c) := (hSw _ (.tail _ (.tail _ (.head _)))).1
          have k3 : wl.cell? ⟨w.heap.size, 3, none⟩ = some (.slice x.B x.m x.d) := (hSw _ (.tail _ (.tail _ (.tail _ (.head _))))).1
          clear hSw
          go_simp
          try (with_reducible rfl)
        try simp only [Act.put, sA, sZ, sS]
        refine tk 2 ?_ rfl ?_ ?_; rotate_left; focus (intro w hSw; clear hSw; go_simp; try (with_reducible rfl))
        try simp only [Act.put, sA, sZ, sS]
        refine tk 3 ?_ rfl ?_ ?_; rotate_left
        · intro wl hSw
          have hSw : Keep _ wl := hSw
          have k0 : wl.cell? ⟨w.heap.size, 9, none⟩ = some (.slice Aw n c) := (hSw _ (.tail _ (.tail _ (.tail _ (.tail _ (.tail _ (.tail _ (.tail _ (.tail _ (.tail _ (.head _))))))))))).1
          clear hSw
          go_simp
          try (with_reducible rfl)
        try simp only [Act.put, sA, sZ, sS]
        refine tk 5 ?_ rfl ?_ ?_; rotate_left; focus (intro w hSw; clear hSw; go_simp; try (with_reducible rfl))
        try simp only [Act.put, sA, sZ, sS]
        refine tk 6 ?_ rfl ?_ ?_; rotate_left
        · intro wl hSw
          have hSw : Keep _ wl := hSw
          have k0 : wl.cell? ⟨w.heap.size, 4, none⟩ = some (.int .i64 B.lt) := (hSw _ (.tail _ (.tail _ (.tail _ (.tail _ (.head _)))))).1
          have k1 : wl.cell? ⟨w.heap.size, 5, none⟩ = some (.int .i64 B.st) := (hSw _ (.tail _ (.tail _ (.tail _ (.tail _ (.tail _ (.head _))))))).1
          have k2 : wl.cell? ⟨w.heap.size, 6, none⟩ = some (.slice y.A y.n y.c) := (hSw _ (.tail _ (.tail _ (.tail _ (.tail _ (.tail _ (.tail _ (.head _)))))))).1
          have k3 : wl.cell? ⟨w.heap.size, 7, none⟩ = some (.slice y.B y.m y.d) := (hSw _ (.tail _ (.tail _ (.tail _ (.tail _ (.tail _ (.tail _ (.tail _ (.head _))))))))).1
          clear hSw
          go_simp
          try (with_reducible rfl)
        try simp only [Act.put, sA, sZ, sS]
        refine tk 7 ?_ rfl ?_ ?_; rotate_left; focus (intro w hSw; clear hSw; go_simp; try (with_reducible rfl))
        try simp only [Act.put, sA, sZ, sS]
        refine tk 8 ?_ rfl ?_ ?_; rotate_left
        · intro wl hSw
          have hSw : Keep _ wl := hSw
          have k0 : wl.cell? ⟨w.heap.size, 9, none⟩ = some (.slice Aw n c) := (hSw _ (.tail _ (.tail _ (.tail _ (.tail _ (.tail _ (.tail _ (.tail _ (.tail _ (.tail _ (.head _))))))))))).1
          clear hSw
          go_simp
          try (with_reducible rfl)
        try simp only [Act.put, sA, sZ, sS]
        refine wpAnyH_ready (rs := [4]) (by kernel_rfl) (by simp) ?_
        refine AllReadyH.cons (List.getElem?_toArray.trans rfl) (fun K hK => ?_) AllReadyH.nil
        go_simp
        refine (accepts_any x A Aw n c L _ (HA.out.below V8d.out.below) HL.out hn (HW.out.below V8d.out.below)).mono ?_
        rintro e w_4 ⟨rfl, b_4⟩
        try go_wp2_with fail
        rw [HVA.out]
        have V_4 := Lib.hid (V8d.out.go b_4)
        refine hK.out _ _ (hHeld.go b_4) (fun hHeld => ?_)
        clear hK K
        try simp only [Act.put, sA, sZ, sS]
        refine wpAnyH_ready (rs := [9]) (by kernel_rfl) (by simp) ?_
        refine AllReadyH.cons (List.getElem?_toArray.trans rfl) (fun K hK => ?_) AllReadyH.nil
        go_simp
        refine (accepts_any y B Aw n c L _ (HB.out.below V_4.out.below) HL.out hn (HW.out.below V_4.out.below)).mono ?_
        rintro e w_4_9 ⟨rfl, b_4_9⟩
        try go_wp2_with fail
        rw [HVB.out]
        have V_4_9 := Lib.hid (V_4.out.go b_4_9)
        refine hK.out _ _ (hHeld.go b_4_9) (fun hHeld => ?_)
        clear hK K
        try simp only [Act.put, sA, sZ, sS]
        refine tk 10 ?_ rfl ?_ ?_; rotate_left; focus (intro w hSw; clear hSw; go_simp; try (with_reducible rfl))
        try simp only [Act.put, sA, sZ, sS]
        refine tk 11 ?_ rfl ?_ ?_; rotate_left; focus (intro w hSw; clear hSw; go_simp; try (with_reducible rfl))
        try simp only [Act.put, sA, sZ, sS]
        refine wpAnyH_done (by kernel_rfl) ?_ _
        go_wp2_with fail
        go_meet
        exact ⟨rfl, rfl, V_4_9.out⟩
      case rest =>
        obtain ⟨rfl, rfl, hv⟩ := hcut
        have V9 := Lib.hid hv
        clear hv V8
        have HM9 := Lib.hid (HOW.out w _ (Hp.backN (l := [_, _, _]) V9.out))
        obtain ⟨r1_0, _, r1_9⟩ := V9.out.box_at (i := 1) (j := 0) rfl rfl
        obtain ⟨r1_1, _, _⟩ := V9.out.box_at (i := 1) (j := 1) rfl rfl
        obtain ⟨r1_2, _, _⟩ := V9.out.box_at (i := 1) (j := 2) rfl rfl
        obtain ⟨r1_3, _, _⟩ := V9.out.box_at (i := 1) (j := 3) rfl rfl
        obtain ⟨p2_0, _, p2_x⟩ := V9.out.box_at (i := 2) (j := 0) rfl rfl
        obtain ⟨p2_1, _, _⟩ := V9.out.box_at (i := 2) (j := 1) rfl rfl
        obtain ⟨p2_2, _, _⟩ := V9.out.box_at (i := 2) (j := 2) rfl rfl
        obtain ⟨p2_3, _, _⟩ := V9.out.box_at (i := 2) (j := 3) rfl rfl
        obtain ⟨p2_4, _, _⟩ := V9.out.box_at (i := 2) (j := 4) rfl rfl
        obtain ⟨p2_5, _, _⟩ := V9.out.box_at (i := 2) (j := 5) rfl rfl
        obtain ⟨p2_6, _, _⟩ := V9.out.box_at (i := 2) (j := 6) rfl rfl
        obtain ⟨p2_7, _, _⟩ := V9.out.box_at (i := 2) (j := 7) rfl rfl
        obtain ⟨p2_8, _, _⟩ := V9.out.box_at (i := 2) (j := 8) rfl rfl
        obtain ⟨p2_9, _, _⟩ := V9.out.box_at (i := 2) (j := 9) rfl rfl
        clear HA HB HF FA FB HVA HVB HPR HOW
        rcases HK3.out with rfl | rfl | rfl <;> clear HK3 <;> cases va <;> cases vb <;> (
          go_wp2_with fail
          refine (accepts_any yr R Aw n c L _ HM9.out HL.out hn (HW.out.below V9.out.below)).mono ?_
          rintro e w10 ⟨rfl, b10⟩
          rw [HAC.out]
          have V10 := Lib.hid (V9.out.go b10)
          clear b10 V9
          go_wp2_with fail
          go_ret
          exact ⟨ret_bool rfl, V10.out.below⟩)
section
open Go.ChangeShapes Go.WideShapes Go.ChangeAt
variable {H : Type} {enc : TypeId × Value → H} {W : World}
theorem pairing_cells : Try.prog.cellsOf 49 = 10 := by kernel_rfl
theorem array10 {α : Type} {cs : Array α} (h : cs.size = 10) : ∃ a0 a1 a2 a3 a4 a5 a6 a7 a8 a9, cs = #[a0, a1, a2, a3, a4, a5, a6, a7, a8, a9] := by
  obtain ⟨l⟩ := cs
  match l, h with
  | [a0, a1, a2, a3, a4, a5, a6, a7, a8, a9], _ => exact ⟨a0, a1, a2, a3, a4, a5, a6, a7, a8, a9, rfl⟩
/-- A pairing that came in. -/
theorem open_pairing {r : Reach} {b0 : Nat} {v : Value} {d : DataW H} {p : List MemPlace} (hv : Value.okWide Try.prog W r b0 49 v)
    (h : DataW.Trod enc Try.prog W 0 (fun _ => true) true 49 v d p) (hw : ∀ m ∈ d.weights Try.prog 49, m ≤ reachBytes) :
    ∃ (x : DV) (M : Au) (y : DV) (N : Au) (kd : Int) (A : Option Addr) (n c : Nat) (L : List Int), v = .agg #[.int .i64 M.lt, .int .i64 M.st, .slice x.A x.n x.c, .slice x.B x.m x.d, .int .i64 N.lt, .int .i64 N.st, .slice y.A y.n y.c, .slice y.B y.m y.d, .int .i64 kd, .slice A n c] ∧
      DfaIn W x M ∧ DfaIn W y N ∧ L.length = n ∧ n ≤ 17592186044416 ∧ CellsIn W A (ints L) := by
  obtain ⟨cs, rfl, hsz⟩ := okWide_struct Try.underlying49 hv
  obtain ⟨c0, c1, c2, c3, c4, c5, c6, c7, c8, c9, rfl⟩ := array10 (hsz.trans pairing_cells)
  obtain ⟨fuel, hf⟩ := h
  obtain ⟨y0, y1, y2, y3, n, hx, _, h0, h1, h2, h3⟩ := Go.Joins.trod_struct4 Try.underlying49 hf
  have k0 : DataW.trod enc Try.prog W 0 (fun _ => true) true n 25 [c0, c1, c2, c3] = some y0 := by simpa [Value.cells, dfa_cells] using h0
  have k1 : DataW.trod enc Try.prog W 0 (fun _ => true) true n 25 [c4, c5, c6, c7] = some y1 := by simpa [Value.cells, dfa_cells] using h1
  have k2 : DataW.trod enc Try.prog W 0 (fun _ => true) true n 3 [c8] = some y2 := by simpa [Value.cells, dfa_cells, int_cells] using h2
  have k3 : DataW.trod enc Try.prog W 0 (fun _ => true) true n 26 [c9] = some y3 := by simpa [Value.cells, dfa_cells, int_cells, ints_cells] using h3
  simp only [Prod.mk.injEq] at hx
  have hw0 : ∀ m ∈ y0.1.weights Try.prog 25, m ≤ reachBytes := fun m hm => hw m (by rw [hx.1]; simp only [DataW.weights, Try.underlying49]; simp [DataW.weightsEach, hm])
  have hw1 : ∀ m ∈ y1.1.weights Try.prog 25, m ≤ reachBytes := fun m hm => hw m (by rw [hx.1]; simp only [DataW.weights, Try.underlying49]; simp [DataW.weightsEach, hm])
  have hw3 : ∀ m ∈ y3.1.weights Try.prog 26, m ≤ reachBytes := fun m hm => hw m (by rw [hx.1]; simp only [DataW.weights, Try.underlying49]; simp [DataW.weightsEach, hm])
  obtain ⟨x, M, rfl, rfl, rfl, rfl, hdx⟩ := open_dfa4 k0 hw0
  obtain ⟨y, N, rfl, rfl, rfl, rfl, hdy⟩ := open_dfa4 k1 hw1
  obtain ⟨kd, e2, _, _⟩ := DataW.trod_int Try.underlying3 k2
  obtain ⟨A, n', c, L, rfl, a1, a2, a3, a4⟩ := open_nums k3 hw3
  have e2 : c8 = .int .i64 kd := by simpa using e2
  subst e2
  exact ⟨x, M, y, N, kd, A, n', c, L, rfl, hdx, hdy, a1, by omega, a4⟩
end
end Go.Proofs.Ytbfedfiemkhefaa
