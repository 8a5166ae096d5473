/- Contracts of the second implementation: Minimal, Same. What both implementations return, as values that are the only ones. -/
import Derived.Test.YtbfedfiemkhefaaRA
import Derived.Test.YtbfedfiemkhefaaRn
import Derived.Test.YtbfedfiemkhefaaQs
namespace Go.Proofs.Ytbfedfiemkhefaa
open Go.RowKit
set_option linter.unusedVariables false
set_option linter.unusedSimpArgs false
set_option maxRecDepth 100000

theorem OwnR.below {W w : World} {y : DV} {R : Au} (h : OwnR W w y R) : Below W.heap.size W w := by
  obtain ⟨vs, _, _, _, _, hp⟩ := h
  exact hp.below
theorem Au.Vld.goodL {w : World} {x : DV} {M : Au} {k : Nat} (h : M.Vld k) (hd : DfaIn w x M) : GoodL w x M k := ⟨hd, h.right, by have := h.few; omega, h.k8⟩
theorem Canon.self {k : Nat} {P : List Nat → Bool} {R : Au} (h : Canon k P R) : Canon k (fun u => R.lang u) R := h.of_eq fun u hu => (h.lang u hu).symm
/-- The minimal automaton has no more states. -/
theorem Canon.small {k : Nat} {A R : Au} (hA : A.Right k) (h : Canon k (fun u => A.lang u) R) : R.n ≤ A.n := by
  by_cases h0 : R.n = 0
  · omega
  obtain ⟨pa, hb⟩ := h.bfs (by omega)
  have hst : R.st = 0 := h.start (by omega)
  have reach : ∀ q : Nat, q < R.n → ∃ u, Let k u ∧ R.run R.st u = (q : Int) := fun q hq => by
    obtain ⟨u, _, a, b⟩ := hb.word hA.pos (q + 1) q (q : Int) (by omega) (rangeI_mk hq)
    exact ⟨u, a, by rw [hst]; exact b⟩
  let u : Nat → List Nat := fun q => if hq : q < R.n then (reach q hq).choose else []
  have hu : ∀ q, q < R.n → Let k (u q) ∧ R.run R.st (u q) = (q : Int) := fun q hq => by
    show Let k (if hq : q < R.n then (reach q hq).choose else []) ∧ R.run R.st (if hq : q < R.n then (reach q hq).choose else []) = (q : Int)
    rw [dif_pos hq]; exact (reach q hq).choose_spec
  have same : ∀ q, q < R.n → ∀ v, Let k v → R.acc (R.run (q : Int) v) = A.acc (A.run (A.run A.st (u q)) v) := fun q hq v hv => by
    have := h.lang (u q ++ v) ((hu q hq).1.app hv)
    change R.acc (R.run R.st (u q ++ v)) = A.acc (A.run A.st (u q ++ v)) at this
    rw [R.run_app, A.run_app, (hu q hq).2] at this
    exact this
  have pos : ∀ q, q < R.n → 0 ≤ A.run A.st (u q) ∧ A.run A.st (u q) < A.n := fun q hq => by
    have h1 := hA.inRun (u q) A.st hA.st_in.1 hA.st_in.2
    refine ⟨?_, h1.2⟩
    apply Classical.byContradiction
    intro hn
    obtain ⟨v, hv, ha⟩ := h.live q hq
    rw [same q hq v hv, show A.run A.st (u q) = -1 by omega, A.run_neg, A.acc_neg (by omega)] at ha
    cases ha
  refine inj_below (fun q => (A.run A.st (u q)).toNat) (fun q hq => ?_) (fun a b ha hb2 e => ?_)
  · have := pos q hq
    show (A.run A.st (u q)).toNat < A.n
    omega
  · have h1 := pos a ha
    have h2 := pos b hb2
    have e : (A.run A.st (u a)).toNat = (A.run A.st (u b)).toNat := e
    have e2 : A.run A.st (u a) = A.run A.st (u b) := by omega
    exact h.red a b ha hb2 fun v hv => by rw [same a ha v hv, same b hb2 v hv, e2]
theorem acc_same {A R : Au} {k : Nat} (hA : A.Vld k) (hR : R.Vld k) (h : ∀ u, Let k u → R.lang u = A.lang u) (L : List Int) : R.accI L = A.accI L := by
  by_cases hl : ∀ t ∈ L, 0 ≤ t ∧ t < (k : Int)
  · obtain ⟨u, hu, rfl⟩ := Au.word_nat hl
    rw [hR.accI_nat hu, hA.accI_nat hu, h u hu]
  · rw [hR.accI_bad hl, hA.accI_bad hl]
/-- The zero value. -/
def zA : Au := ⟨0, [], [], 0⟩
abbrev zV : DV := ⟨none, 0, 0, none, 0, 0⟩
theorem zA_in (w : World) : DfaIn w zV zA := ⟨rfl, rfl, Nat.le_refl _, Nat.le_refl _, by simp, by simp, fun h => by simp [zA] at h, CellsIn.nil _ _⟩
theorem vldU {A : Au} {k k' : Nat} (h : A.Vld k) (g : A.Vld k') : k = k' := by have h1 := h.right.lt; have h2 := g.right.lt; omega
/-- What Minimal is to return. -/
def MinR (A R : Au) (er : Int) : Prop := (A.vE = 1 ∧ R = zA ∧ er = 1) ∨ ∃ k, A.Vld k ∧ Canon k (fun u => A.lang u) R ∧ er = 0
theorem MinR.uniq {A R S : Au} {er es : Int} (h : MinR A R er) (g : MinR A S es) : R = S ∧ er = es := by
  rcases h with ⟨h1, h2, h3⟩ | ⟨k, h1, h2, h3⟩ <;> rcases g with ⟨g1, g2, g3⟩ | ⟨k', g1, g2, g3⟩
  · exact ⟨h2.trans g2.symm, h3.trans g3.symm⟩
  · exact absurd (h1.symm.trans g1.vE) (by decide)
  · exact absurd (g1.symm.trans h1.vE) (by decide)
  · obtain rfl := vldU h1 g1
    exact ⟨h2.uniq g2, h3.trans g3.symm⟩
def MinV (A : Au) (w : World) (e : Ending) (w' : World) : Prop :=
  ∃ y R er, e = .returned (.tuple #[dval y R, .int .i64 er]) ∧ MinR A R er ∧ DfaIn w' y R ∧ Below w.heap.size w w'
theorem minV_any (x : DV) (A : Au) (W : World) (hA : DfaIn W x A) : Calls Try.prog 10 #[dval x A] W (MinV A W) := by
  refine (minimalTop_any x A W hA).mono ?_
  rintro e w' ⟨hb, ⟨h1, rfl⟩ | ⟨k, v1, _, ⟨h2, _⟩ | ⟨_, _, R, hc, hr⟩⟩⟩
  · refine ⟨zV, zA, 1, rfl, .inl ⟨?_, rfl, rfl⟩, zA_in w', hb⟩
    rcases Au.vE_cases A with e | e
    · obtain ⟨k, hk⟩ : ∃ k, A.Vld k := ⟨_, Au.vE_ok e⟩
      exact absurd (h1.symm.trans (Au.pE_mk hk hk)) (by decide)
    · exact e
  · exact absurd (Or.inl rfl) h2
  · have hc2 : Canon k (fun u => A.lang u) R := hc.of_eq fun u _ => by show (if (1 : Int) = 1 then A.lang u && A.lang u else _) = _; rw [if_pos rfl]; simp
    have hn := hc2.small v1.right
    rcases hr with ⟨_, y, rfl, hm, ho⟩ | ⟨h4, _⟩
    · exact ⟨y, R, 0, rfl, .inr ⟨k, v1, hc2, rfl⟩, ho.dfa hm, hb⟩
    · have := v1.few; omega
set_option maxHeartbeats 8000000 in
theorem rminV_any (x : DV) (A : Au) (W : World) (hA : DfaIn W x A) : Calls Try.prog 12 #[dval x A] W (MinV A W) := by
  have HA := Lib.hid hA
  clear hA
  obtain ⟨wz, hwz⟩ : ∃ z, z = ((W.alloc (.cells #[.int .i64 A.lt, .int .i64 A.st, .slice x.A x.n x.c, .slice x.B x.m x.d] 25)).alloc (.cells #[.int .i64 0, .int .i64 0, .slice none 0 0, .slice none 0 0] 25)) := ⟨_, rfl⟩
  have V := Lib.hid (show Hp W [box 25 (W.heap.size + 1) [.int .i64 0, .int .i64 0, .slice none 0 0, .slice none 0 0], box 25 W.heap.size [.int .i64 A.lt, .int .i64 A.st, .slice x.A x.n x.c, .slice x.B x.m x.d]] wz by
    have := (((Hp.start W).box_new 25 [.int .i64 A.lt, .int .i64 A.st, .slice x.A x.n x.c, .slice x.B x.m x.d]).box_new 25 [.int .i64 0, .int .i64 0, .slice none 0 0, .slice none 0 0])
    rw [hwz]; simpa using this)
  have HZ := Lib.hid hwz
  clear hwz
  by_cases hp : A.vE = 0
  case neg =>
    have hp1 : A.vE = 1 := by rcases Au.vE_cases A with e | e; exact absurd e hp; exact e
    have HE := Lib.hid hp1
    clear hp1 hp
    go_enter Try.func12, Try.ntmps12
    go_upto_region 1 with fail
    rw [← HZ.out]
    clear HZ
    obtain ⟨r1_0, _, r1_9⟩ := V.out.box_at (i := 1) (j := 0) rfl rfl
    obtain ⟨r1_1, _, _⟩ := V.out.box_at (i := 1) (j := 1) rfl rfl
    obtain ⟨r1_2, _, _⟩ := V.out.box_at (i := 1) (j := 2) rfl rfl
    obtain ⟨r1_3, _, _⟩ := V.out.box_at (i := 1) (j := 3) rfl rfl
    go_wp2_with fail
    refine (rvalid_any x A wz (HA.out.below V.out.below)).mono ?_
    rintro e w1 ⟨rfl, b1⟩
    have V1 := Lib.hid (V.out.go b1)
    rw [HE.out]
    clear b1 V r1_9 r1_0 r1_1 r1_2 r1_3
    obtain ⟨z0, y0, z90⟩ := V1.out.box_at (i := 0) (j := 0) rfl rfl
    obtain ⟨z1, y1, z91⟩ := V1.out.box_at (i := 0) (j := 1) rfl rfl
    obtain ⟨z2, y2, z92⟩ := V1.out.box_at (i := 0) (j := 2) rfl rfl
    obtain ⟨z3, y3, z93⟩ := V1.out.box_at (i := 0) (j := 3) rfl rfl
    have VE := Lib.hid ((((V1.out.box_set (i := 0) rfl 0 (.int .i64 0)).box_set (i := 0) rfl 1 (.int .i64 0)).box_set (i := 0) rfl 2 (.slice none 0 0)).box_set (i := 0) rfl 3 (.slice none 0 0))
    obtain ⟨u0, _, _⟩ := VE.out.box_at (i := 0) (j := 0) rfl rfl
    obtain ⟨u1, _, _⟩ := VE.out.box_at (i := 0) (j := 1) rfl rfl
    obtain ⟨u2, _, _⟩ := VE.out.box_at (i := 0) (j := 2) rfl rfl
    obtain ⟨u3, _, _⟩ := VE.out.box_at (i := 0) (j := 3) rfl rfl
    have HP := Lib.hid (show MinV A W (.returned (.tuple #[.agg #[.int .i64 0, .int .i64 0, .slice none 0 0, .slice none 0 0], .int .i64 1])) _ from ⟨zV, zA, 1, rfl, .inl ⟨HE.out, rfl, rfl⟩, zA_in _, VE.out.below⟩)
    clear V1 VE
    go_wp2_with fail
    exact bodyPost_ret (v := .tuple #[.agg #[.int .i64 0, .int .i64 0, .slice none 0 0, .slice none 0 0], .int .i64 1]) (by simp [results, Try.results12, go_sem, u0, u1, u2, u3]) rfl HP.out
  have HE := Lib.hid hp
  obtain ⟨k, hka⟩ : ∃ k, A.Vld k := ⟨_, Au.vE_ok hp⟩
  have HKA := Lib.hid hka
  clear hp hka
  go_enter Try.func12, Try.ntmps12
  go_upto_region 1 with fail
  rw [← HZ.out]
  clear HZ
  obtain ⟨r1_0, _, r1_9⟩ := V.out.box_at (i := 1) (j := 0) rfl rfl
  obtain ⟨r1_1, _, _⟩ := V.out.box_at (i := 1) (j := 1) rfl rfl
  obtain ⟨r1_2, _, _⟩ := V.out.box_at (i := 1) (j := 2) rfl rfl
  obtain ⟨r1_3, _, _⟩ := V.out.box_at (i := 1) (j := 3) rfl rfl
  go_wp2_with fail
  refine (rvalid_any x A wz (HA.out.below V.out.below)).mono ?_
  rintro e w1 ⟨rfl, b1⟩
  have V1 := Lib.hid (V.out.go b1)
  rw [HE.out]
  clear b1 V r1_9 r1_0 r1_1 r1_2 r1_3
  obtain ⟨r1_0, _, r1_9⟩ := V1.out.box_at (i := 1) (j := 0) rfl rfl
  obtain ⟨r1_1, _, _⟩ := V1.out.box_at (i := 1) (j := 1) rfl rfl
  obtain ⟨r1_2, _, _⟩ := V1.out.box_at (i := 1) (j := 2) rfl rfl
  obtain ⟨r1_3, _, _⟩ := V1.out.box_at (i := 1) (j := 3) rfl rfl
  go_wp2_with fail
  refine (rminimal_any x A k w1 (HKA.out.goodL (HA.out.below V1.out.below))).mono ?_
  rintro e w3 ⟨R, y, hc, rfl, vs, hvs, h8, hyn, hym, hp⟩
  have HC := Lib.hid hc
  have HVS := Lib.hid hvs
  have H8 := Lib.hid h8
  have HYM := Lib.hid hym
  have V3 := Lib.hid (show Hp W ([box 25 (W.heap.size + 1) [.int .i64 0, .int .i64 0, .slice none 0 0, .slice none 0 0], box 25 W.heap.size [.int .i64 A.lt, .int .i64 A.st, .slice x.A x.n x.c, .slice x.B x.m x.d], rvals y.A y.n y.c vs R.nx, flags y.B y.m y.d R.ac] ++ rowsG vs R.nx) w3 from (V1.out.join hp).comm)
  clear hc hvs h8 hym hp V1 r1_9 r1_0 r1_1 r1_2 r1_3
  obtain ⟨z0, y0, z90⟩ := V3.out.box_at (i := 0) (j := 0) rfl rfl
  obtain ⟨z1, y1, z91⟩ := V3.out.box_at (i := 0) (j := 1) rfl rfl
  obtain ⟨z2, y2, z92⟩ := V3.out.box_at (i := 0) (j := 2) rfl rfl
  obtain ⟨z3, y3, z93⟩ := V3.out.box_at (i := 0) (j := 3) rfl rfl
  have VE := Lib.hid ((((V3.out.box_set (i := 0) rfl 0 (.int .i64 R.lt)).box_set (i := 0) rfl 1 (.int .i64 R.st)).box_set (i := 0) rfl 2 (.slice y.A y.n y.c)).box_set (i := 0) rfl 3 (.slice y.B y.m y.d))
  obtain ⟨u0, _, _⟩ := VE.out.box_at (i := 0) (j := 0) rfl rfl
  obtain ⟨u1, _, _⟩ := VE.out.box_at (i := 0) (j := 1) rfl rfl
  obtain ⟨u2, _, _⟩ := VE.out.box_at (i := 0) (j := 2) rfl rfl
  obtain ⟨u3, _, _⟩ := VE.out.box_at (i := 0) (j := 3) rfl rfl
  have HP := Lib.hid (show MinV A W (.returned (.tuple #[.agg #[.int .i64 R.lt, .int .i64 R.st, .slice y.A y.n y.c, .slice y.B y.m y.d], .int .i64 0])) _ from ⟨y, R, 0, rfl, .inr ⟨k, HKA.out, HC.out, rfl⟩, OwnR.dfa ⟨vs, HVS.out, H8.out, hyn, HYM.out, VE.out.tail.tail⟩, VE.out.below⟩)
  clear V3 VE
  go_wp2_with fail
  exact bodyPost_ret (v := .tuple #[.agg #[.int .i64 R.lt, .int .i64 R.st, .slice y.A y.n y.c, .slice y.B y.m y.d], .int .i64 0]) (by simp [results, Try.results12, go_sem, u0, u1, u2, u3]) rfl HP.out
/-- What Same is to return. -/
def SameR (A B : Au) (b : Bool) (er : Int) : Prop := (Au.pE A B = 1 ∧ b = false ∧ er = 1) ∨ ∃ k, A.Vld k ∧ B.Vld k ∧ er = 0 ∧ (b = true ↔ ∀ u, Let k u → A.lang u = B.lang u)
theorem SameR.uniq {A B : Au} {b c : Bool} {er es : Int} (h : SameR A B b er) (g : SameR A B c es) : b = c ∧ er = es := by
  rcases h with ⟨h1, h2, h3⟩ | ⟨k, h1, h2, h3, h4⟩ <;> rcases g with ⟨g1, g2, g3⟩ | ⟨k', g1, g2, g3, g4⟩
  · exact ⟨h2.trans g2.symm, h3.trans g3.symm⟩
  · exact absurd (h1.symm.trans (Au.pE_mk g1 g2)) (by decide)
  · exact absurd (g1.symm.trans (Au.pE_mk h1 h2)) (by decide)
  · obtain rfl := vldU h1 g1
    refine ⟨?_, h3.trans g3.symm⟩
    cases b <;> cases c
    · rfl
    · exact absurd (h4.2 (g4.1 rfl)) (by decide)
    · exact absurd (g4.2 (h4.1 rfl)) (by decide)
    · rfl
def SameV (A B : Au) (w : World) (e : Ending) (w' : World) : Prop := ∃ b er, e = .returned (.tuple #[.bool b, .int .i64 er]) ∧ SameR A B b er ∧ Below w.heap.size w w'
theorem sameV_any (x y : DV) (A B : Au) (W : World) (hA : DfaIn W x A) (hB : DfaIn W y B) : Calls Try.prog 17 #[dval x A, dval y B] W (SameV A B W) := by
  refine (same_any x y A B W hA hB).mono ?_
  rintro e w' ⟨hb, ⟨h1, rfl⟩ | ⟨k, b, h1, h2, rfl, h3⟩⟩
  · exact ⟨false, 1, rfl, .inl ⟨h1, rfl, rfl⟩, hb⟩
  · exact ⟨b, 0, rfl, .inr ⟨k, h1, h2, rfl, h3⟩, hb⟩
set_option maxHeartbeats 8000000 in
theorem rsameV_any (x y : DV) (A B : Au) (W : World) (hA : DfaIn W x A) (hB : DfaIn W y B) : Calls Try.prog 18 #[dval x A, dval y B] W (SameV A B W) := by
  have HA := Lib.hid hA
  have HB := Lib.hid hB
  clear hA hB
  obtain ⟨wz, hwz⟩ : ∃ z, z = ((W.alloc (.cells #[.int .i64 A.lt, .int .i64 A.st, .slice x.A x.n x.c, .slice x.B x.m x.d] 25)).alloc (.cells #[.int .i64 B.lt, .int .i64 B.st, .slice y.A y.n y.c, .slice y.B y.m y.d] 25)) := ⟨_, rfl⟩
  have V := Lib.hid (show Hp W [box 25 (W.heap.size + 1) [.int .i64 B.lt, .int .i64 B.st, .slice y.A y.n y.c, .slice y.B y.m y.d], box 25 W.heap.size [.int .i64 A.lt, .int .i64 A.st, .slice x.A x.n x.c, .slice x.B x.m x.d]] wz by
    have := (((Hp.start W).box_new 25 [.int .i64 A.lt, .int .i64 A.st, .slice x.A x.n x.c, .slice x.B x.m x.d]).box_new 25 [.int .i64 B.lt, .int .i64 B.st, .slice y.A y.n y.c, .slice y.B y.m y.d])
    rw [hwz]; simpa using this)
  have HZ := Lib.hid hwz
  clear hwz
  by_cases hp : Au.pE A B = 0
  case neg =>
    have hp1 : Au.pE A B = 1 := by rcases Au.pE_cases A B with e | e; exact absurd e hp; exact e
    have HE := Lib.hid hp1
    clear hp1 hp
    go_enter Try.func18, Try.ntmps18
    go_upto_region 1 with fail
    rw [← HZ.out]
    clear HZ
    obtain ⟨r0_0, _, r0_9⟩ := V.out.box_at (i := 0) (j := 0) rfl rfl
    obtain ⟨r0_1, _, _⟩ := V.out.box_at (i := 0) (j := 1) rfl rfl
    obtain ⟨r0_2, _, _⟩ := V.out.box_at (i := 0) (j := 2) rfl rfl
    obtain ⟨r0_3, _, _⟩ := V.out.box_at (i := 0) (j := 3) rfl rfl
    obtain ⟨r1_0, _, r1_9⟩ := V.out.box_at (i := 1) (j := 0) rfl rfl
    obtain ⟨r1_1, _, _⟩ := V.out.box_at (i := 1) (j := 1) rfl rfl
    obtain ⟨r1_2, _, _⟩ := V.out.box_at (i := 1) (j := 2) rfl rfl
    obtain ⟨r1_3, _, _⟩ := V.out.box_at (i := 1) (j := 3) rfl rfl
    go_wp2_with fail
    refine (rboth_any x y A B wz (HA.out.below V.out.below) (HB.out.below V.out.below)).mono ?_
    rintro e w1 ⟨rfl, b1⟩
    have V1 := Lib.hid (V.out.go b1)
    rw [HE.out]
    clear b1 V r0_9 r0_0 r0_1 r0_2 r0_3 r1_9 r1_0 r1_1 r1_2 r1_3
    have HP := Lib.hid (show SameV A B W (.returned (.tuple #[.bool false, .int .i64 1])) w1 from ⟨false, 1, rfl, .inl ⟨HE.out, rfl, rfl⟩, V1.out.below⟩)
    go_wp2_with fail
    go_ret2
    exact HP.out
  have HE := Lib.hid hp
  obtain ⟨k, hka, hkb⟩ := Au.pE_ok hp
  have HKA := Lib.hid hka
  have HKB := Lib.hid hkb
  clear hp hka hkb
  go_enter Try.func18, Try.ntmps18
  go_upto_region 1 with fail
  rw [← HZ.out]
  clear HZ
  obtain ⟨r0_0, _, r0_9⟩ := V.out.box_at (i := 0) (j := 0) rfl rfl
  obtain ⟨r0_1, _, _⟩ := V.out.box_at (i := 0) (j := 1) rfl rfl
  obtain ⟨r0_2, _, _⟩ := V.out.box_at (i := 0) (j := 2) rfl rfl
  obtain ⟨r0_3, _, _⟩ := V.out.box_at (i := 0) (j := 3) rfl rfl
  obtain ⟨r1_0, _, r1_9⟩ := V.out.box_at (i := 1) (j := 0) rfl rfl
  obtain ⟨r1_1, _, _⟩ := V.out.box_at (i := 1) (j := 1) rfl rfl
  obtain ⟨r1_2, _, _⟩ := V.out.box_at (i := 1) (j := 2) rfl rfl
  obtain ⟨r1_3, _, _⟩ := V.out.box_at (i := 1) (j := 3) rfl rfl
  go_wp2_with fail
  refine (rboth_any x y A B wz (HA.out.below V.out.below) (HB.out.below V.out.below)).mono ?_
  rintro e w1 ⟨rfl, b1⟩
  have V1 := Lib.hid (V.out.go b1)
  rw [HE.out]
  clear b1 V r0_9 r0_0 r0_1 r0_2 r0_3 r1_9 r1_0 r1_1 r1_2 r1_3
  go_upto_region 4 with fail
  have hKp : Keep [(⟨W.heap.size, 0, none⟩, .int .i64 A.lt), (⟨W.heap.size, 1, none⟩, .int .i64 A.st), (⟨W.heap.size, 2, none⟩, .slice x.A x.n x.c), (⟨W.heap.size, 3, none⟩, .slice x.B x.m x.d), (⟨W.heap.size + 1, 0, none⟩, .int .i64 B.lt), (⟨W.heap.size + 1, 1, none⟩, .int .i64 B.st), (⟨W.heap.size + 1, 2, none⟩, .slice y.A y.n y.c), (⟨W.heap.size + 1, 3, none⟩, .slice y.B y.m y.d)] w1 := List.forall_mem_cons.2 ⟨⟨(V1.out.box_at (i := 1) (j := 0) rfl rfl).1, (V1.out.box_at (i := 1) (j := 0) rfl rfl).2.2⟩, List.forall_mem_cons.2 ⟨⟨(V1.out.box_at (i := 1) (j := 1) rfl rfl).1, (V1.out.box_at (i := 1) (j := 1) rfl rfl).2.2⟩, List.forall_mem_cons.2 ⟨⟨(V1.out.box_at (i := 1) (j := 2) rfl rfl).1, (V1.out.box_at (i := 1) (j := 2) rfl rfl).2.2⟩, List.forall_mem_cons.2 ⟨⟨(V1.out.box_at (i := 1) (j := 3) rfl rfl).1, (V1.out.box_at (i := 1) (j := 3) rfl rfl).2.2⟩, List.forall_mem_cons.2 ⟨⟨(V1.out.box_at (i := 0) (j := 0) rfl rfl).1, (V1.out.box_at (i := 0) (j := 0) rfl rfl).2.2⟩, List.forall_mem_cons.2 ⟨⟨(V1.out.box_at (i := 0) (j := 1) rfl rfl).1, (V1.out.box_at (i := 0) (j := 1) rfl rfl).2.2⟩, List.forall_mem_cons.2 ⟨⟨(V1.out.box_at (i := 0) (j := 2) rfl rfl).1, (V1.out.box_at (i := 0) (j := 2) rfl rfl).2.2⟩, List.forall_mem_cons.2 ⟨⟨(V1.out.box_at (i := 0) (j := 3) rfl rfl).1, (V1.out.box_at (i := 0) (j := 3) rfl rfl).2.2⟩, fun _ h => by simp at h⟩⟩⟩⟩⟩⟩⟩⟩
  refine wp_region_held_drew (S := Keep _) (by kernel_rfl) hKp.drew (fun hHeld => ?_)
  have V1d := Lib.hid (V1.out.go (bdrew _))
  refine tk 0 ?_ rfl ?_ ?_; rotate_left
  · intro wl hSw
    have hSw : Keep _ wl := hSw
    have k0 : wl.cell? ⟨W.heap.size, 0, none⟩ = some (.int .i64 A.lt) := (hSw _ (.head _)).1
    have k1 : wl.cell? ⟨W.heap.size, 1, none⟩ = some (.int .i64 A.st) := (hSw _ (.tail _ (.head _))).1
    have k2 : wl.cell? ⟨W.heap.size, 2, none⟩ = some (.slice x.A x.n x.c) := (hSw _ (.tail _ (.tail _ (.head _)))).1
    have k3 : wl.cell? ⟨W.heap.size, 3, none⟩ = some (.slice x.B x.m x.d) := (hSw _ (.tail _ (.tail _ (.tail _ (.head _))))).1
    clear hSw
    go_simp
    try (with_reducible rfl)
  try simp only [Act.put, sA, sZ, sS]
  refine tk 2 ?_ rfl ?_ ?_; rotate_left
  · intro wl hSw
    have hSw : Keep _ wl := hSw
    have k0 : wl.cell? ⟨W.heap.size + 1, 0, none⟩ = some (.int .i64 B.lt) := (hSw _ (.tail _ (.tail _ (.tail _ (.tail _ (.head _)))))).1
    have k1 : wl.cell? ⟨W.heap.size + 1, 1, none⟩ = some (.int .i64 B.st) := (hSw _ (.tail _ (.tail _ (.tail _ (.tail _ (.tail _ (.head _))))))).1
    have k2 : wl.cell? ⟨W.heap.size + 1, 2, none⟩ = some (.slice y.A y.n y.c) := (hSw _ (.tail _ (.tail _ (.tail _ (.tail _ (.tail _ (.tail _ (.head _)))))))).1
    have k3 : wl.cell? ⟨W.heap.size + 1, 3, none⟩ = some (.slice y.B y.m y.d) := (hSw _ (.tail _ (.tail _ (.tail _ (.tail _ (.tail _ (.tail _ (.tail _ (.head _))))))))).1
    clear hSw
    go_simp
    try (with_reducible rfl)
  try simp only [Act.put, sA, sZ, sS]
  refine wpAnyH_ready (rs := [1]) (by kernel_rfl) (by simp) ?_
  refine AllReadyH.cons (List.getElem?_toArray.trans rfl) (fun K hK => ?_) AllReadyH.nil
  go_simp
  refine (rminimal_any x A k _ (HKA.out.goodL (HA.out.below V1d.out.below))).mono ?_
  rintro e w_1 ⟨Ra, ya, hca, rfl, hoa⟩
  try go_wp2_with fail
  have HCA := Lib.hid hca
  have HOA := Lib.hid hoa.dfa
  have V_1 := Lib.hid (V1d.out.go hoa.below)
  refine hK.out _ _ (hHeld.go hoa.below) (fun hHeld => ?_)
  clear hK K
  try simp only [Act.put, sA, sZ, sS]
  refine wpAnyH_ready (rs := [3]) (by kernel_rfl) (by simp) ?_
  refine AllReadyH.cons (List.getElem?_toArray.trans rfl) (fun K hK => ?_) AllReadyH.nil
  go_simp
  refine (rminimal_any y B k _ (HKB.out.goodL (HB.out.below V_1.out.below))).mono ?_
  rintro e w_1_3 ⟨Rb, yb, hcb, rfl, hob⟩
  try go_wp2_with fail
  have HCB := Lib.hid hcb
  have HOB := Lib.hid hob.dfa
  have V_1_3 := Lib.hid (V_1.out.go hob.below)
  refine hK.out _ _ (hHeld.go hob.below) (fun hHeld => ?_)
  clear hK K
  try simp only [Act.put, sA, sZ, sS]
  refine wpAnyH_ready (rs := [4]) (by kernel_rfl) (by simp) ?_
  refine AllReadyH.cons (List.getElem?_toArray.trans rfl) (fun K hK => ?_) AllReadyH.nil
  go_simp
  refine (sameDFA_any ya yb Ra Rb _ (HOA.out.below hob.below) HOB.out).mono ?_
  rintro e w_1_3_4 ⟨rfl, b_1_3_4⟩
  try go_wp2_with fail
  have V_1_3_4 := Lib.hid (V_1_3.out.go b_1_3_4)
  refine hK.out _ _ (hHeld.go b_1_3_4) (fun hHeld => ?_)
  clear hK K
  try simp only [Act.put, sA, sZ, sS]
  refine tk 5 ?_ rfl ?_ ?_; rotate_left; focus (intro w hSw; clear hSw; go_simp; try (with_reducible rfl))
  try simp only [Act.put, sA, sZ, sS]
  refine tk 6 ?_ rfl ?_ ?_; rotate_left; focus (intro w hSw; clear hSw; go_simp; try (with_reducible rfl))
  try simp only [Act.put, sA, sZ, sS]
  refine wpAnyH_done (by kernel_rfl) ?_ _
  have HSM := Lib.hid (show decide (Ra = Rb) = true ↔ ∀ u, Let k u → A.lang u = B.lang u from ⟨fun h u hu => by have e := of_decide_eq_true h; rw [← HCA.out.lang u hu, ← HCB.out.lang u hu, e], fun h => decide_eq_true (HCA.out.uniq (HCB.out.of_eq fun u hu => (h u hu).symm))⟩)
  obtain ⟨bb, hbb⟩ : ∃ b, b = decide (Ra = Rb) := ⟨_, rfl⟩
  rw [← hbb] at HSM
  try rw [← hbb]
  clear hHeld hKp hca hcb hoa hob
  have HP := Lib.hid (show SameV A B W (.returned (.tuple #[.bool bb, .int .i64 0])) _ from ⟨bb, 0, rfl, .inr ⟨k, HKA.out, HKB.out, rfl, HSM.out⟩, V_1_3_4.out.below⟩)
  go_wp2_with fail
  go_ret2
  exact HP.out
/-- What Difference is to return. -/
def DiffR (A B : Au) (L : List Int) (er : Int) : Prop := (Au.pE A B = 1 ∧ L = [] ∧ er = 1) ∨ ∃ k, A.Vld k ∧ B.Vld k ∧ ((Fw k (fun u => A.lang u != B.lang u) none ∧ L = [] ∧ er = 10) ∨ ∃ u, Fw k (fun u => A.lang u != B.lang u) (some u) ∧ L = u.map Int.ofNat ∧ er = 0)
theorem DiffR.uniq {A B : Au} {L M : List Int} {er es : Int} (h : DiffR A B L er) (g : DiffR A B M es) : L = M ∧ er = es := by
  rcases h with ⟨h1, h2, h3⟩ | ⟨k, h1, h2, h3⟩ <;> rcases g with ⟨g1, g2, g3⟩ | ⟨k', g1, g2, g3⟩
  · exact ⟨h2.trans g2.symm, h3.trans g3.symm⟩
  · exact absurd (h1.symm.trans (Au.pE_mk g1 g2)) (by decide)
  · exact absurd (g1.symm.trans (Au.pE_mk h1 h2)) (by decide)
  · obtain rfl := vldU h1 g1
    rcases h3 with ⟨a1, a2, a3⟩ | ⟨u, a1, a2, a3⟩ <;> rcases g3 with ⟨b1, b2, b3⟩ | ⟨v, b1, b2, b3⟩
    · exact ⟨a2.trans b2.symm, a3.trans b3.symm⟩
    · have := a1.uniq b1; cases this
    · have := a1.uniq b1; cases this
    · have := a1.uniq b1
      injection this with this
      subst this
      exact ⟨a2.trans b2.symm, a3.trans b3.symm⟩
theorem DiffR.er {A B : Au} {L : List Int} {er : Int} (h : DiffR A B L er) : er = 1 ∨ er = 10 ∨ er = 0 := by
  rcases h with ⟨_, _, h3⟩ | ⟨k, _, _, ⟨_, _, h3⟩ | ⟨u, _, _, h3⟩⟩
  · exact .inl h3
  · exact .inr (.inl h3)
  · exact .inr (.inr h3)
/-- A word that tells them apart. -/
theorem DiffR.tells {A B : Au} {L : List Int} {b : Bool} {er : Int} (h : DiffR A B L 0) (g : SameR A B b er) : b = false ∧ (A.accI L != B.accI L) = true := by
  rcases h with ⟨_, _, h3⟩ | ⟨k, h1, h2, ⟨_, _, h3⟩ | ⟨u, hf, rfl, _⟩⟩
  · cases h3
  · cases h3
  · have hne : ¬ ∀ u, Let k u → A.lang u = B.lang u := hf.some_ne
    cases hf with
    | yes _ hl =>
      refine ⟨?_, by rw [h1.accI_nat hl.1, h2.accI_nat hl.1]; exact hl.2.1⟩
      rcases g with ⟨g1, g2, _⟩ | ⟨k', g1, _, _, g4⟩
      · exact g2
      · obtain rfl := vldU h1 g1
        cases b with
        | false => rfl
        | true => exact absurd (g4.1 rfl) hne
def DiffV (A B : Au) (w : World) (e : Ending) (w' : World) : Prop := ∃ G n c L er, e = .returned (.tuple #[.slice G n c, .int .i64 er]) ∧ DiffR A B L er ∧ L.length = n ∧ n ≤ 2000000 ∧ CellsIn w' G (ints L) ∧ Below w.heap.size w w'
theorem DiffPost.val {A B : Au} {w w' : World} {e : Ending} (h : DiffPost A B w e w') : DiffV A B w e w' := by
  obtain ⟨hb, ⟨h1, rfl⟩ | ⟨k, h1, h2, _, ⟨h3, rfl⟩ | ⟨u, G, n, c, h3, rfl, hp, hn⟩⟩⟩ := h
  · exact ⟨none, 0, 0, [], 1, rfl, .inl ⟨h1, rfl, rfl⟩, rfl, by omega, CellsIn.nil _ _, hb⟩
  · exact ⟨none, 0, 0, [], 10, rfl, .inr ⟨k, h1, h2, .inl ⟨h3, rfl, rfl⟩⟩, rfl, by omega, CellsIn.nil _ _, hb⟩
  · exact ⟨G, n, c, u.map Int.ofNat, 0, rfl, .inr ⟨k, h1, h2, .inr ⟨u, h3, rfl, rfl⟩⟩, hp.num_len (i := 0) rfl, hn, hp.cells (i := 0) rfl rfl, hb⟩
theorem diffV_any (x y : DV) (A B : Au) (W : World) (hA : DfaIn W x A) (hB : DfaIn W y B) : Calls Try.prog 19 #[dval x A, dval y B] W (DiffV A B W) := (difference_any x y A B W hA hB).mono fun _ _ h => h.val
theorem rdiffV_any (x y : DV) (A B : Au) (W : World) (hA : DfaIn W x A) (hB : DfaIn W y B) : Calls Try.prog 20 #[dval x A, dval y B] W (DiffV A B W) := (rdifference_any x y A B W hA hB).mono fun _ _ h => h.val
end Go.Proofs.Ytbfedfiemkhefaa
