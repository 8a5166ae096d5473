/- Contracts of the program: the minimal automaton of a product. -/
import Derived.Test.YtdkdfmflghbhiaaQr
namespace Go.Proofs.Ytdkdfmflghbhiaa
open Go.RowKit
set_option linter.unusedVariables false
set_option linter.unusedSimpArgs false
set_option maxRecDepth 100000

theorem Hp.comm {W w : World} {l l2 : List Itm} (h : Hp W (l2 ++ l) w) : Hp W (l ++ l2) w := by
  refine h.sub (fun i => if i < l.length then l2.length + i else if i < l.length + l2.length then i - l.length else i) (fun i j e => ?_) (fun i it hi => ?_)
  · split at e <;> split at e <;> (try split at e) <;> (try split at e) <;> omega
  · by_cases h1 : i < l.length
    · rw [if_pos h1, List.getElem?_append_right (by omega), Nat.add_sub_cancel_left]
      rw [List.getElem?_append_left h1] at hi
      exact hi
    · rw [List.getElem?_append_right (by omega)] at hi
      have h2 := (List.getElem?_eq_some_iff.1 hi).1
      rw [if_neg h1, if_pos (by omega), List.getElem?_append_left h2]
      exact hi
theorem OwnDfa.base {W W1 w : World} {x : DV} {R : Au} (h : OwnDfa W1 w x R) (hb : Below W.heap.size W W1) : OwnDfa W w x R := by
  obtain ⟨k, gs, h1, h2, h3, h4⟩ := h
  exact ⟨k, gs, h1, h2, h3, h4.base hb⟩
theorem MinPost.base {k : Nat} {P : List Nat → Bool} {W W1 : World} {e : Ending} {w' : World} (h : MinPost k P W1 e w') (hb : Below W.heap.size W W1) : MinPost k P W e w' := by
  obtain ⟨h1, R, h2, ⟨a, x, b, c, d⟩ | h3⟩ := h
  · exact ⟨btwo hb h1, R, h2, .inl ⟨a, x, b, c, d.base hb⟩⟩
  · exact ⟨btwo hb h1, R, h2, .inr h3⟩
theorem MinPost.congr {k : Nat} {P Q : List Nat → Bool} {W : World} {e : Ending} {w' : World} (h : MinPost k P W e w') (he : ∀ u, Let k u → P u = Q u) : MinPost k Q W e w' := by
  obtain ⟨h1, R, h2, h3⟩ := h
  exact ⟨h1, R, h2.of_eq he, h3⟩
theorem combine_any (kind : Int) (a b : Bool) (w : World) :
    Calls Try.prog 40 #[.int .i64 kind, .bool a, .bool b] w fun e w' => e = .returned (.bool (combF kind a b)) ∧ Below w.heap.size w w' := by
  by_cases h1 : kind = 1
  · subst h1
    cases a <;> cases b <;> go_enter Try.func40, Try.ntmps40 <;> go_wp2 <;> go_ret <;> exact ⟨rfl, Below.refl _ _⟩
  by_cases h2 : kind = 2
  · subst h2
    cases a <;> cases b <;> go_enter Try.func40, Try.ntmps40 <;> go_wp2 <;> go_ret <;> exact ⟨rfl, Below.refl _ _⟩
  have e1 : (kind == 1) = false := beq_no h1
  have e2 : (kind == 2) = false := beq_no h2
  have H := Lib.hid (show combF kind a b = (a && !b) by unfold combF; rw [if_neg h1, if_neg h2])
  clear h1 h2
  cases a <;> cases b <;> go_enter Try.func40, Try.ntmps40 <;> go_wp2 <;> go_ret <;> exact ⟨ret_bool (by rw [H.out]; rfl), Below.refl _ _⟩
/-- The zero value of an automaton. -/
abbrev zdfa : Value := .agg #[.int .i64 0, .int .i64 0, .slice none 0 0, .slice none 0 0]
/-- What Product returns. -/
def ProdPost (A B : Au) (kind : Int) (W : World) (e : Ending) (w' : World) : Prop :=
  Below W.heap.size W w' ∧ ((Au.pE A B = 1 ∧ e = .returned (.tuple #[zdfa, .int .i64 1])) ∨ ∃ k, A.Vld k ∧ B.Vld k ∧
    ((¬ (kind = 1 ∨ kind = 2 ∨ kind = 3) ∧ e = .returned (.tuple #[zdfa, .int .i64 6])) ∨ ((kind = 1 ∨ kind = 2 ∨ kind = 3) ∧ MinPost k (fun u => combF kind (A.lang u) (B.lang u)) W e w')))
set_option maxHeartbeats 16000000 in
theorem product_bad (x y : DV) (A B : Au) (kind : Int) (W : World) (hA : DfaIn W x A) (hB : DfaIn W y B) (hk : ¬ (kind = 1 ∨ kind = 2 ∨ kind = 3)) :
    Calls Try.prog 15 #[dval x A, dval y B, .int .i64 kind] W (ProdPost A B kind W) := by
  have HA := Lib.hid hA
  have HB := Lib.hid hB
  clear hA hB
  obtain ⟨wz, hwz⟩ : ∃ z, z = (((W.alloc (.cells #[.int .i64 A.lt, .int .i64 A.st, .slice x.A x.n x.c, .slice x.B x.m x.d] 25)).alloc (.cells #[.int .i64 B.lt, .int .i64 B.st, .slice y.A y.n y.c, .slice y.B y.m y.d] 25)).alloc (.cells #[.int .i64 0, .int .i64 0, .slice none 0 0, .slice none 0 0] 25)) := ⟨_, rfl⟩
  have V := Lib.hid (show Hp W [box 25 (W.heap.size + 1 + 1) [.int .i64 0, .int .i64 0, .slice none 0 0, .slice none 0 0], box 25 (W.heap.size + 1) [.int .i64 B.lt, .int .i64 B.st, .slice y.A y.n y.c, .slice y.B y.m y.d], box 25 W.heap.size [.int .i64 A.lt, .int .i64 A.st, .slice x.A x.n x.c, .slice x.B x.m x.d]] wz by
    have := ((((Hp.start W).box_new 25 [.int .i64 A.lt, .int .i64 A.st, .slice x.A x.n x.c, .slice x.B x.m x.d]).box_new 25 [.int .i64 B.lt, .int .i64 B.st, .slice y.A y.n y.c, .slice y.B y.m y.d]).box_new 25 [.int .i64 0, .int .i64 0, .slice none 0 0, .slice none 0 0])
    rw [hwz]; simpa using this)
  have HZ := Lib.hid hwz
  clear hwz
  by_cases hp : Au.pE A B = 0
  case neg =>
    have hp1 : Au.pE A B = 1 := by rcases Au.pE_cases A B with e | e; exact absurd e hp; exact e
    have HE := Lib.hid hp1
    clear hp1 hp
    go_enter Try.func15, Try.ntmps15
    go_upto_region 1 with fail
    rw [← HZ.out]
    clear HZ
    obtain ⟨r1_0, _, r1_9⟩ := V.out.box_at (i := 1) (j := 0) rfl rfl
    obtain ⟨r1_1, _, _⟩ := V.out.box_at (i := 1) (j := 1) rfl rfl
    obtain ⟨r1_2, _, _⟩ := V.out.box_at (i := 1) (j := 2) rfl rfl
    obtain ⟨r1_3, _, _⟩ := V.out.box_at (i := 1) (j := 3) rfl rfl
    obtain ⟨r2_0, _, r2_9⟩ := V.out.box_at (i := 2) (j := 0) rfl rfl
    obtain ⟨r2_1, _, _⟩ := V.out.box_at (i := 2) (j := 1) rfl rfl
    obtain ⟨r2_2, _, _⟩ := V.out.box_at (i := 2) (j := 2) rfl rfl
    obtain ⟨r2_3, _, _⟩ := V.out.box_at (i := 2) (j := 3) rfl rfl
    go_wp2_with fail
    refine (pairError_any x y A B wz (HA.out.below V.out.below) (HB.out.below V.out.below)).mono ?_
    rintro e w1 ⟨rfl, b1⟩
    have V1 := Lib.hid (V.out.go b1)
    rw [HE.out]
    clear b1 V r1_9 r1_0 r1_1 r1_2 r1_3 r2_9 r2_0 r2_1 r2_2 r2_3
    obtain ⟨z0, y0, z90⟩ := V1.out.box_at (i := 0) (j := 0) rfl rfl
    obtain ⟨z1, y1, z91⟩ := V1.out.box_at (i := 0) (j := 1) rfl rfl
    obtain ⟨z2, y2, z92⟩ := V1.out.box_at (i := 0) (j := 2) rfl rfl
    obtain ⟨z3, y3, z93⟩ := V1.out.box_at (i := 0) (j := 3) rfl rfl
    have VE := Lib.hid ((((V1.out.box_set (i := 0) rfl 0 (.int .i64 0)).box_set (i := 0) rfl 1 (.int .i64 0)).box_set (i := 0) rfl 2 (.slice none 0 0)).box_set (i := 0) rfl 3 (.slice none 0 0))
    obtain ⟨u0, _, _⟩ := VE.out.box_at (i := 0) (j := 0) rfl rfl
    obtain ⟨u1, _, _⟩ := VE.out.box_at (i := 0) (j := 1) rfl rfl
    obtain ⟨u2, _, _⟩ := VE.out.box_at (i := 0) (j := 2) rfl rfl
    obtain ⟨u3, _, _⟩ := VE.out.box_at (i := 0) (j := 3) rfl rfl
    have HP := Lib.hid (show ProdPost A B kind W (.returned (.tuple #[zdfa, .int .i64 1])) _ from ⟨VE.out.below, .inl ⟨HE.out, rfl⟩⟩)
    clear V1 VE
    go_wp2_with fail
    exact bodyPost_ret (v := .tuple #[.agg #[.int .i64 0, .int .i64 0, .slice none 0 0, .slice none 0 0], .int .i64 1]) (by simp [results, Try.results15, go_sem, u0, u1, u2, u3]) rfl HP.out
  have HE := Lib.hid hp
  obtain ⟨k, hka, hkb⟩ := Au.pE_ok hp
  have HKA := Lib.hid hka
  have HKB := Lib.hid hkb
  have HKI := Lib.hid hk
  have e1 : (kind == 1) = false := beq_no (fun e => hk (.inl e))
  have e2 : (kind == 2) = false := beq_no (fun e => hk (.inr (.inl e)))
  have e3 : (kind == 3) = false := beq_no (fun e => hk (.inr (.inr e)))
  have f1 : (kind != 1) = true := bne_yes (fun e => hk (.inl e))
  have f2 : (kind != 2) = true := bne_yes (fun e => hk (.inr (.inl e)))
  have f3 : (kind != 3) = true := bne_yes (fun e => hk (.inr (.inr e)))
  clear hp hka hkb hk
  go_enter Try.func15, Try.ntmps15
  go_upto_region 1 with fail
  rw [← HZ.out]
  clear HZ
  obtain ⟨r1_0, _, r1_9⟩ := V.out.box_at (i := 1) (j := 0) rfl rfl
  obtain ⟨r1_1, _, _⟩ := V.out.box_at (i := 1) (j := 1) rfl rfl
  obtain ⟨r1_2, _, _⟩ := V.out.box_at (i := 1) (j := 2) rfl rfl
  obtain ⟨r1_3, _, _⟩ := V.out.box_at (i := 1) (j := 3) rfl rfl
  obtain ⟨r2_0, _, r2_9⟩ := V.out.box_at (i := 2) (j := 0) rfl rfl
  obtain ⟨r2_1, _, _⟩ := V.out.box_at (i := 2) (j := 1) rfl rfl
  obtain ⟨r2_2, _, _⟩ := V.out.box_at (i := 2) (j := 2) rfl rfl
  obtain ⟨r2_3, _, _⟩ := V.out.box_at (i := 2) (j := 3) rfl rfl
  go_wp2_with fail
  refine (pairError_any x y A B wz (HA.out.below V.out.below) (HB.out.below V.out.below)).mono ?_
  rintro e w1 ⟨rfl, b1⟩
  have V1 := Lib.hid (V.out.go b1)
  rw [HE.out]
  clear b1 V r1_9 r1_0 r1_1 r1_2 r1_3 r2_9 r2_0 r2_1 r2_2 r2_3
  obtain ⟨z0, y0, z90⟩ := V1.out.box_at (i := 0) (j := 0) rfl rfl
  obtain ⟨z1, y1, z91⟩ := V1.out.box_at (i := 0) (j := 1) rfl rfl
  obtain ⟨z2, y2, z92⟩ := V1.out.box_at (i := 0) (j := 2) rfl rfl
  obtain ⟨z3, y3, z93⟩ := V1.out.box_at (i := 0) (j := 3) rfl rfl
  have VE := Lib.hid ((((V1.out.box_set (i := 0) rfl 0 (.int .i64 0)).box_set (i := 0) rfl 1 (.int .i64 0)).box_set (i := 0) rfl 2 (.slice none 0 0)).box_set (i := 0) rfl 3 (.slice none 0 0))
  obtain ⟨u0, _, _⟩ := VE.out.box_at (i := 0) (j := 0) rfl rfl
  obtain ⟨u1, _, _⟩ := VE.out.box_at (i := 0) (j := 1) rfl rfl
  obtain ⟨u2, _, _⟩ := VE.out.box_at (i := 0) (j := 2) rfl rfl
  obtain ⟨u3, _, _⟩ := VE.out.box_at (i := 0) (j := 3) rfl rfl
  have HP := Lib.hid (show ProdPost A B kind W (.returned (.tuple #[zdfa, .int .i64 6])) _ from ⟨VE.out.below, .inr ⟨k, HKA.out, HKB.out, .inl ⟨HKI.out, rfl⟩⟩⟩)
  clear V1 VE
  go_wp2_with fail
  exact bodyPost_ret (v := .tuple #[.agg #[.int .i64 0, .int .i64 0, .slice none 0 0, .slice none 0 0], .int .i64 6]) (by simp [results, Try.results15, go_sem, u0, u1, u2, u3]) rfl HP.out
set_option maxHeartbeats 16000000 in
theorem product_k1 (x y : DV) (A B : Au) (W : World) (hA : DfaIn W x A) (hB : DfaIn W y B) (hp : Au.pE A B = 0) :
    Calls Try.prog 15 #[dval x A, dval y B, .int .i64 1] W (ProdPost A B 1 W) := by
  have HA := Lib.hid hA
  have HB := Lib.hid hB
  clear hA hB
  obtain ⟨wz, hwz⟩ : ∃ z, z = (((W.alloc (.cells #[.int .i64 A.lt, .int .i64 A.st, .slice x.A x.n x.c, .slice x.B x.m x.d] 25)).alloc (.cells #[.int .i64 B.lt, .int .i64 B.st, .slice y.A y.n y.c, .slice y.B y.m y.d] 25)).alloc (.cells #[.int .i64 0, .int .i64 0, .slice none 0 0, .slice none 0 0] 25)) := ⟨_, rfl⟩
  have V := Lib.hid (show Hp W [box 25 (W.heap.size + 1 + 1) [.int .i64 0, .int .i64 0, .slice none 0 0, .slice none 0 0], box 25 (W.heap.size + 1) [.int .i64 B.lt, .int .i64 B.st, .slice y.A y.n y.c, .slice y.B y.m y.d], box 25 W.heap.size [.int .i64 A.lt, .int .i64 A.st, .slice x.A x.n x.c, .slice x.B x.m x.d]] wz by
    have := ((((Hp.start W).box_new 25 [.int .i64 A.lt, .int .i64 A.st, .slice x.A x.n x.c, .slice x.B x.m x.d]).box_new 25 [.int .i64 B.lt, .int .i64 B.st, .slice y.A y.n y.c, .slice y.B y.m y.d]).box_new 25 [.int .i64 0, .int .i64 0, .slice none 0 0, .slice none 0 0])
    rw [hwz]; simpa using this)
  have HZ := Lib.hid hwz
  clear hwz
  obtain ⟨k, hka, hkb⟩ := Au.pE_ok hp
  have HE := Lib.hid hp
  have HKA := Lib.hid hka
  have HKB := Lib.hid hkb
  have hk0 := hka.right.pos
  have hk8 := hka.k8
  clear hp hka hkb
  go_enter Try.func15, Try.ntmps15
  go_upto_region 1 with fail
  rw [← HZ.out]
  clear HZ
  obtain ⟨r1_0, _, r1_9⟩ := V.out.box_at (i := 1) (j := 0) rfl rfl
  obtain ⟨r1_1, _, _⟩ := V.out.box_at (i := 1) (j := 1) rfl rfl
  obtain ⟨r1_2, _, _⟩ := V.out.box_at (i := 1) (j := 2) rfl rfl
  obtain ⟨r1_3, _, _⟩ := V.out.box_at (i := 1) (j := 3) rfl rfl
  obtain ⟨r2_0, _, r2_9⟩ := V.out.box_at (i := 2) (j := 0) rfl rfl
  obtain ⟨r2_1, _, _⟩ := V.out.box_at (i := 2) (j := 1) rfl rfl
  obtain ⟨r2_2, _, _⟩ := V.out.box_at (i := 2) (j := 2) rfl rfl
  obtain ⟨r2_3, _, _⟩ := V.out.box_at (i := 2) (j := 3) rfl rfl
  go_wp2_with fail
  refine (pairError_any x y A B wz (HA.out.below V.out.below) (HB.out.below V.out.below)).mono ?_
  rintro e w1 ⟨rfl, b1⟩
  have V1 := Lib.hid (V.out.go b1)
  rw [HE.out]
  clear b1 V r1_9 r1_0 r1_1 r1_2 r1_3 r2_9 r2_0 r2_1 r2_2 r2_3
  obtain ⟨r1_0, _, r1_9⟩ := V1.out.box_at (i := 1) (j := 0) rfl rfl
  obtain ⟨r1_1, _, _⟩ := V1.out.box_at (i := 1) (j := 1) rfl rfl
  obtain ⟨r1_2, _, _⟩ := V1.out.box_at (i := 1) (j := 2) rfl rfl
  obtain ⟨r1_3, _, _⟩ := V1.out.box_at (i := 1) (j := 3) rfl rfl
  obtain ⟨r2_0, _, r2_9⟩ := V1.out.box_at (i := 2) (j := 0) rfl rfl
  obtain ⟨r2_1, _, _⟩ := V1.out.box_at (i := 2) (j := 1) rfl rfl
  obtain ⟨r2_2, _, _⟩ := V1.out.box_at (i := 2) (j := 2) rfl rfl
  obtain ⟨r2_3, _, _⟩ := V1.out.box_at (i := 2) (j := 3) rfl rfl
  go_wp2_with fail
  refine (reach_any x y A B k w1 (HKA.out.good (HA.out.below V1.out.below)) (HKB.out.good (HB.out.below V1.out.below))).mono ?_
  rintro e w2 ⟨ps, pa, nx, Ap, np, cp, An, nn, cn, Af, nf, cf, rfl, hr, hv2⟩
  have HR := Lib.hid hr
  have hb2 := hv2.below.size
  have hlp := hv2.pair_len (i := 0) rfl
  have HLP := Lib.hid hlp
  have hnp := hr.few (by have := HKA.out.few; omega) (by have := HKB.out.few; omega)
  rw [hlp] at hnp
  have V2 := Lib.hid (V1.out.join hv2)
  clear hr hv2 hlp r1_9 r1_0 r1_1 r1_2 r1_3 r2_9 r2_0 r2_1 r2_2 r2_3
  obtain ⟨gr, hgr⟩ : ∃ z, z = w2.heap.size := ⟨_, rfl⟩
  obtain ⟨w3, hw3⟩ : ∃ z, z = w2.alloc (.cells #[.int .i64 (k : Int), .slice Ap np cp, .slice An nn cn, .slice Af nf cf] 52) := ⟨_, rfl⟩
  have V3 := Lib.hid (show Hp W (box 52 gr [.int .i64 (k : Int), .slice Ap np cp, .slice An nn cn, .slice Af nf cf] :: prow 35 Ap np cp ps :: nums An nn cn nx :: nums Af nf cf (fdOf pa) :: box 25 (W.heap.size + 1 + 1) [.int .i64 0, .int .i64 0, .slice none 0 0, .slice none 0 0] :: box 25 (W.heap.size + 1) [.int .i64 B.lt, .int .i64 B.st, .slice y.A y.n y.c, .slice y.B y.m y.d] :: box 25 W.heap.size [.int .i64 A.lt, .int .i64 A.st, .slice x.A x.n x.c, .slice x.B x.m x.d] :: []) w3 by rw [hw3, hgr]; exact V2.out.box_new 52 [.int .i64 (k : Int), .slice Ap np cp, .slice An nn cn, .slice Af nf cf])
  have HW3 := Lib.hid hw3
  have HGR := Lib.hid hgr
  clear hw3 hgr V2
  go_upto_region 7 with fail
  rw [← HW3.out, ← HGR.out]
  clear HW3 HGR
  have hmk := make_bools (np : Int) np rfl (by omega)
  obtain ⟨r1, _, r9⟩ := V3.out.box_at (i := 0) (j := 1) rfl rfl
  obtain ⟨gf, hgf⟩ : ∃ z, z = w3.heap.size := ⟨_, rfl⟩
  obtain ⟨w4, hw4⟩ : ∃ z, z = w3.alloc (.cells (Array.replicate np (.bool false)) 4) := ⟨_, rfl⟩
  have V4 := Lib.hid (show Hp W (flags (some ⟨gf, 0, none⟩) np np (List.replicate np false) :: box 52 gr [.int .i64 (k : Int), .slice Ap np cp, .slice An nn cn, .slice Af nf cf] :: prow 35 Ap np cp ps :: nums An nn cn nx :: nums Af nf cf (fdOf pa) :: box 25 (W.heap.size + 1 + 1) [.int .i64 0, .int .i64 0, .slice none 0 0, .slice none 0 0] :: box 25 (W.heap.size + 1) [.int .i64 B.lt, .int .i64 B.st, .slice y.A y.n y.c, .slice y.B y.m y.d] :: box 25 W.heap.size [.int .i64 A.lt, .int .i64 A.st, .slice x.A x.n x.c, .slice x.B x.m x.d] :: []) w4 by rw [hw4, hgf]; exact V3.out.made_flagsA np (by omega))
  have HW4 := Lib.hid hw4
  have HGF := Lib.hid hgf
  clear hw4 hgf V3
  go_upto_region 8 with fail
  rw [← HW4.out, ← HGF.out]
  clear HW4 HGF r1 r9 hmk
  obtain ⟨r1, _, r9⟩ := V4.out.box_at (i := 1) (j := 1) rfl rfl
  go_wp2_with fail
  clear r1 r9
  have H1 := Lib.hid (show ∀ (j : Nat) p, j < 0 → ps[j]? = some p → (List.replicate np false).getD j false = combF 1 (A.acc p.1) (B.acc p.2) from fun j p h => absurd h (Nat.not_lt_zero _))
  go_loopw [41] (fun cv wr => ∃ i : Nat, cv = .int .i64 (i : Int) ∧ i ≤ np ∧ ∃ F : List Bool, F.length = np ∧ (∀ (j : Nat) p, j < i → ps[j]? = some p → F.getD j false = combF 1 (A.acc p.1) (B.acc p.2)) ∧ Hp W (flags (some ⟨gf, 0, none⟩) np np F :: box 52 gr [.int .i64 (k : Int), .slice Ap np cp, .slice An nn cn, .slice Af nf cf] :: prow 35 Ap np cp ps :: nums An nn cn nx :: nums Af nf cf (fdOf pa) :: box 25 (W.heap.size + 1 + 1) [.int .i64 0, .int .i64 0, .slice none 0 0, .slice none 0 0] :: box 25 (W.heap.size + 1) [.int .i64 B.lt, .int .i64 B.st, .slice y.A y.n y.c, .slice y.B y.m y.d] :: box 25 W.heap.size [.int .i64 A.lt, .int .i64 A.st, .slice x.A x.n x.c, .slice x.B x.m x.d] :: []) wr) (fun cv _ => np - (intOf cv).toNat)
  case atStart => exact ⟨0, rfl, Nat.zero_le _, _, by simp, H1.out, V4.out⟩
  case round =>
    clear H1 V4
    obtain ⟨i, rfl, hin, F, hFl, hF, hV⟩ := hrel
    obtain ⟨wi, rfl⟩ : ∃ wi : World, wi = wr := ⟨_, rfl⟩
    have V := Lib.hid hV
    have HFL := Lib.hid hFl
    have HF := Lib.hid hF
    clear hV hFl hF
    by_cases hlt : i < np
    · obtain ⟨p, hp⟩ : ∃ p, ps[i]? = some p := ⟨_, List.getElem?_eq_getElem (by rw [HLP.out]; exact hlt)⟩
      have HIN := Lib.hid (HR.out.inl i p hp)
      have HPI := Lib.hid hp
      obtain ⟨gp, rfl⟩ := V.out.head (i := 2) (A := Ap) (c := cp) rfl rfl (show 0 < np by omega)
      obtain ⟨q1, q2, q9⟩ := V.out.pair_at (i := 2) rfl hp
      obtain ⟨p1, p2⟩ := p
      dsimp only at q1 q2
      obtain ⟨w5, hw5⟩ : ∃ z, z = wi.alloc (.cells #[.int .i64 p1, .int .i64 p2] 35) := ⟨_, rfl⟩
      have V5 := Lib.hid (show Hp W (box 35 wi.heap.size [.int .i64 p1, .int .i64 p2] :: flags (some ⟨gf, 0, none⟩) np np F :: box 52 gr [.int .i64 (k : Int), .slice (some ⟨gp, 0, none⟩) np cp, .slice An nn cn, .slice Af nf cf] :: prow 35 (some ⟨gp, 0, none⟩) np cp ps :: nums An nn cn nx :: nums Af nf cf (fdOf pa) :: box 25 (W.heap.size + 1 + 1) [.int .i64 0, .int .i64 0, .slice none 0 0, .slice none 0 0] :: box 25 (W.heap.size + 1) [.int .i64 B.lt, .int .i64 B.st, .slice y.A y.n y.c, .slice y.B y.m y.d] :: box 25 W.heap.size [.int .i64 A.lt, .int .i64 A.st, .slice x.A x.n x.c, .slice x.B x.m x.d] :: []) w5 by rw [hw5]; exact V.out.box_new 35 [.int .i64 p1, .int .i64 p2])
      have HW5 := Lib.hid hw5
      clear hw5 hp V
      go_upto_region 11 with fail
      rw [← HW5.out]
      clear HW5 q1 q2 q9
      have hKp : Keep [(⟨W.heap.size, 0, none⟩, .int .i64 A.lt), (⟨W.heap.size, 1, none⟩, .int .i64 A.st), (⟨W.heap.size, 2, none⟩, .slice x.A x.n x.c), (⟨W.heap.size, 3, none⟩, .slice x.B x.m x.d), (⟨W.heap.size + 1, 0, none⟩, .int .i64 B.lt), (⟨W.heap.size + 1, 1, none⟩, .int .i64 B.st), (⟨W.heap.size + 1, 2, none⟩, .slice y.A y.n y.c), (⟨W.heap.size + 1, 3, none⟩, .slice y.B y.m y.d), (⟨wi.heap.size, 0, none⟩, .int .i64 p1), (⟨wi.heap.size, 1, none⟩, .int .i64 p2)] w5 := List.forall_mem_cons.2 ⟨⟨(V5.out.box_at (i := 8) (j := 0) rfl rfl).1, (V5.out.box_at (i := 8) (j := 0) rfl rfl).2.2⟩, List.forall_mem_cons.2 ⟨⟨(V5.out.box_at (i := 8) (j := 1) rfl rfl).1, (V5.out.box_at (i := 8) (j := 1) rfl rfl).2.2⟩, List.forall_mem_cons.2 ⟨⟨(V5.out.box_at (i := 8) (j := 2) rfl rfl).1, (V5.out.box_at (i := 8) (j := 2) rfl rfl).2.2⟩, List.forall_mem_cons.2 ⟨⟨(V5.out.box_at (i := 8) (j := 3) rfl rfl).1, (V5.out.box_at (i := 8) (j := 3) rfl rfl).2.2⟩, List.forall_mem_cons.2 ⟨⟨(V5.out.box_at (i := 7) (j := 0) rfl rfl).1, (V5.out.box_at (i := 7) (j := 0) rfl rfl).2.2⟩, List.forall_mem_cons.2 ⟨⟨(V5.out.box_at (i := 7) (j := 1) rfl rfl).1, (V5.out.box_at (i := 7) (j := 1) rfl rfl).2.2⟩, List.forall_mem_cons.2 ⟨⟨(V5.out.box_at (i := 7) (j := 2) rfl rfl).1, (V5.out.box_at (i := 7) (j := 2) rfl rfl).2.2⟩, List.forall_mem_cons.2 ⟨⟨(V5.out.box_at (i := 7) (j := 3) rfl rfl).1, (V5.out.box_at (i := 7) (j := 3) rfl rfl).2.2⟩, List.forall_mem_cons.2 ⟨⟨(V5.out.box_at (i := 0) (j := 0) rfl rfl).1, (V5.out.box_at (i := 0) (j := 0) rfl rfl).2.2⟩, List.forall_mem_cons.2 ⟨⟨(V5.out.box_at (i := 0) (j := 1) rfl rfl).1, (V5.out.box_at (i := 0) (j := 1) rfl rfl).2.2⟩, fun _ h => by simp at h⟩⟩⟩⟩⟩⟩⟩⟩⟩⟩
      refine wp_region_held_drew (S := Keep _) (by kernel_rfl) hKp.drew (fun hHeld => ?_)
      have V5d := Lib.hid (V5.out.go (bdrew _))
      refine tk 0 ?_ rfl ?_ ?_; rotate_left; focus (intro w hSw; clear hSw; go_simp; try (with_reducible rfl))
      try simp only [Act.put, sA, sZ, sS]
      refine tk 1 ?_ rfl ?_ ?_; rotate_left; focus (intro w hSw; clear hSw; go_simp; try (with_reducible rfl))
      try simp only [Act.put, sA, sZ, sS]
      refine tk 2 ?_ rfl ?_ ?_; rotate_left; focus (intro w hSw; clear hSw; go_simp; try (with_reducible rfl))
      try simp only [Act.put, sA, sZ, sS]
      refine tk 3 ?_ rfl ?_ ?_; rotate_left
      · intro wl hSw
        have hSw : Keep _ wl := hSw
        have k0 : wl.cell? ⟨W.heap.size, 0, none⟩ = some (.int .i64 A.lt) := (hSw _ (.head _)).1
        have k1 : wl.cell? ⟨W.heap.size, 1, none⟩ = some (.int .i64 A.st) := (hSw _ (.tail _ (.head _))).1
        have k2 : wl.cell? ⟨W.heap.size, 2, none⟩ = some (.slice x.A x.n x.c) := (hSw _ (.tail _ (.tail _ (.head _)))).1
        have k3 : wl.cell? ⟨W.heap.size, 3, none⟩ = some (.slice x.B x.m x.d) := (hSw _ (.tail _ (.tail _ (.tail _ (.head _))))).1
        clear hSw
        go_simp
        try (with_reducible rfl)
      try simp only [Act.put, sA, sZ, sS]
      refine tk 4 ?_ rfl ?_ ?_; rotate_left; focus (intro w hSw; clear hSw; go_simp; try (with_reducible rfl))
      try simp only [Act.put, sA, sZ, sS]
      refine tk 5 ?_ rfl ?_ ?_; rotate_left
      · intro wl hSw
        have hSw : Keep _ wl := hSw
        have k0 : wl.cell? ⟨wi.heap.size, 0, none⟩ = some (.int .i64 p1) := (hSw _ (.tail _ (.tail _ (.tail _ (.tail _ (.tail _ (.tail _ (.tail _ (.tail _ (.head _)))))))))).1
        clear hSw
        go_simp
        try (with_reducible rfl)
      try simp only [Act.put, sA, sZ, sS]
      refine tk 7 ?_ rfl ?_ ?_; rotate_left
      · intro wl hSw
        have hSw : Keep _ wl := hSw
        have k0 : wl.cell? ⟨W.heap.size + 1, 0, none⟩ = some (.int .i64 B.lt) := (hSw _ (.tail _ (.tail _ (.tail _ (.tail _ (.head _)))))).1
        have k1 : wl.cell? ⟨W.heap.size + 1, 1, none⟩ = some (.int .i64 B.st) := (hSw _ (.tail _ (.tail _ (.tail _ (.tail _ (.tail _ (.head _))))))).1
        have k2 : wl.cell? ⟨W.heap.size + 1, 2, none⟩ = some (.slice y.A y.n y.c) := (hSw _ (.tail _ (.tail _ (.tail _ (.tail _ (.tail _ (.tail _ (.head _)))))))).1
        have k3 : wl.cell? ⟨W.heap.size + 1, 3, none⟩ = some (.slice y.B y.m y.d) := (hSw _ (.tail _ (.tail _ (.tail _ (.tail _ (.tail _ (.tail _ (.tail _ (.head _))))))))).1
        clear hSw
        go_simp
        try (with_reducible rfl)
      try simp only [Act.put, sA, sZ, sS]
      refine tk 8 ?_ rfl ?_ ?_; rotate_left; focus (intro w hSw; clear hSw; go_simp; try (with_reducible rfl))
      try simp only [Act.put, sA, sZ, sS]
      refine tk 9 ?_ rfl ?_ ?_; rotate_left
      · intro wl hSw
        have hSw : Keep _ wl := hSw
        have k0 : wl.cell? ⟨wi.heap.size, 1, none⟩ = some (.int .i64 p2) := (hSw _ (.tail _ (.tail _ (.tail _ (.tail _ (.tail _ (.tail _ (.tail _ (.tail _ (.tail _ (.head _))))))))))).1
        clear hSw
        go_simp
        try (with_reducible rfl)
      try simp only [Act.put, sA, sZ, sS]
      refine wpAnyH_ready (rs := [6]) (by kernel_rfl) (by simp) ?_
      refine AllReadyH.cons (List.getElem?_toArray.trans rfl) (fun K hK => ?_) AllReadyH.nil
      go_simp
      refine ((show Good _ x A k from HKA.out.good (HA.out.below V5d.out.below)).isAcc p1 HIN.out.1.1 HIN.out.1.2).mono ?_
      rintro e w_6 ⟨rfl, b_6⟩
      try go_wp2_with fail
      have V_6 := Lib.hid (V5d.out.go b_6)
      refine hK.out _ _ (hHeld.go b_6) (fun hHeld => ?_)
      clear hK K
      try simp only [Act.put, sA, sZ, sS]
      refine wpAnyH_ready (rs := [10]) (by kernel_rfl) (by simp) ?_
      refine AllReadyH.cons (List.getElem?_toArray.trans rfl) (fun K hK => ?_) AllReadyH.nil
      go_simp
      refine ((show Good _ y B k from HKB.out.good (HB.out.below V_6.out.below)).isAcc p2 HIN.out.2.1 HIN.out.2.2).mono ?_
      rintro e w_6_10 ⟨rfl, b_6_10⟩
      try go_wp2_with fail
      have V_6_10 := Lib.hid (V_6.out.go b_6_10)
      refine hK.out _ _ (hHeld.go b_6_10) (fun hHeld => ?_)
      clear hK K
      try simp only [Act.put, sA, sZ, sS]
      refine wpAnyH_ready (rs := [11]) (by kernel_rfl) (by simp) ?_
      refine AllReadyH.cons (List.getElem?_toArray.trans rfl) (fun K hK => ?_) AllReadyH.nil
      go_simp
      refine (combine_any 1 (A.acc p1) (B.acc p2) _).mono ?_
      rintro e w_6_10_11 ⟨rfl, b_6_10_11⟩
      try go_wp2_with fail
      have V_6_10_11 := Lib.hid (V_6_10.out.go b_6_10_11)
      refine hK.out _ _ (hHeld.go b_6_10_11) (fun hHeld => ?_)
      clear hK K
      try simp only [Act.put, sA, sZ, sS]
      refine tk 12 ?_ rfl ?_ ?_; rotate_left; focus (intro w hSw; clear hSw; go_simp; try (with_reducible rfl))
      try simp only [Act.put, sA, sZ, sS]
      refine wpAnyH_ready (rs := [13]) (by kernel_rfl) (by simp) ?_
      refine AllReadyH.cons (List.getElem?_toArray.trans rfl) (fun K hK => ?_) AllReadyH.nil
      obtain ⟨x1, x2, x9⟩ := V_6_10_11.out.flag_at (i := 1) rfl (j := i) (by rw [HFL.out]; exact hlt)
      have VE := Lib.hid (V_6_10_11.out.flag_set (i := 1) rfl i (combF 1 (A.acc p1) (B.acc p2)))
      go_simp
      refine hK.out _ _ (List.forall_mem_cons.2 ⟨⟨(VE.out.box_at (i := 8) (j := 0) rfl rfl).1, (VE.out.box_at (i := 8) (j := 0) rfl rfl).2.2⟩, List.forall_mem_cons.2 ⟨⟨(VE.out.box_at (i := 8) (j := 1) rfl rfl).1, (VE.out.box_at (i := 8) (j := 1) rfl rfl).2.2⟩, List.forall_mem_cons.2 ⟨⟨(VE.out.box_at (i := 8) (j := 2) rfl rfl).1, (VE.out.box_at (i := 8) (j := 2) rfl rfl).2.2⟩, List.forall_mem_cons.2 ⟨⟨(VE.out.box_at (i := 8) (j := 3) rfl rfl).1, (VE.out.box_at (i := 8) (j := 3) rfl rfl).2.2⟩, List.forall_mem_cons.2 ⟨⟨(VE.out.box_at (i := 7) (j := 0) rfl rfl).1, (VE.out.box_at (i := 7) (j := 0) rfl rfl).2.2⟩, List.forall_mem_cons.2 ⟨⟨(VE.out.box_at (i := 7) (j := 1) rfl rfl).1, (VE.out.box_at (i := 7) (j := 1) rfl rfl).2.2⟩, List.forall_mem_cons.2 ⟨⟨(VE.out.box_at (i := 7) (j := 2) rfl rfl).1, (VE.out.box_at (i := 7) (j := 2) rfl rfl).2.2⟩, List.forall_mem_cons.2 ⟨⟨(VE.out.box_at (i := 7) (j := 3) rfl rfl).1, (VE.out.box_at (i := 7) (j := 3) rfl rfl).2.2⟩, List.forall_mem_cons.2 ⟨⟨(VE.out.box_at (i := 0) (j := 0) rfl rfl).1, (VE.out.box_at (i := 0) (j := 0) rfl rfl).2.2⟩, List.forall_mem_cons.2 ⟨⟨(VE.out.box_at (i := 0) (j := 1) rfl rfl).1, (VE.out.box_at (i := 0) (j := 1) rfl rfl).2.2⟩, fun _ h => by simp at h⟩⟩⟩⟩⟩⟩⟩⟩⟩⟩) (fun hHeld => ?_)
      clear hK K
      try simp only [Act.put, sA, sZ, sS]
      refine wpAnyH_done (by kernel_rfl) ?_ _
      have H3 := Lib.hid (show ∀ (j : Nat) q, j < i + 1 → ps[j]? = some q → (F.set i (combF 1 (A.acc p1) (B.acc p2))).getD j false = combF 1 (A.acc q.1) (B.acc q.2) from fun j q hj hq => by
        rw [getD_set (by rw [HFL.out]; exact hlt)]
        by_cases e : j = i
        · subst e
          have : some (p1, p2) = some q := HPI.out.symm.trans hq
          injection this with this
          rw [if_pos rfl, ← this]
        · rw [if_neg e]; exact HF.out j q (by omega) hq)
      clear hHeld hKp
      go_wp2_with fail
      go_roundw
      case rel => exact ⟨i + 1, by go_num, by omega, _, by rw [List.length_set]; exact HFL.out, H3.out, VE.out.tail⟩
      case measure => simp [intOf]; omega
    · obtain rfl : i = np := by omega
      obtain ⟨r0, _, r9⟩ := V.out.box_at (i := 1) (j := 0) rfl rfl
      obtain ⟨r1, _, _⟩ := V.out.box_at (i := 1) (j := 1) rfl rfl
      obtain ⟨r2, _, _⟩ := V.out.box_at (i := 1) (j := 2) rfl rfl
      obtain ⟨r3, _, _⟩ := V.out.box_at (i := 1) (j := 3) rfl rfl
      have hcn : nn ≤ cn := (V.out.cap (i := 3) (A := An) (c := cn) rfl rfl).1
      have hnn := V.out.num_len (i := 3) rfl
      have HNN := Lib.hid hnn
      clear hnn
      go_wp2_with fail
      refine (minimal_any k i Ap i cp An nn cn Af nf cf nx (some ⟨gf, 0, none⟩) i F wi (by have := HR.out.nxok hk0; rw [HLP.out] at this; exact this) hk0 hk8 (by omega) HNN.out hcn (V.out.cells (i := 3) rfl rfl) HFL.out (V.out.cells (i := 0) rfl rfl) (by intro h0; have := HR.out.bfs0 hk0 (by rw [HLP.out]; exact h0); rw [HLP.out] at this; exact this)).mono ?_
      rintro e w6 hm
      have hm := hm.congr (Q := fun u => combF 1 (A.lang u) (B.lang u)) (fun u hu => HR.out.prod (f := fun p => combF 1 (A.acc p.1) (B.acc p.2)) (by show combF 1 (A.acc (-1)) (B.acc (-1)) = false; rw [A.acc_neg (by decide), B.acc_neg (by decide)]; exact combF_no _) (by rw [HFL.out, HLP.out]) (fun j p hj => HF.out j p (by have := (List.getElem?_eq_some_iff.1 hj).1; have := HLP.out; omega) hj) u hu)
      clear r0 r1 r2 r3 r9
      obtain ⟨hb6, Rm, hcan, ⟨hR4, xm, rfl, hxm, kk, gs, hgs, hkk, hxn, hown⟩ | ⟨hR4, rfl⟩⟩ := hm
      · have V6 := Lib.hid (show Hp W (flags (some ⟨gf, 0, none⟩) i i F :: box 52 gr [.int .i64 (k : Int), .slice Ap i cp, .slice An nn cn, .slice Af nf cf] :: prow 35 Ap i cp ps :: nums An nn cn nx :: nums Af nf cf (fdOf pa) :: box 25 (W.heap.size + 1 + 1) [.int .i64 0, .int .i64 0, .slice none 0 0, .slice none 0 0] :: box 25 (W.heap.size + 1) [.int .i64 B.lt, .int .i64 B.st, .slice y.A y.n y.c, .slice y.B y.m y.d] :: box 25 W.heap.size [.int .i64 A.lt, .int .i64 A.st, .slice x.A x.n x.c, .slice x.B x.m x.d] :: (rlist xm.A xm.n xm.c kk gs :: flags xm.B xm.m xm.d Rm.ac :: rowIts kk gs Rm.nx)) w6 from (V.out.join hown).comm)
        have HCAN := Lib.hid hcan
        have HGS := Lib.hid hgs
        have HXM := Lib.hid hxm
        clear hown hcan hgs hxm V
        obtain ⟨z0, y0, z90⟩ := V6.out.box_at (i := 5) (j := 0) rfl rfl
        obtain ⟨z1, y1, z91⟩ := V6.out.box_at (i := 5) (j := 1) rfl rfl
        obtain ⟨z2, y2, z92⟩ := V6.out.box_at (i := 5) (j := 2) rfl rfl
        obtain ⟨z3, y3, z93⟩ := V6.out.box_at (i := 5) (j := 3) rfl rfl
        have VE := Lib.hid ((((V6.out.box_set (i := 5) rfl 0 (.int .i64 Rm.lt)).box_set (i := 5) rfl 1 (.int .i64 Rm.st)).box_set (i := 5) rfl 2 (.slice xm.A xm.n xm.c)).box_set (i := 5) rfl 3 (.slice xm.B xm.m xm.d))
        obtain ⟨u0, _, _⟩ := VE.out.box_at (i := 5) (j := 0) rfl rfl
        obtain ⟨u1, _, _⟩ := VE.out.box_at (i := 5) (j := 1) rfl rfl
        obtain ⟨u2, _, _⟩ := VE.out.box_at (i := 5) (j := 2) rfl rfl
        obtain ⟨u3, _, _⟩ := VE.out.box_at (i := 5) (j := 3) rfl rfl
        have HP := Lib.hid (show ProdPost A B 1 W (.returned (.tuple #[.agg #[.int .i64 Rm.lt, .int .i64 Rm.st, .slice xm.A xm.n xm.c, .slice xm.B xm.m xm.d], .int .i64 0])) _ from ⟨VE.out.below, .inr ⟨k, HKA.out, HKB.out, .inr ⟨by decide, VE.out.below, Rm, HCAN.out, .inl ⟨hR4, xm, rfl, HXM.out, kk, gs, HGS.out, hkk, hxn, VE.out.tail.tail.tail.tail.tail.tail.tail.tail⟩⟩⟩⟩)
        clear V6 VE
        go_wp2_with fail
        exact bodyPost_ret (v := .tuple #[.agg #[.int .i64 Rm.lt, .int .i64 Rm.st, .slice xm.A xm.n xm.c, .slice xm.B xm.m xm.d], .int .i64 0]) (by simp [results, Try.results15, go_sem, u0, u1, u2, u3]) rfl HP.out
      · have V6 := Lib.hid (V.out.go hb6)
        have HCAN := Lib.hid hcan
        clear hcan V
        obtain ⟨z0, y0, z90⟩ := V6.out.box_at (i := 5) (j := 0) rfl rfl
        obtain ⟨z1, y1, z91⟩ := V6.out.box_at (i := 5) (j := 1) rfl rfl
        obtain ⟨z2, y2, z92⟩ := V6.out.box_at (i := 5) (j := 2) rfl rfl
        obtain ⟨z3, y3, z93⟩ := V6.out.box_at (i := 5) (j := 3) rfl rfl
        have VE := Lib.hid ((((V6.out.box_set (i := 5) rfl 0 (.int .i64 0)).box_set (i := 5) rfl 1 (.int .i64 0)).box_set (i := 5) rfl 2 (.slice none 0 0)).box_set (i := 5) rfl 3 (.slice none 0 0))
        obtain ⟨u0, _, _⟩ := VE.out.box_at (i := 5) (j := 0) rfl rfl
        obtain ⟨u1, _, _⟩ := VE.out.box_at (i := 5) (j := 1) rfl rfl
        obtain ⟨u2, _, _⟩ := VE.out.box_at (i := 5) (j := 2) rfl rfl
        obtain ⟨u3, _, _⟩ := VE.out.box_at (i := 5) (j := 3) rfl rfl
        have HP := Lib.hid (show ProdPost A B 1 W (.returned (.tuple #[zdfa, .int .i64 3])) _ from ⟨VE.out.below, .inr ⟨k, HKA.out, HKB.out, .inr ⟨by decide, VE.out.below, Rm, HCAN.out, .inr ⟨hR4, rfl⟩⟩⟩⟩)
        clear V6 VE
        go_wp2_with fail
        exact bodyPost_ret (v := .tuple #[.agg #[.int .i64 0, .int .i64 0, .slice none 0 0, .slice none 0 0], .int .i64 3]) (by simp [results, Try.results15, go_sem, u0, u1, u2, u3]) rfl HP.out
set_option maxHeartbeats 16000000 in
theorem product_k2 (x y : DV) (A B : Au) (W : World) (hA : DfaIn W x A) (hB : DfaIn W y B) (hp : Au.pE A B = 0) :
    Calls Try.prog 15 #[dval x A, dval y B, .int .i64 2] W (ProdPost A B 2 W) := by
  have HA := Lib.hid hA
  have HB := Lib.hid hB
  clear hA hB
  obtain ⟨wz, hwz⟩ : ∃ z, z = (((W.alloc (.cells #[.int .i64 A.lt, .int .i64 A.st, .slice x.A x.n x.c, .slice x.B x.m x.d] 25)).alloc (.cells #[.int .i64 B.lt, .int .i64 B.st, .slice y.A y.n y.c, .slice y.B y.m y.d] 25)).alloc (.cells #[.int .i64 0, .int .i64 0, .slice none 0 0, .slice none 0 0] 25)) := ⟨_, rfl⟩
  have V := Lib.hid (show Hp W [box 25 (W.heap.size + 1 + 1) [.int .i64 0, .int .i64 0, .slice none 0 0, .slice none 0 0], box 25 (W.heap.size + 1) [.int .i64 B.lt, .int .i64 B.st, .slice y.A y.n y.c, .slice y.B y.m y.d], box 25 W.heap.size [.int .i64 A.lt, .int .i64 A.st, .slice x.A x.n x.c, .slice x.B x.m x.d]] wz by
    have := ((((Hp.start W).box_new 25 [.int .i64 A.lt, .int .i64 A.st, .slice x.A x.n x.c, .slice x.B x.m x.d]).box_new 25 [.int .i64 B.lt, .int .i64 B.st, .slice y.A y.n y.c, .slice y.B y.m y.d]).box_new 25 [.int .i64 0, .int .i64 0, .slice none 0 0, .slice none 0 0])
    rw [hwz]; simpa using this)
  have HZ := Lib.hid hwz
  clear hwz
  obtain ⟨k, hka, hkb⟩ := Au.pE_ok hp
  have HE := Lib.hid hp
  have HKA := Lib.hid hka
  have HKB := Lib.hid hkb
  have hk0 := hka.right.pos
  have hk8 := hka.k8
  clear hp hka hkb
  go_enter Try.func15, Try.ntmps15
  go_upto_region 1 with fail
  rw [← HZ.out]
  clear HZ
  obtain ⟨r1_0, _, r1_9⟩ := V.out.box_at (i := 1) (j := 0) rfl rfl
  obtain ⟨r1_1, _, _⟩ := V.out.box_at (i := 1) (j := 1) rfl rfl
  obtain ⟨r1_2, _, _⟩ := V.out.box_at (i := 1) (j := 2) rfl rfl
  obtain ⟨r1_3, _, _⟩ := V.out.box_at (i := 1) (j := 3) rfl rfl
  obtain ⟨r2_0, _, r2_9⟩ := V.out.box_at (i := 2) (j := 0) rfl rfl
  obtain ⟨r2_1, _, _⟩ := V.out.box_at (i := 2) (j := 1) rfl rfl
  obtain ⟨r2_2, _, _⟩ := V.out.box_at (i := 2) (j := 2) rfl rfl
  obtain ⟨r2_3, _, _⟩ := V.out.box_at (i := 2) (j := 3) rfl rfl
  go_wp2_with fail
  refine (pairError_any x y A B wz (HA.out.below V.out.below) (HB.out.below V.out.below)).mono ?_
  rintro e w1 ⟨rfl, b1⟩
  have V1 := Lib.hid (V.out.go b1)
  rw [HE.out]
  clear b1 V r1_9 r1_0 r1_1 r1_2 r1_3 r2_9 r2_0 r2_1 r2_2 r2_3
  obtain ⟨r1_0, _, r1_9⟩ := V1.out.box_at (i := 1) (j := 0) rfl rfl
  obtain ⟨r1_1, _, _⟩ := V1.out.box_at (i := 1) (j := 1) rfl rfl
  obtain ⟨r1_2, _, _⟩ := V1.out.box_at (i := 1) (j := 2) rfl rfl
  obtain ⟨r1_3, _, _⟩ := V1.out.box_at (i := 1) (j := 3) rfl rfl
  obtain ⟨r2_0, _, r2_9⟩ := V1.out.box_at (i := 2) (j := 0) rfl rfl
  obtain ⟨r2_1, _, _⟩ := V1.out.box_at (i := 2) (j := 1) rfl rfl
  obtain ⟨r2_2, _, _⟩ := V1.out.box_at (i := 2) (j := 2) rfl rfl
  obtain ⟨r2_3, _, _⟩ := V1.out.box_at (i := 2) (j := 3) rfl rfl
  go_wp2_with fail
  refine (reach_any x y A B k w1 (HKA.out.good (HA.out.below V1.out.below)) (HKB.out.good (HB.out.below V1.out.below))).mono ?_
  rintro e w2 ⟨ps, pa, nx, Ap, np, cp, An, nn, cn, Af, nf, cf, rfl, hr, hv2⟩
  have HR := Lib.hid hr
  have hb2 := hv2.below.size
  have hlp := hv2.pair_len (i := 0) rfl
  have HLP := Lib.hid hlp
  have hnp := hr.few (by have := HKA.out.few; omega) (by have := HKB.out.few; omega)
  rw [hlp] at hnp
  have V2 := Lib.hid (V1.out.join hv2)
  clear hr hv2 hlp r1_9 r1_0 r1_1 r1_2 r1_3 r2_9 r2_0 r2_1 r2_2 r2_3
  obtain ⟨gr, hgr⟩ : ∃ z, z = w2.heap.size := ⟨_, rfl⟩
  obtain ⟨w3, hw3⟩ : ∃ z, z = w2.alloc (.cells #[.int .i64 (k : Int), .slice Ap np cp, .slice An nn cn, .slice Af nf cf] 52) := ⟨_, rfl⟩
  have V3 := Lib.hid (show Hp W (box 52 gr [.int .i64 (k : Int), .slice Ap np cp, .slice An nn cn, .slice Af nf cf] :: prow 35 Ap np cp ps :: nums An nn cn nx :: nums Af nf cf (fdOf pa) :: box 25 (W.heap.size + 1 + 1) [.int .i64 0, .int .i64 0, .slice none 0 0, .slice none 0 0] :: box 25 (W.heap.size + 1) [.int .i64 B.lt, .int .i64 B.st, .slice y.A y.n y.c, .slice y.B y.m y.d] :: box 25 W.heap.size [.int .i64 A.lt, .int .i64 A.st, .slice x.A x.n x.c, .slice x.B x.m x.d] :: []) w3 by rw [hw3, hgr]; exact V2.out.box_new 52 [.int .i64 (k : Int), .slice Ap np cp, .slice An nn cn, .slice Af nf cf])
  have HW3 := Lib.hid hw3
  have HGR := Lib.hid hgr
  clear hw3 hgr V2
  go_upto_region 7 with fail
  rw [← HW3.out, ← HGR.out]
  clear HW3 HGR
  have hmk := make_bools (np : Int) np rfl (by omega)
  obtain ⟨r1, _, r9⟩ := V3.out.box_at (i := 0) (j := 1) rfl rfl
  obtain ⟨gf, hgf⟩ : ∃ z, z = w3.heap.size := ⟨_, rfl⟩
  obtain ⟨w4, hw4⟩ : ∃ z, z = w3.alloc (.cells (Array.replicate np (.bool false)) 4) := ⟨_, rfl⟩
  have V4 := Lib.hid (show Hp W (flags (some ⟨gf, 0, none⟩) np np (List.replicate np false) :: box 52 gr [.int .i64 (k : Int), .slice Ap np cp, .slice An nn cn, .slice Af nf cf] :: prow 35 Ap np cp ps :: nums An nn cn nx :: nums Af nf cf (fdOf pa) :: box 25 (W.heap.size + 1 + 1) [.int .i64 0, .int .i64 0, .slice none 0 0, .slice none 0 0] :: box 25 (W.heap.size + 1) [.int .i64 B.lt, .int .i64 B.st, .slice y.A y.n y.c, .slice y.B y.m y.d] :: box 25 W.heap.size [.int .i64 A.lt, .int .i64 A.st, .slice x.A x.n x.c, .slice x.B x.m x.d] :: []) w4 by rw [hw4, hgf]; exact V3.out.made_flagsA np (by omega))
  have HW4 := Lib.hid hw4
  have HGF := Lib.hid hgf
  clear hw4 hgf V3
  go_upto_region 8 with fail
  rw [← HW4.out, ← HGF.out]
  clear HW4 HGF r1 r9 hmk
  obtain ⟨r1, _, r9⟩ := V4.out.box_at (i := 1) (j := 1) rfl rfl
  go_wp2_with fail
  clear r1 r9
  have H1 := Lib.hid (show ∀ (j : Nat) p, j < 0 → ps[j]? = some p → (List.replicate np false).getD j false = combF 2 (A.acc p.1) (B.acc p.2) from fun j p h => absurd h (Nat.not_lt_zero _))
  go_loopw [41] (fun cv wr => ∃ i : Nat, cv = .int .i64 (i : Int) ∧ i ≤ np ∧ ∃ F : List Bool, F.length = np ∧ (∀ (j : Nat) p, j < i → ps[j]? = some p → F.getD j false = combF 2 (A.acc p.1) (B.acc p.2)) ∧ Hp W (flags (some ⟨gf, 0, none⟩) np np F :: box 52 gr [.int .i64 (k : Int), .slice Ap np cp, .slice An nn cn, .slice Af nf cf] :: prow 35 Ap np cp ps :: nums An nn cn nx :: nums Af nf cf (fdOf pa) :: box 25 (W.heap.size + 1 + 1) [.int .i64 0, .int .i64 0, .slice none 0 0, .slice none 0 0] :: box 25 (W.heap.size + 1) [.int .i64 B.lt, .int .i64 B.st, .slice y.A y.n y.c, .slice y.B y.m y.d] :: box 25 W.heap.size [.int .i64 A.lt, .int .i64 A.st, .slice x.A x.n x.c, .slice x.B x.m x.d] :: []) wr) (fun cv _ => np - (intOf cv).toNat)
  case atStart => exact ⟨0, rfl, Nat.zero_le _, _, by simp, H1.out, V4.out⟩
  case round =>
    clear H1 V4
    obtain ⟨i, rfl, hin, F, hFl, hF, hV⟩ := hrel
    obtain ⟨wi, rfl⟩ : ∃ wi : World, wi = wr := ⟨_, rfl⟩
    have V := Lib.hid hV
    have HFL := Lib.hid hFl
    have HF := Lib.hid hF
    clear hV hFl hF
    by_cases hlt : i < np
    · obtain ⟨p, hp⟩ : ∃ p, ps[i]? = some p := ⟨_, List.getElem?_eq_getElem (by rw [HLP.out]; exact hlt)⟩
      have HIN := Lib.hid (HR.out.inl i p hp)
      have HPI := Lib.hid hp
      obtain ⟨gp, rfl⟩ := V.out.head (i := 2) (A := Ap) (c := cp) rfl rfl (show 0 < np by omega)
      obtain ⟨q1, q2, q9⟩ := V.out.pair_at (i := 2) rfl hp
      obtain ⟨p1, p2⟩ := p
      dsimp only at q1 q2
      obtain ⟨w5, hw5⟩ : ∃ z, z = wi.alloc (.cells #[.int .i64 p1, .int .i64 p2] 35) := ⟨_, rfl⟩
      have V5 := Lib.hid (show Hp W (box 35 wi.heap.size [.int .i64 p1, .int .i64 p2] :: flags (some ⟨gf, 0, none⟩) np np F :: box 52 gr [.int .i64 (k : Int), .slice (some ⟨gp, 0, none⟩) np cp, .slice An nn cn, .slice Af nf cf] :: prow 35 (some ⟨gp, 0, none⟩) np cp ps :: nums An nn cn nx :: nums Af nf cf (fdOf pa) :: box 25 (W.heap.size + 1 + 1) [.int .i64 0, .int .i64 0, .slice none 0 0, .slice none 0 0] :: box 25 (W.heap.size + 1) [.int .i64 B.lt, .int .i64 B.st, .slice y.A y.n y.c, .slice y.B y.m y.d] :: box 25 W.heap.size [.int .i64 A.lt, .int .i64 A.st, .slice x.A x.n x.c, .slice x.B x.m x.d] :: []) w5 by rw [hw5]; exact V.out.box_new 35 [.int .i64 p1, .int .i64 p2])
      have HW5 := Lib.hid hw5
      clear hw5 hp V
      go_upto_region 11 with fail
      rw [← HW5.out]
      clear HW5 q1 q2 q9
      have hKp : Keep [(⟨W.heap.size, 0, none⟩, .int .i64 A.lt), (⟨W.heap.size, 1, none⟩, .int .i64 A.st), (⟨W.heap.size, 2, none⟩, .slice x.A x.n x.c), (⟨W.heap.size, 3, none⟩, .slice x.B x.m x.d), (⟨W.heap.size + 1, 0, none⟩, .int .i64 B.lt), (⟨W.heap.size + 1, 1, none⟩, .int .i64 B.st), (⟨W.heap.size + 1, 2, none⟩, .slice y.A y.n y.c), (⟨W.heap.size + 1, 3, none⟩, .slice y.B y.m y.d), (⟨wi.heap.size, 0, none⟩, .int .i64 p1), (⟨wi.heap.size, 1, none⟩, .int .i64 p2)] w5 := List.forall_mem_cons.2 ⟨⟨(V5.out.box_at (i := 8) (j := 0) rfl rfl).1, (V5.out.box_at (i := 8) (j := 0) rfl rfl).2.2⟩, List.forall_mem_cons.2 ⟨⟨(V5.out.box_at (i := 8) (j := 1) rfl rfl).1, (V5.out.box_at (i := 8) (j := 1) rfl rfl).2.2⟩, List.forall_mem_cons.2 ⟨⟨(V5.out.box_at (i := 8) (j := 2) rfl rfl).1, (V5.out.box_at (i := 8) (j := 2) rfl rfl).2.2⟩, List.forall_mem_cons.2 ⟨⟨(V5.out.box_at (i := 8) (j := 3) rfl rfl).1, (V5.out.box_at (i := 8) (j := 3) rfl rfl).2.2⟩, List.forall_mem_cons.2 ⟨⟨(V5.out.box_at (i := 7) (j := 0) rfl rfl).1, (V5.out.box_at (i := 7) (j := 0) rfl rfl).2.2⟩, List.forall_mem_cons.2 ⟨⟨(V5.out.box_at (i := 7) (j := 1) rfl rfl).1, (V5.out.box_at (i := 7) (j := 1) rfl rfl).2.2⟩, List.forall_mem_cons.2 ⟨⟨(V5.out.box_at (i := 7) (j := 2) rfl rfl).1, (V5.out.box_at (i := 7) (j := 2) rfl rfl).2.2⟩, List.forall_mem_cons.2 ⟨⟨(V5.out.box_at (i := 7) (j := 3) rfl rfl).1, (V5.out.box_at (i := 7) (j := 3) rfl rfl).2.2⟩, List.forall_mem_cons.2 ⟨⟨(V5.out.box_at (i := 0) (j := 0) rfl rfl).1, (V5.out.box_at (i := 0) (j := 0) rfl rfl).2.2⟩, List.forall_mem_cons.2 ⟨⟨(V5.out.box_at (i := 0) (j := 1) rfl rfl).1, (V5.out.box_at (i := 0) (j := 1) rfl rfl).2.2⟩, fun _ h => by simp at h⟩⟩⟩⟩⟩⟩⟩⟩⟩⟩
      refine wp_region_held_drew (S := Keep _) (by kernel_rfl) hKp.drew (fun hHeld => ?_)
      have V5d := Lib.hid (V5.out.go (bdrew _))
      refine tk 0 ?_ rfl ?_ ?_; rotate_left; focus (intro w hSw; clear hSw; go_simp; try (with_reducible rfl))
      try simp only [Act.put, sA, sZ, sS]
      refine tk 1 ?_ rfl ?_ ?_; rotate_left; focus (intro w hSw; clear hSw; go_simp; try (with_reducible rfl))
      try simp only [Act.put, sA, sZ, sS]
      refine tk 2 ?_ rfl ?_ ?_; rotate_left; focus (intro w hSw; clear hSw; go_simp; try (with_reducible rfl))
      try simp only [Act.put, sA, sZ, sS]
      refine tk 3 ?_ rfl ?_ ?_; rotate_left
      · intro wl hSw
        have hSw : Keep _ wl := hSw
        have k0 : wl.cell? ⟨W.heap.size, 0, none⟩ = some (.int .i64 A.lt) := (hSw _ (.head _)).1
        have k1 : wl.cell? ⟨W.heap.size, 1, none⟩ = some (.int .i64 A.st) := (hSw _ (.tail _ (.head _))).1
        have k2 : wl.cell? ⟨W.heap.size, 2, none⟩ = some (.slice x.A x.n x.c) := (hSw _ (.tail _ (.tail _ (.head _)))).1
        have k3 : wl.cell? ⟨W.heap.size, 3, none⟩ = some (.slice x.B x.m x.d) := (hSw _ (.tail _ (.tail _ (.tail _ (.head _))))).1
        clear hSw
        go_simp
        try (with_reducible rfl)
      try simp only [Act.put, sA, sZ, sS]
      refine tk 4 ?_ rfl ?_ ?_; rotate_left; focus (intro w hSw; clear hSw; go_simp; try (with_reducible rfl))
      try simp only [Act.put, sA, sZ, sS]
      refine tk 5 ?_ rfl ?_ ?_; rotate_left
      · intro wl hSw
        have hSw : Keep _ wl := hSw
        have k0 : wl.cell? ⟨wi.heap.size, 0, none⟩ = some (.int .i64 p1) := (hSw _ (.tail _ (.tail _ (.tail _ (.tail _ (.tail _ (.tail _ (.tail _ (.tail _ (.head _)))))))))).1
        clear hSw
        go_simp
        try (with_reducible rfl)
      try simp only [Act.put, sA, sZ, sS]
      refine tk 7 ?_ rfl ?_ ?_; rotate_left
      · intro wl hSw
        have hSw : Keep _ wl := hSw
        have k0 : wl.cell? ⟨W.heap.size + 1, 0, none⟩ = some (.int .i64 B.lt) := (hSw _ (.tail _ (.tail _ (.tail _ (.tail _ (.head _)))))).1
        have k1 : wl.cell? ⟨W.heap.size + 1, 1, none⟩ = some (.int .i64 B.st) := (hSw _ (.tail _ (.tail _ (.tail _ (.tail _ (.tail _ (.head _))))))).1
        have k2 : wl.cell? ⟨W.heap.size + 1, 2, none⟩ = some (.slice y.A y.n y.c) := (hSw _ (.tail _ (.tail _ (.tail _ (.tail _ (.tail _ (.tail _ (.head _)))))))).1
        have k3 : wl.cell? ⟨W.heap.size + 1, 3, none⟩ = some (.slice y.B y.m y.d) := (hSw _ (.tail _ (.tail _ (.tail _ (.tail _ (.tail _ (.tail _ (.tail _ (.head _))))))))).1
        clear hSw
        go_simp
        try (with_reducible rfl)
      try simp only [Act.put, sA, sZ, sS]
      refine tk 8 ?_ rfl ?_ ?_; rotate_left; focus (intro w hSw; clear hSw; go_simp; try (with_reducible rfl))
      try simp only [Act.put, sA, sZ, sS]
      refine tk 9 ?_ rfl ?_ ?_; rotate_left
      · intro wl hSw
        have hSw : Keep _ wl := hSw
        have k0 : wl.cell? ⟨wi.heap.size, 1, none⟩ = some (.int .i64 p2) := (hSw _ (.tail _ (.tail _ (.tail _ (.tail _ (.tail _ (.tail _ (.tail _ (.tail _ (.tail _ (.head _))))))))))).1
        clear hSw
        go_simp
        try (with_reducible rfl)
      try simp only [Act.put, sA, sZ, sS]
      refine wpAnyH_ready (rs := [6]) (by kernel_rfl) (by simp) ?_
      refine AllReadyH.cons (List.getElem?_toArray.trans rfl) (fun K hK => ?_) AllReadyH.nil
      go_simp
      refine ((show Good _ x A k from HKA.out.good (HA.out.below V5d.out.below)).isAcc p1 HIN.out.1.1 HIN.out.1.2).mono ?_
      rintro e w_6 ⟨rfl, b_6⟩
      try go_wp2_with fail
      have V_6 := Lib.hid (V5d.out.go b_6)
      refine hK.out _ _ (hHeld.go b_6) (fun hHeld => ?_)
      clear hK K
      try simp only [Act.put, sA, sZ, sS]
      refine wpAnyH_ready (rs := [10]) (by kernel_rfl) (by simp) ?_
      refine AllReadyH.cons (List.getElem?_toArray.trans rfl) (fun K hK => ?_) AllReadyH.nil
      go_simp
      refine ((show Good _ y B k from HKB.out.good (HB.out.below V_6.out.below)).isAcc p2 HIN.out.2.1 HIN.out.2.2).mono ?_
      rintro e w_6_10 ⟨rfl, b_6_10⟩
      try go_wp2_with fail
      have V_6_10 := Lib.hid (V_6.out.go b_6_10)
      refine hK.out _ _ (hHeld.go b_6_10) (fun hHeld => ?_)
      clear hK K
      try simp only [Act.put, sA, sZ, sS]
      refine wpAnyH_ready (rs := [11]) (by kernel_rfl) (by simp) ?_
      refine AllReadyH.cons (List.getElem?_toArray.trans rfl) (fun K hK => ?_) AllReadyH.nil
      go_simp
      refine (combine_any 2 (A.acc p1) (B.acc p2) _).mono ?_
      rintro e w_6_10_11 ⟨rfl, b_6_10_11⟩
      try go_wp2_with fail
      have V_6_10_11 := Lib.hid (V_6_10.out.go b_6_10_11)
      refine hK.out _ _ (hHeld.go b_6_10_11) (fun hHeld => ?_)
      clear hK K
      try simp only [Act.put, sA, sZ, sS]
      refine tk 12 ?_ rfl ?_ ?_; rotate_left; focus (intro w hSw; clear hSw; go_simp; try (with_reducible rfl))
      try simp only [Act.put, sA, sZ, sS]
      refine wpAnyH_ready (rs := [13]) (by kernel_rfl) (by simp) ?_
      refine AllReadyH.cons (List.getElem?_toArray.trans rfl) (fun K hK => ?_) AllReadyH.nil
      obtain ⟨x1, x2, x9⟩ := V_6_10_11.out.flag_at (i := 1) rfl (j := i) (by rw [HFL.out]; exact hlt)
      have VE := Lib.hid (V_6_10_11.out.flag_set (i := 1) rfl i (combF 2 (A.acc p1) (B.acc p2)))
      go_simp
      refine hK.out _ _ (List.forall_mem_cons.2 ⟨⟨(VE.out.box_at (i := 8) (j := 0) rfl rfl).1, (VE.out.box_at (i := 8) (j := 0) rfl rfl).2.2⟩, List.forall_mem_cons.2 ⟨⟨(VE.out.box_at (i := 8) (j := 1) rfl rfl).1, (VE.out.box_at (i := 8) (j := 1) rfl rfl).2.2⟩, List.forall_mem_cons.2 ⟨⟨(VE.out.box_at (i := 8) (j := 2) rfl rfl).1, (VE.out.box_at (i := 8) (j := 2) rfl rfl).2.2⟩, List.forall_mem_cons.2 ⟨⟨(VE.out.box_at (i := 8) (j := 3) rfl rfl).1, (VE.out.box_at (i := 8) (j := 3) rfl rfl).2.2⟩, List.forall_mem_cons.2 ⟨⟨(VE.out.box_at (i := 7) (j := 0) rfl rfl).1, (VE.out.box_at (i := 7) (j := 0) rfl rfl).2.2⟩, List.forall_mem_cons.2 ⟨⟨(VE.out.box_at (i := 7) (j := 1) rfl rfl).1, (VE.out.box_at (i := 7) (j := 1) rfl rfl).2.2⟩, List.forall_mem_cons.2 ⟨⟨(VE.out.box_at (i := 7) (j := 2) rfl rfl).1, (VE.out.box_at (i := 7) (j := 2) rfl rfl).2.2⟩, List.forall_mem_cons.2 ⟨⟨(VE.out.box_at (i := 7) (j := 3) rfl rfl).1, (VE.out.box_at (i := 7) (j := 3) rfl rfl).2.2⟩, List.forall_mem_cons.2 ⟨⟨(VE.out.box_at (i := 0) (j := 0) rfl rfl).1, (VE.out.box_at (i := 0) (j := 0) rfl rfl).2.2⟩, List.forall_mem_cons.2 ⟨⟨(VE.out.box_at (i := 0) (j := 1) rfl rfl).1, (VE.out.box_at (i := 0) (j := 1) rfl rfl).2.2⟩, fun _ h => by simp at h⟩⟩⟩⟩⟩⟩⟩⟩⟩⟩) (fun hHeld => ?_)
      clear hK K
      try simp only [Act.put, sA, sZ, sS]
      refine wpAnyH_done (by kernel_rfl) ?_ _
      have H3 := Lib.hid (show ∀ (j : Nat) q, j < i + 1 → ps[j]? = some q → (F.set i (combF 2 (A.acc p1) (B.acc p2))).getD j false = combF 2 (A.acc q.1) (B.acc q.2) from fun j q hj hq => by
        rw [getD_set (by rw [HFL.out]; exact hlt)]
        by_cases e : j = i
        · subst e
          have : some (p1, p2) = some q := HPI.out.symm.trans hq
          injection this with this
          rw [if_pos rfl, ← this]
        · rw [if_neg e]; exact HF.out j q (by omega) hq)
      clear hHeld hKp
      go_wp2_with fail
      go_roundw
      case rel => exact ⟨i + 1, by go_num, by omega, _, by rw [List.length_set]; exact HFL.out, H3.out, VE.out.tail⟩
      case measure => simp [intOf]; omega
    · obtain rfl : i = np := by omega
      obtain ⟨r0, _, r9⟩ := V.out.box_at (i := 1) (j := 0) rfl rfl
      obtain ⟨r1, _, _⟩ := V.out.box_at (i := 1) (j := 1) rfl rfl
      obtain ⟨r2, _, _⟩ := V.out.box_at (i := 1) (j := 2) rfl rfl
      obtain ⟨r3, _, _⟩ := V.out.box_at (i := 1) (j := 3) rfl rfl
      have hcn : nn ≤ cn := (V.out.cap (i := 3) (A := An) (c := cn) rfl rfl).1
      have hnn := V.out.num_len (i := 3) rfl
      have HNN := Lib.hid hnn
      clear hnn
      go_wp2_with fail
      refine (minimal_any k i Ap i cp An nn cn Af nf cf nx (some ⟨gf, 0, none⟩) i F wi (by have := HR.out.nxok hk0; rw [HLP.out] at this; exact this) hk0 hk8 (by omega) HNN.out hcn (V.out.cells (i := 3) rfl rfl) HFL.out (V.out.cells (i := 0) rfl rfl) (by intro h0; have := HR.out.bfs0 hk0 (by rw [HLP.out]; exact h0); rw [HLP.out] at this; exact this)).mono ?_
      rintro e w6 hm
      have hm := hm.congr (Q := fun u => combF 2 (A.lang u) (B.lang u)) (fun u hu => HR.out.prod (f := fun p => combF 2 (A.acc p.1) (B.acc p.2)) (by show combF 2 (A.acc (-1)) (B.acc (-1)) = false; rw [A.acc_neg (by decide), B.acc_neg (by decide)]; exact combF_no _) (by rw [HFL.out, HLP.out]) (fun j p hj => HF.out j p (by have := (List.getElem?_eq_some_iff.1 hj).1; have := HLP.out; omega) hj) u hu)
      clear r0 r1 r2 r3 r9
      obtain ⟨hb6, Rm, hcan, ⟨hR4, xm, rfl, hxm, kk, gs, hgs, hkk, hxn, hown⟩ | ⟨hR4, rfl⟩⟩ := hm
      · have V6 := Lib.hid (show Hp W (flags (some ⟨gf, 0, none⟩) i i F :: box 52 gr [.int .i64 (k : Int), .slice Ap i cp, .slice An nn cn, .slice Af nf cf] :: prow 35 Ap i cp ps :: nums An nn cn nx :: nums Af nf cf (fdOf pa) :: box 25 (W.heap.size + 1 + 1) [.int .i64 0, .int .i64 0, .slice none 0 0, .slice none 0 0] :: box 25 (W.heap.size + 1) [.int .i64 B.lt, .int .i64 B.st, .slice y.A y.n y.c, .slice y.B y.m y.d] :: box 25 W.heap.size [.int .i64 A.lt, .int .i64 A.st, .slice x.A x.n x.c, .slice x.B x.m x.d] :: (rlist xm.A xm.n xm.c kk gs :: flags xm.B xm.m xm.d Rm.ac :: rowIts kk gs Rm.nx)) w6 from (V.out.join hown).comm)
        have HCAN := Lib.hid hcan
        have HGS := Lib.hid hgs
        have HXM := Lib.hid hxm
        clear hown hcan hgs hxm V
        obtain ⟨z0, y0, z90⟩ := V6.out.box_at (i := 5) (j := 0) rfl rfl
        obtain ⟨z1, y1, z91⟩ := V6.out.box_at (i := 5) (j := 1) rfl rfl
        obtain ⟨z2, y2, z92⟩ := V6.out.box_at (i := 5) (j := 2) rfl rfl
        obtain ⟨z3, y3, z93⟩ := V6.out.box_at (i := 5) (j := 3) rfl rfl
        have VE := Lib.hid ((((V6.out.box_set (i := 5) rfl 0 (.int .i64 Rm.lt)).box_set (i := 5) rfl 1 (.int .i64 Rm.st)).box_set (i := 5) rfl 2 (.slice xm.A xm.n xm.c)).box_set (i := 5) rfl 3 (.slice xm.B xm.m xm.d))
        obtain ⟨u0, _, _⟩ := VE.out.box_at (i := 5) (j := 0) rfl rfl
        obtain ⟨u1, _, _⟩ := VE.out.box_at (i := 5) (j := 1) rfl rfl
        obtain ⟨u2, _, _⟩ := VE.out.box_at (i := 5) (j := 2) rfl rfl
        obtain ⟨u3, _, _⟩ := VE.out.box_at (i := 5) (j := 3) rfl rfl
        have HP := Lib.hid (show ProdPost A B 2 W (.returned (.tuple #[.agg #[.int .i64 Rm.lt, .int .i64 Rm.st, .slice xm.A xm.n xm.c, .slice xm.B xm.m xm.d], .int .i64 0])) _ from ⟨VE.out.below, .inr ⟨k, HKA.out, HKB.out, .inr ⟨by decide, VE.out.below, Rm, HCAN.out, .inl ⟨hR4, xm, rfl, HXM.out, kk, gs, HGS.out, hkk, hxn, VE.out.tail.tail.tail.tail.tail.tail.tail.tail⟩⟩⟩⟩)
        clear V6 VE
        go_wp2_with fail
        exact bodyPost_ret (v := .tuple #[.agg #[.int .i64 Rm.lt, .int .i64 Rm.st, .slice xm.A xm.n xm.c, .slice xm.B xm.m xm.d], .int .i64 0]) (by simp [results, Try.results15, go_sem, u0, u1, u2, u3]) rfl HP.out
      · have V6 := Lib.hid (V.out.go hb6)
        have HCAN := Lib.hid hcan
        clear hcan V
        obtain ⟨z0, y0, z90⟩ := V6.out.box_at (i := 5) (j := 0) rfl rfl
        obtain ⟨z1, y1, z91⟩ := V6.out.box_at (i := 5) (j := 1) rfl rfl
        obtain ⟨z2, y2, z92⟩ := V6.out.box_at (i := 5) (j := 2) rfl rfl
        obtain ⟨z3, y3, z93⟩ := V6.out.box_at (i := 5) (j := 3) rfl rfl
        have VE := Lib.hid ((((V6.out.box_set (i := 5) rfl 0 (.int .i64 0)).box_set (i := 5) rfl 1 (.int .i64 0)).box_set (i := 5) rfl 2 (.slice none 0 0)).box_set (i := 5) rfl 3 (.slice none 0 0))
        obtain ⟨u0, _, _⟩ := VE.out.box_at (i := 5) (j := 0) rfl rfl
        obtain ⟨u1, _, _⟩ := VE.out.box_at (i := 5) (j := 1) rfl rfl
        obtain ⟨u2, _, _⟩ := VE.out.box_at (i := 5) (j := 2) rfl rfl
        obtain ⟨u3, _, _⟩ := VE.out.box_at (i := 5) (j := 3) rfl rfl
        have HP := Lib.hid (show ProdPost A B 2 W (.returned (.tuple #[zdfa, .int .i64 3])) _ from ⟨VE.out.below, .inr ⟨k, HKA.out, HKB.out, .inr ⟨by decide, VE.out.below, Rm, HCAN.out, .inr ⟨hR4, rfl⟩⟩⟩⟩)
        clear V6 VE
        go_wp2_with fail
        exact bodyPost_ret (v := .tuple #[.agg #[.int .i64 0, .int .i64 0, .slice none 0 0, .slice none 0 0], .int .i64 3]) (by simp [results, Try.results15, go_sem, u0, u1, u2, u3]) rfl HP.out
set_option maxHeartbeats 16000000 in
theorem product_k3 (x y : DV) (A B : Au) (W : World) (hA : DfaIn W x A) (hB : DfaIn W y B) (hp : Au.pE A B = 0) :
    Calls Try.prog 15 #[dval x A, dval y B, .int .i64 3] W (ProdPost A B 3 W) := by
  have HA := Lib.hid hA
  have HB := Lib.hid hB
  clear hA hB
  obtain ⟨wz, hwz⟩ : ∃ z, z = (((W.alloc (.cells #[.int .i64 A.lt, .int .i64 A.st, .slice x.A x.n x.c, .slice x.B x.m x.d] 25)).alloc (.cells #[.int .i64 B.lt, .int .i64 B.st, .slice y.A y.n y.c, .slice y.B y.m y.d] 25)).alloc (.cells #[.int .i64 0, .int .i64 0, .slice none 0 0, .slice none 0 0] 25)) := ⟨_, rfl⟩
  have V := Lib.hid (show Hp W [box 25 (W.heap.size + 1 + 1) [.int .i64 0, .int .i64 0, .slice none 0 0, .slice none 0 0], box 25 (W.heap.size + 1) [.int .i64 B.lt, .int .i64 B.st, .slice y.A y.n y.c, .slice y.B y.m y.d], box 25 W.heap.size [.int .i64 A.lt, .int .i64 A.st, .slice x.A x.n x.c, .slice x.B x.m x.d]] wz by
    have := ((((Hp.start W).box_new 25 [.int .i64 A.lt, .int .i64 A.st, .slice x.A x.n x.c, .slice x.B x.m x.d]).box_new 25 [.int .i64 B.lt, .int .i64 B.st, .slice y.A y.n y.c, .slice y.B y.m y.d]).box_new 25 [.int .i64 0, .int .i64 0, .slice none 0 0, .slice none 0 0])
    rw [hwz]; simpa using this)
  have HZ := Lib.hid hwz
  clear hwz
  obtain ⟨k, hka, hkb⟩ := Au.pE_ok hp
  have HE := Lib.hid hp
  have HKA := Lib.hid hka
  have HKB := Lib.hid hkb
  have hk0 := hka.right.pos
  have hk8 := hka.k8
  clear hp hka hkb
  go_enter Try.func15, Try.ntmps15
  go_upto_region 1 with fail
  rw [← HZ.out]
  clear HZ
  obtain ⟨r1_0, _, r1_9⟩ := V.out.box_at (i := 1) (j := 0) rfl rfl
  obtain ⟨r1_1, _, _⟩ := V.out.box_at (i := 1) (j := 1) rfl rfl
  obtain ⟨r1_2, _, _⟩ := V.out.box_at (i := 1) (j := 2) rfl rfl
  obtain ⟨r1_3, _, _⟩ := V.out.box_at (i := 1) (j := 3) rfl rfl
  obtain ⟨r2_0, _, r2_9⟩ := V.out.box_at (i := 2) (j := 0) rfl rfl
  obtain ⟨r2_1, _, _⟩ := V.out.box_at (i := 2) (j := 1) rfl rfl
  obtain ⟨r2_2, _, _⟩ := V.out.box_at (i := 2) (j := 2) rfl rfl
  obtain ⟨r2_3, _, _⟩ := V.out.box_at (i := 2) (j := 3) rfl rfl
  go_wp2_with fail
  refine (pairError_any x y A B wz (HA.out.below V.out.below) (HB.out.below V.out.below)).mono ?_
  rintro e w1 ⟨rfl, b1⟩
  have V1 := Lib.hid (V.out.go b1)
  rw [HE.out]
  clear b1 V r1_9 r1_0 r1_1 r1_2 r1_3 r2_9 r2_0 r2_1 r2_2 r2_3
  obtain ⟨r1_0, _, r1_9⟩ := V1.out.box_at (i := 1) (j := 0) rfl rfl
  obtain ⟨r1_1, _, _⟩ := V1.out.box_at (i := 1) (j := 1) rfl rfl
  obtain ⟨r1_2, _, _⟩ := V1.out.box_at (i := 1) (j := 2) rfl rfl
  obtain ⟨r1_3, _, _⟩ := V1.out.box_at (i := 1) (j := 3) rfl rfl
  obtain ⟨r2_0, _, r2_9⟩ := V1.out.box_at (i := 2) (j := 0) rfl rfl
  obtain ⟨r2_1, _, _⟩ := V1.out.box_at (i := 2) (j := 1) rfl rfl
  obtain ⟨r2_2, _, _⟩ := V1.out.box_at (i := 2) (j := 2) rfl rfl
  obtain ⟨r2_3, _, _⟩ := V1.out.box_at (i := 2) (j := 3) rfl rfl
  go_wp2_with fail
  refine (reach_any x y A B k w1 (HKA.out.good (HA.out.below V1.out.below)) (HKB.out.good (HB.out.below V1.out.below))).mono ?_
  rintro e w2 ⟨ps, pa, nx, Ap, np, cp, An, nn, cn, Af, nf, cf, rfl, hr, hv2⟩
  have HR := Lib.hid hr
  have hb2 := hv2.below.size
  have hlp := hv2.pair_len (i := 0) rfl
  have HLP := Lib.hid hlp
  have hnp := hr.few (by have := HKA.out.few; omega) (by have := HKB.out.few; omega)
  rw [hlp] at hnp
  have V2 := Lib.hid (V1.out.join hv2)
  clear hr hv2 hlp r1_9 r1_0 r1_1 r1_2 r1_3 r2_9 r2_0 r2_1 r2_2 r2_3
  obtain ⟨gr, hgr⟩ : ∃ z, z = w2.heap.size := ⟨_, rfl⟩
  obtain ⟨w3, hw3⟩ : ∃ z, z = w2.alloc (.cells #[.int .i64 (k : Int), .slice Ap np cp, .slice An nn cn, .slice Af nf cf] 52) := ⟨_, rfl⟩
  have V3 := Lib.hid (show Hp W (box 52 gr [.int .i64 (k : Int), .slice Ap np cp, .slice An nn cn, .slice Af nf cf] :: prow 35 Ap np cp ps :: nums An nn cn nx :: nums Af nf cf (fdOf pa) :: box 25 (W.heap.size + 1 + 1) [.int .i64 0, .int .i64 0, .slice none 0 0, .slice none 0 0] :: box 25 (W.heap.size + 1) [.int .i64 B.lt, .int .i64 B.st, .slice y.A y.n y.c, .slice y.B y.m y.d] :: box 25 W.heap.size [.int .i64 A.lt, .int .i64 A.st, .slice x.A x.n x.c, .slice x.B x.m x.d] :: []) w3 by rw [hw3, hgr]; exact V2.out.box_new 52 [.int .i64 (k : Int), .slice Ap np cp, .slice An nn cn, .slice Af nf cf])
  have HW3 := Lib.hid hw3
  have HGR := Lib.hid hgr
  clear hw3 hgr V2
  go_upto_region 7 with fail
  rw [← HW3.out, ← HGR.out]
  clear HW3 HGR
  have hmk := make_bools (np : Int) np rfl (by omega)
  obtain ⟨r1, _, r9⟩ := V3.out.box_at (i := 0) (j := 1) rfl rfl
  obtain ⟨gf, hgf⟩ : ∃ z, z = w3.heap.size := ⟨_, rfl⟩
  obtain ⟨w4, hw4⟩ : ∃ z, z = w3.alloc (.cells (Array.replicate np (.bool false)) 4) := ⟨_, rfl⟩
  have V4 := Lib.hid (show Hp W (flags (some ⟨gf, 0, none⟩) np np (List.replicate np false) :: box 52 gr [.int .i64 (k : Int), .slice Ap np cp, .slice An nn cn, .slice Af nf cf] :: prow 35 Ap np cp ps :: nums An nn cn nx :: nums Af nf cf (fdOf pa) :: box 25 (W.heap.size + 1 + 1) [.int .i64 0, .int .i64 0, .slice none 0 0, .slice none 0 0] :: box 25 (W.heap.size + 1) [.int .i64 B.lt, .int .i64 B.st, .slice y.A y.n y.c, .slice y.B y.m y.d] :: box 25 W.heap.size [.int .i64 A.lt, .int .i64 A.st, .slice x.A x.n x.c, .slice x.B x.m x.d] :: []) w4 by rw [hw4, hgf]; exact V3.out.made_flagsA np (by omega))
  have HW4 := Lib.hid hw4
  have HGF := Lib.hid hgf
  clear hw4 hgf V3
  go_upto_region 8 with fail
  rw [← HW4.out, ← HGF.out]
  clear HW4 HGF r1 r9 hmk
  obtain ⟨r1, _, r9⟩ := V4.out.box_at (i := 1) (j := 1) rfl rfl
  go_wp2_with fail
  clear r1 r9
  have H1 := Lib.hid (show ∀ (j : Nat) p, j < 0 → ps[j]? = some p → (List.replicate np false).getD j false = combF 3 (A.acc p.1) (B.acc p.2) from fun j p h => absurd h (Nat.not_lt_zero _))
  go_loopw [41] (fun cv wr => ∃ i : Nat, cv = .int .i64 (i : Int) ∧ i ≤ np ∧ ∃ F : List Bool, F.length = np ∧ (∀ (j : Nat) p, j < i → ps[j]? = some p → F.getD j false = combF 3 (A.acc p.1) (B.acc p.2)) ∧ Hp W (flags (some ⟨gf, 0, none⟩) np np F :: box 52 gr [.int .i64 (k : Int), .slice Ap np cp, .slice An nn cn, .slice Af nf cf] :: prow 35 Ap np cp ps :: nums An nn cn nx :: nums Af nf cf (fdOf pa) :: box 25 (W.heap.size + 1 + 1) [.int .i64 0, .int .i64 0, .slice none 0 0, .slice none 0 0] :: box 25 (W.heap.size + 1) [.int .i64 B.lt, .int .i64 B.st, .slice y.A y.n y.c, .slice y.B y.m y.d] :: box 25 W.heap.size [.int .i64 A.lt, .int .i64 A.st, .slice x.A x.n x.c, .slice x.B x.m x.d] :: []) wr) (fun cv _ => np - (intOf cv).toNat)
  case atStart => exact ⟨0, rfl, Nat.zero_le _, _, by simp, H1.out, V4.out⟩
  case round =>
    clear H1 V4
    obtain ⟨i, rfl, hin, F, hFl, hF, hV⟩ := hrel
    obtain ⟨wi, rfl⟩ : ∃ wi : World, wi = wr := ⟨_, rfl⟩
    have V := Lib.hid hV
    have HFL := Lib.hid hFl
    have HF := Lib.hid hF
    clear hV hFl hF
    by_cases hlt : i < np
    · obtain ⟨p, hp⟩ : ∃ p, ps[i]? = some p := ⟨_, List.getElem?_eq_getElem (by rw [HLP.out]; exact hlt)⟩
      have HIN := Lib.hid (HR.out.inl i p hp)
      have HPI := Lib.hid hp
      obtain ⟨gp, rfl⟩ := V.out.head (i := 2) (A := Ap) (c := cp) rfl rfl (show 0 < np by omega)
      obtain ⟨q1, q2, q9⟩ := V.out.pair_at (i := 2) rfl hp
      obtain ⟨p1, p2⟩ := p
      dsimp only at q1 q2
      obtain ⟨w5, hw5⟩ : ∃ z, z = wi.alloc (.cells #[.int .i64 p1, .int .i64 p2] 35) := ⟨_, rfl⟩
      have V5 := Lib.hid (show Hp W (box 35 wi.heap.size [.int .i64 p1, .int .i64 p2] :: flags (some ⟨gf, 0, none⟩) np np F :: box 52 gr [.int .i64 (k : Int), .slice (some ⟨gp, 0, none⟩) np cp, .slice An nn cn, .slice Af nf cf] :: prow 35 (some ⟨gp, 0, none⟩) np cp ps :: nums An nn cn nx :: nums Af nf cf (fdOf pa) :: box 25 (W.heap.size + 1 + 1) [.int .i64 0, .int .i64 0, .slice none 0 0, .slice none 0 0] :: box 25 (W.heap.size + 1) [.int .i64 B.lt, .int .i64 B.st, .slice y.A y.n y.c, .slice y.B y.m y.d] :: box 25 W.heap.size [.int .i64 A.lt, .int .i64 A.st, .slice x.A x.n x.c, .slice x.B x.m x.d] :: []) w5 by rw [hw5]; exact V.out.box_new 35 [.int .i64 p1, .int .i64 p2])
      have HW5 := Lib.hid hw5
      clear hw5 hp V
      go_upto_region 11 with fail
      rw [← HW5.out]
      clear HW5 q1 q2 q9
      have hKp : Keep [(⟨W.heap.size, 0, none⟩, .int .i64 A.lt), (⟨W.heap.size, 1, none⟩, .int .i64 A.st), (⟨W.heap.size, 2, none⟩, .slice x.A x.n x.c), (⟨W.heap.size, 3, none⟩, .slice x.B x.m x.d), (⟨W.heap.size + 1, 0, none⟩, .int .i64 B.lt), (⟨W.heap.size + 1, 1, none⟩, .int .i64 B.st), (⟨W.heap.size + 1, 2, none⟩, .slice y.A y.n y.c), (⟨W.heap.size + 1, 3, none⟩, .slice y.B y.m y.d), (⟨wi.heap.size, 0, none⟩, .int .i64 p1), (⟨wi.heap.size, 1, none⟩, .int .i64 p2)] w5 := List.forall_mem_cons.2 ⟨⟨(V5.out.box_at (i := 8) (j := 0) rfl rfl).1, (V5.out.box_at (i := 8) (j := 0) rfl rfl).2.2⟩, List.forall_mem_cons.2 ⟨⟨(V5.out.box_at (i := 8) (j := 1) rfl rfl).1, (V5.out.box_at (i := 8) (j := 1) rfl rfl).2.2⟩, List.forall_mem_cons.2 ⟨⟨(V5.out.box_at (i := 8) (j := 2) rfl rfl).1, (V5.out.box_at (i := 8) (j := 2) rfl rfl).2.2⟩, List.forall_mem_cons.2 ⟨⟨(V5.out.box_at (i := 8) (j := 3) rfl rfl).1, (V5.out.box_at (i := 8) (j := 3) rfl rfl).2.2⟩, List.forall_mem_cons.2 ⟨⟨(V5.out.box_at (i := 7) (j := 0) rfl rfl).1, (V5.out.box_at (i := 7) (j := 0) rfl rfl).2.2⟩, List.forall_mem_cons.2 ⟨⟨(V5.out.box_at (i := 7) (j := 1) rfl rfl).1, (V5.out.box_at (i := 7) (j := 1) rfl rfl).2.2⟩, List.forall_mem_cons.2 ⟨⟨(V5.out.box_at (i := 7) (j := 2) rfl rfl).1, (V5.out.box_at (i := 7) (j := 2) rfl rfl).2.2⟩, List.forall_mem_cons.2 ⟨⟨(V5.out.box_at (i := 7) (j := 3) rfl rfl).1, (V5.out.box_at (i := 7) (j := 3) rfl rfl).2.2⟩, List.forall_mem_cons.2 ⟨⟨(V5.out.box_at (i := 0) (j := 0) rfl rfl).1, (V5.out.box_at (i := 0) (j := 0) rfl rfl).2.2⟩, List.forall_mem_cons.2 ⟨⟨(V5.out.box_at (i := 0) (j := 1) rfl rfl).1, (V5.out.box_at (i := 0) (j := 1) rfl rfl).2.2⟩, fun _ h => by simp at h⟩⟩⟩⟩⟩⟩⟩⟩⟩⟩
      refine wp_region_held_drew (S := Keep _) (by kernel_rfl) hKp.drew (fun hHeld => ?_)
      have V5d := Lib.hid (V5.out.go (bdrew _))
      refine tk 0 ?_ rfl ?_ ?_; rotate_left; focus (intro w hSw; clear hSw; go_simp; try (with_reducible rfl))
      try simp only [Act.put, sA, sZ, sS]
      refine tk 1 ?_ rfl ?_ ?_; rotate_left; focus (intro w hSw; clear hSw; go_simp; try (with_reducible rfl))
      try simp only [Act.put, sA, sZ, sS]
      refine tk 2 ?_ rfl ?_ ?_; rotate_left; focus (intro w hSw; clear hSw; go_simp; try (with_reducible rfl))
      try simp only [Act.put, sA, sZ, sS]
      refine tk 3 ?_ rfl ?_ ?_; rotate_left
      · intro wl hSw
        have hSw : Keep _ wl := hSw
        have k0 : wl.cell? ⟨W.heap.size, 0, none⟩ = some (.int .i64 A.lt) := (hSw _ (.head _)).1
        have k1 : wl.cell? ⟨W.heap.size, 1, none⟩ = some (.int .i64 A.st) := (hSw _ (.tail _ (.head _))).1
        have k2 : wl.cell? ⟨W.heap.size, 2, none⟩ = some (.slice x.A x.n x.c) := (hSw _ (.tail _ (.tail _ (.head _)))).1
        have k3 : wl.cell? ⟨W.heap.size, 3, none⟩ = some (.slice x.B x.m x.d) := (hSw _ (.tail _ (.tail _ (.tail _ (.head _))))).1
        clear hSw
        go_simp
        try (with_reducible rfl)
      try simp only [Act.put, sA, sZ, sS]
      refine tk 4 ?_ rfl ?_ ?_; rotate_left; focus (intro w hSw; clear hSw; go_simp; try (with_reducible rfl))
      try simp only [Act.put, sA, sZ, sS]
      refine tk 5 ?_ rfl ?_ ?_; rotate_left
      · intro wl hSw
        have hSw : Keep _ wl := hSw
        have k0 : wl.cell? ⟨wi.heap.size, 0, none⟩ = some (.int .i64 p1) := (hSw _ (.tail _ (.tail _ (.tail _ (.tail _ (.tail _ (.tail _ (.tail _ (.tail _ (.head _)))))))))).1
        clear hSw
        go_simp
        try (with_reducible rfl)
      try simp only [Act.put, sA, sZ, sS]
      refine tk 7 ?_ rfl ?_ ?_; rotate_left
      · intro wl hSw
        have hSw : Keep _ wl := hSw
        have k0 : wl.cell? ⟨W.heap.size + 1, 0, none⟩ = some (.int .i64 B.lt) := (hSw _ (.tail _ (.tail _ (.tail _ (.tail _ (.head _)))))).1
        have k1 : wl.cell? ⟨W.heap.size + 1, 1, none⟩ = some (.int .i64 B.st) := (hSw _ (.tail _ (.tail _ (.tail _ (.tail _ (.tail _ (.head _))))))).1
        have k2 : wl.cell? ⟨W.heap.size + 1, 2, none⟩ = some (.slice y.A y.n y.c) := (hSw _ (.tail _ (.tail _ (.tail _ (.tail _ (.tail _ (.tail _ (.head _)))))))).1
        have k3 : wl.cell? ⟨W.heap.size + 1, 3, none⟩ = some (.slice y.B y.m y.d) := (hSw _ (.tail _ (.tail _ (.tail _ (.tail _ (.tail _ (.tail _ (.tail _ (.head _))))))))).1
        clear hSw
        go_simp
        try (with_reducible rfl)
      try simp only [Act.put, sA, sZ, sS]
      refine tk 8 ?_ rfl ?_ ?_; rotate_left; focus (intro w hSw; clear hSw; go_simp; try (with_reducible rfl))
      try simp only [Act.put, sA, sZ, sS]
      refine tk 9 ?_ rfl ?_ ?_; rotate_left
      · intro wl hSw
        have hSw : Keep _ wl := hSw
        have k0 : wl.cell? ⟨wi.heap.size, 1, none⟩ = some (.int .i64 p2) := (hSw _ (.tail _ (.tail _ (.tail _ (.tail _ (.tail _ (.tail _ (.tail _ (.tail _ (.tail _ (.head _))))))))))).1
        clear hSw
        go_simp
        try (with_reducible rfl)
      try simp only [Act.put, sA, sZ, sS]
      refine wpAnyH_ready (rs := [6]) (by kernel_rfl) (by simp) ?_
      refine AllReadyH.cons (List.getElem?_toArray.trans rfl) (fun K hK => ?_) AllReadyH.nil
      go_simp
      refine ((show Good _ x A k from HKA.out.good (HA.out.below V5d.out.below)).isAcc p1 HIN.out.1.1 HIN.out.1.2).mono ?_
      rintro e w_6 ⟨rfl, b_6⟩
      try go_wp2_with fail
      have V_6 := Lib.hid (V5d.out.go b_6)
      refine hK.out _ _ (hHeld.go b_6) (fun hHeld => ?_)
      clear hK K
      try simp only [Act.put, sA, sZ, sS]
      refine wpAnyH_ready (rs := [10]) (by kernel_rfl) (by simp) ?_
      refine AllReadyH.cons (List.getElem?_toArray.trans rfl) (fun K hK => ?_) AllReadyH.nil
      go_simp
      refine ((show Good _ y B k from HKB.out.good (HB.out.below V_6.out.below)).isAcc p2 HIN.out.2.1 HIN.out.2.2).mono ?_
      rintro e w_6_10 ⟨rfl, b_6_10⟩
      try go_wp2_with fail
      have V_6_10 := Lib.hid (V_6.out.go b_6_10)
      refine hK.out _ _ (hHeld.go b_6_10) (fun hHeld => ?_)
      clear hK K
      try simp only [Act.put, sA, sZ, sS]
      refine wpAnyH_ready (rs := [11]) (by kernel_rfl) (by simp) ?_
      refine AllReadyH.cons (List.getElem?_toArray.trans rfl) (fun K hK => ?_) AllReadyH.nil
      go_simp
      refine (combine_any 3 (A.acc p1) (B.acc p2) _).mono ?_
      rintro e w_6_10_11 ⟨rfl, b_6_10_11⟩
      try go_wp2_with fail
      have V_6_10_11 := Lib.hid (V_6_10.out.go b_6_10_11)
      refine hK.out _ _ (hHeld.go b_6_10_11) (fun hHeld => ?_)
      clear hK K
      try simp only [Act.put, sA, sZ, sS]
      refine tk 12 ?_ rfl ?_ ?_; rotate_left; focus (intro w hSw; clear hSw; go_simp; try (with_reducible rfl))
      try simp only [Act.put, sA, sZ, sS]
      refine wpAnyH_ready (rs := [13]) (by kernel_rfl) (by simp) ?_
      refine AllReadyH.cons (List.getElem?_toArray.trans rfl) (fun K hK => ?_) AllReadyH.nil
      obtain ⟨x1, x2, x9⟩ := V_6_10_11.out.flag_at (i := 1) rfl (j := i) (by rw [HFL.out]; exact hlt)
      have VE := Lib.hid (V_6_10_11.out.flag_set (i := 1) rfl i (combF 3 (A.acc p1) (B.acc p2)))
      go_simp
      refine hK.out _ _ (List.forall_mem_cons.2 ⟨⟨(VE.out.box_at (i := 8) (j := 0) rfl rfl).1, (VE.out.box_at (i := 8) (j := 0) rfl rfl).2.2⟩, List.forall_mem_cons.2 ⟨⟨(VE.out.box_at (i := 8) (j := 1) rfl rfl).1, (VE.out.box_at (i := 8) (j := 1) rfl rfl).2.2⟩, List.forall_mem_cons.2 ⟨⟨(VE.out.box_at (i := 8) (j := 2) rfl rfl).1, (VE.out.box_at (i := 8) (j := 2) rfl rfl).2.2⟩, List.forall_mem_cons.2 ⟨⟨(VE.out.box_at (i := 8) (j := 3) rfl rfl).1, (VE.out.box_at (i := 8) (j := 3) rfl rfl).2.2⟩, List.forall_mem_cons.2 ⟨⟨(VE.out.box_at (i := 7) (j := 0) rfl rfl).1, (VE.out.box_at (i := 7) (j := 0) rfl rfl).2.2⟩, List.forall_mem_cons.2 ⟨⟨(VE.out.box_at (i := 7) (j := 1) rfl rfl).1, (VE.out.box_at (i := 7) (j := 1) rfl rfl).2.2⟩, List.forall_mem_cons.2 ⟨⟨(VE.out.box_at (i := 7) (j := 2) rfl rfl).1, (VE.out.box_at (i := 7) (j := 2) rfl rfl).2.2⟩, List.forall_mem_cons.2 ⟨⟨(VE.out.box_at (i := 7) (j := 3) rfl rfl).1, (VE.out.box_at (i := 7) (j := 3) rfl rfl).2.2⟩, List.forall_mem_cons.2 ⟨⟨(VE.out.box_at (i := 0) (j := 0) rfl rfl).1, (VE.out.box_at (i := 0) (j := 0) rfl rfl).2.2⟩, List.forall_mem_cons.2 ⟨⟨(VE.out.box_at (i := 0) (j := 1) rfl rfl).1, (VE.out.box_at (i := 0) (j := 1) rfl rfl).2.2⟩, fun _ h => by simp at h⟩⟩⟩⟩⟩⟩⟩⟩⟩⟩) (fun hHeld => ?_)
      clear hK K
      try simp only [Act.put, sA, sZ, sS]
      refine wpAnyH_done (by kernel_rfl) ?_ _
      have H3 := Lib.hid (show ∀ (j : Nat) q, j < i + 1 → ps[j]? = some q → (F.set i (combF 3 (A.acc p1) (B.acc p2))).getD j false = combF 3 (A.acc q.1) (B.acc q.2) from fun j q hj hq => by
        rw [getD_set (by rw [HFL.out]; exact hlt)]
        by_cases e : j = i
        · subst e
          have : some (p1, p2) = some q := HPI.out.symm.trans hq
          injection this with this
          rw [if_pos rfl, ← this]
        · rw [if_neg e]; exact HF.out j q (by omega) hq)
      clear hHeld hKp
      go_wp2_with fail
      go_roundw
      case rel => exact ⟨i + 1, by go_num, by omega, _, by rw [List.length_set]; exact HFL.out, H3.out, VE.out.tail⟩
      case measure => simp [intOf]; omega
    · obtain rfl : i = np := by omega
      obtain ⟨r0, _, r9⟩ := V.out.box_at (i := 1) (j := 0) rfl rfl
      obtain ⟨r1, _, _⟩ := V.out.box_at (i := 1) (j := 1) rfl rfl
      obtain ⟨r2, _, _⟩ := V.out.box_at (i := 1) (j := 2) rfl rfl
      obtain ⟨r3, _, _⟩ := V.out.box_at (i := 1) (j := 3) rfl rfl
      have hcn : nn ≤ cn := (V.out.cap (i := 3) (A := An) (c := cn) rfl rfl).1
      have hnn := V.out.num_len (i := 3) rfl
      have HNN := Lib.hid hnn
      clear hnn
      go_wp2_with fail
      refine (minimal_any k i Ap i cp An nn cn Af nf cf nx (some ⟨gf, 0, none⟩) i F wi (by have := HR.out.nxok hk0; rw [HLP.out] at this; exact this) hk0 hk8 (by omega) HNN.out hcn (V.out.cells (i := 3) rfl rfl) HFL.out (V.out.cells (i := 0) rfl rfl) (by intro h0; have := HR.out.bfs0 hk0 (by rw [HLP.out]; exact h0); rw [HLP.out] at this; exact this)).mono ?_
      rintro e w6 hm
      have hm := hm.congr (Q := fun u => combF 3 (A.lang u) (B.lang u)) (fun u hu => HR.out.prod (f := fun p => combF 3 (A.acc p.1) (B.acc p.2)) (by show combF 3 (A.acc (-1)) (B.acc (-1)) = false; rw [A.acc_neg (by decide), B.acc_neg (by decide)]; exact combF_no _) (by rw [HFL.out, HLP.out]) (fun j p hj => HF.out j p (by have := (List.getElem?_eq_some_iff.1 hj).1; have := HLP.out; omega) hj) u hu)
      clear r0 r1 r2 r3 r9
      obtain ⟨hb6, Rm, hcan, ⟨hR4, xm, rfl, hxm, kk, gs, hgs, hkk, hxn, hown⟩ | ⟨hR4, rfl⟩⟩ := hm
      · have V6 := Lib.hid (show Hp W (flags (some ⟨gf, 0, none⟩) i i F :: box 52 gr [.int .i64 (k : Int), .slice Ap i cp, .slice An nn cn, .slice Af nf cf] :: prow 35 Ap i cp ps :: nums An nn cn nx :: nums Af nf cf (fdOf pa) :: box 25 (W.heap.size + 1 + 1) [.int .i64 0, .int .i64 0, .slice none 0 0, .slice none 0 0] :: box 25 (W.heap.size + 1) [.int .i64 B.lt, .int .i64 B.st, .slice y.A y.n y.c, .slice y.B y.m y.d] :: box 25 W.heap.size [.int .i64 A.lt, .int .i64 A.st, .slice x.A x.n x.c, .slice x.B x.m x.d] :: (rlist xm.A xm.n xm.c kk gs :: flags xm.B xm.m xm.d Rm.ac :: rowIts kk gs Rm.nx)) w6 from (V.out.join hown).comm)
        have HCAN := Lib.hid hcan
        have HGS := Lib.hid hgs
        have HXM := Lib.hid hxm
        clear hown hcan hgs hxm V
        obtain ⟨z0, y0, z90⟩ := V6.out.box_at (i := 5) (j := 0) rfl rfl
        obtain ⟨z1, y1, z91⟩ := V6.out.box_at (i := 5) (j := 1) rfl rfl
        obtain ⟨z2, y2, z92⟩ := V6.out.box_at (i := 5) (j := 2) rfl rfl
        obtain ⟨z3, y3, z93⟩ := V6.out.box_at (i := 5) (j := 3) rfl rfl
        have VE := Lib.hid ((((V6.out.box_set (i := 5) rfl 0 (.int .i64 Rm.lt)).box_set (i := 5) rfl 1 (.int .i64 Rm.st)).box_set (i := 5) rfl 2 (.slice xm.A xm.n xm.c)).box_set (i := 5) rfl 3 (.slice xm.B xm.m xm.d))
        obtain ⟨u0, _, _⟩ := VE.out.box_at (i := 5) (j := 0) rfl rfl
        obtain ⟨u1, _, _⟩ := VE.out.box_at (i := 5) (j := 1) rfl rfl
        obtain ⟨u2, _, _⟩ := VE.out.box_at (i := 5) (j := 2) rfl rfl
        obtain ⟨u3, _, _⟩ := VE.out.box_at (i := 5) (j := 3) rfl rfl
        have HP := Lib.hid (show ProdPost A B 3 W (.returned (.tuple #[.agg #[.int .i64 Rm.lt, .int .i64 Rm.st, .slice xm.A xm.n xm.c, .slice xm.B xm.m xm.d], .int .i64 0])) _ from ⟨VE.out.below, .inr ⟨k, HKA.out, HKB.out, .inr ⟨by decide, VE.out.below, Rm, HCAN.out, .inl ⟨hR4, xm, rfl, HXM.out, kk, gs, HGS.out, hkk, hxn, VE.out.tail.tail.tail.tail.tail.tail.tail.tail⟩⟩⟩⟩)
        clear V6 VE
        go_wp2_with fail
        exact bodyPost_ret (v := .tuple #[.agg #[.int .i64 Rm.lt, .int .i64 Rm.st, .slice xm.A xm.n xm.c, .slice xm.B xm.m xm.d], .int .i64 0]) (by simp [results, Try.results15, go_sem, u0, u1, u2, u3]) rfl HP.out
      · have V6 := Lib.hid (V.out.go hb6)
        have HCAN := Lib.hid hcan
        clear hcan V
        obtain ⟨z0, y0, z90⟩ := V6.out.box_at (i := 5) (j := 0) rfl rfl
        obtain ⟨z1, y1, z91⟩ := V6.out.box_at (i := 5) (j := 1) rfl rfl
        obtain ⟨z2, y2, z92⟩ := V6.out.box_at (i := 5) (j := 2) rfl rfl
        obtain ⟨z3, y3, z93⟩ := V6.out.box_at (i := 5) (j := 3) rfl rfl
        have VE := Lib.hid ((((V6.out.box_set (i := 5) rfl 0 (.int .i64 0)).box_set (i := 5) rfl 1 (.int .i64 0)).box_set (i := 5) rfl 2 (.slice none 0 0)).box_set (i := 5) rfl 3 (.slice none 0 0))
        obtain ⟨u0, _, _⟩ := VE.out.box_at (i := 5) (j := 0) rfl rfl
        obtain ⟨u1, _, _⟩ := VE.out.box_at (i := 5) (j := 1) rfl rfl
        obtain ⟨u2, _, _⟩ := VE.out.box_at (i := 5) (j := 2) rfl rfl
        obtain ⟨u3, _, _⟩ := VE.out.box_at (i := 5) (j := 3) rfl rfl
        have HP := Lib.hid (show ProdPost A B 3 W (.returned (.tuple #[zdfa, .int .i64 3])) _ from ⟨VE.out.below, .inr ⟨k, HKA.out, HKB.out, .inr ⟨by decide, VE.out.below, Rm, HCAN.out, .inr ⟨hR4, rfl⟩⟩⟩⟩)
        clear V6 VE
        go_wp2_with fail
        exact bodyPost_ret (v := .tuple #[.agg #[.int .i64 0, .int .i64 0, .slice none 0 0, .slice none 0 0], .int .i64 3]) (by simp [results, Try.results15, go_sem, u0, u1, u2, u3]) rfl HP.out
set_option maxHeartbeats 4000000 in
theorem product_err (x y : DV) (A B : Au) (kind : Int) (W : World) (hA : DfaIn W x A) (hB : DfaIn W y B) (hp : ¬ Au.pE A B = 0) :
    Calls Try.prog 15 #[dval x A, dval y B, .int .i64 kind] W (ProdPost A B kind W) := by
  have HA := Lib.hid hA
  have HB := Lib.hid hB
  clear hA hB
  obtain ⟨wz, hwz⟩ : ∃ z, z = (((W.alloc (.cells #[.int .i64 A.lt, .int .i64 A.st, .slice x.A x.n x.c, .slice x.B x.m x.d] 25)).alloc (.cells #[.int .i64 B.lt, .int .i64 B.st, .slice y.A y.n y.c, .slice y.B y.m y.d] 25)).alloc (.cells #[.int .i64 0, .int .i64 0, .slice none 0 0, .slice none 0 0] 25)) := ⟨_, rfl⟩
  have V := Lib.hid (show Hp W [box 25 (W.heap.size + 1 + 1) [.int .i64 0, .int .i64 0, .slice none 0 0, .slice none 0 0], box 25 (W.heap.size + 1) [.int .i64 B.lt, .int .i64 B.st, .slice y.A y.n y.c, .slice y.B y.m y.d], box 25 W.heap.size [.int .i64 A.lt, .int .i64 A.st, .slice x.A x.n x.c, .slice x.B x.m x.d]] wz by
    have := ((((Hp.start W).box_new 25 [.int .i64 A.lt, .int .i64 A.st, .slice x.A x.n x.c, .slice x.B x.m x.d]).box_new 25 [.int .i64 B.lt, .int .i64 B.st, .slice y.A y.n y.c, .slice y.B y.m y.d]).box_new 25 [.int .i64 0, .int .i64 0, .slice none 0 0, .slice none 0 0])
    rw [hwz]; simpa using this)
  have HZ := Lib.hid hwz
  clear hwz
  have hp1 : Au.pE A B = 1 := by rcases Au.pE_cases A B with e | e; exact absurd e hp; exact e
  have HE := Lib.hid hp1
  clear hp1 hp
  go_enter Try.func15, Try.ntmps15
  go_upto_region 1 with fail
  rw [← HZ.out]
  clear HZ
  obtain ⟨r1_0, _, r1_9⟩ := V.out.box_at (i := 1) (j := 0) rfl rfl
  obtain ⟨r1_1, _, _⟩ := V.out.box_at (i := 1) (j := 1) rfl rfl
  obtain ⟨r1_2, _, _⟩ := V.out.box_at (i := 1) (j := 2) rfl rfl
  obtain ⟨r1_3, _, _⟩ := V.out.box_at (i := 1) (j := 3) rfl rfl
  obtain ⟨r2_0, _, r2_9⟩ := V.out.box_at (i := 2) (j := 0) rfl rfl
  obtain ⟨r2_1, _, _⟩ := V.out.box_at (i := 2) (j := 1) rfl rfl
  obtain ⟨r2_2, _, _⟩ := V.out.box_at (i := 2) (j := 2) rfl rfl
  obtain ⟨r2_3, _, _⟩ := V.out.box_at (i := 2) (j := 3) rfl rfl
  go_wp2_with fail
  refine (pairError_any x y A B wz (HA.out.below V.out.below) (HB.out.below V.out.below)).mono ?_
  rintro e w1 ⟨rfl, b1⟩
  have V1 := Lib.hid (V.out.go b1)
  rw [HE.out]
  clear b1 V r1_9 r1_0 r1_1 r1_2 r1_3 r2_9 r2_0 r2_1 r2_2 r2_3
  obtain ⟨z0, y0, z90⟩ := V1.out.box_at (i := 0) (j := 0) rfl rfl
  obtain ⟨z1, y1, z91⟩ := V1.out.box_at (i := 0) (j := 1) rfl rfl
  obtain ⟨z2, y2, z92⟩ := V1.out.box_at (i := 0) (j := 2) rfl rfl
  obtain ⟨z3, y3, z93⟩ := V1.out.box_at (i := 0) (j := 3) rfl rfl
  have VE := Lib.hid ((((V1.out.box_set (i := 0) rfl 0 (.int .i64 0)).box_set (i := 0) rfl 1 (.int .i64 0)).box_set (i := 0) rfl 2 (.slice none 0 0)).box_set (i := 0) rfl 3 (.slice none 0 0))
  obtain ⟨u0, _, _⟩ := VE.out.box_at (i := 0) (j := 0) rfl rfl
  obtain ⟨u1, _, _⟩ := VE.out.box_at (i := 0) (j := 1) rfl rfl
  obtain ⟨u2, _, _⟩ := VE.out.box_at (i := 0) (j := 2) rfl rfl
  obtain ⟨u3, _, _⟩ := VE.out.box_at (i := 0) (j := 3) rfl rfl
  have HP := Lib.hid (show ProdPost A B kind W (.returned (.tuple #[zdfa, .int .i64 1])) _ from ⟨VE.out.below, .inl ⟨HE.out, rfl⟩⟩)
  clear V1 VE
  go_wp2_with fail
  exact bodyPost_ret (v := .tuple #[.agg #[.int .i64 0, .int .i64 0, .slice none 0 0, .slice none 0 0], .int .i64 1]) (by simp [results, Try.results15, go_sem, u0, u1, u2, u3]) rfl HP.out
theorem product_any (x y : DV) (A B : Au) (kind : Int) (W : World) (hA : DfaIn W x A) (hB : DfaIn W y B) :
    Calls Try.prog 15 #[dval x A, dval y B, .int .i64 kind] W (ProdPost A B kind W) := by
  by_cases hp : Au.pE A B = 0
  · by_cases hk : kind = 1 ∨ kind = 2 ∨ kind = 3
    · rcases hk with rfl | rfl | rfl
      · exact product_k1 x y A B W hA hB hp
      · exact product_k2 x y A B W hA hB hp
      · exact product_k3 x y A B W hA hB hp
    · exact product_bad x y A B kind W hA hB hk
  · exact product_err x y A B kind W hA hB hp
set_option maxHeartbeats 8000000 in
theorem minimalTop_any (x : DV) (A : Au) (W : World) (hA : DfaIn W x A) :
    Calls Try.prog 12 #[dval x A] W (ProdPost A A 1 W) := by
  have HA := Lib.hid hA
  clear hA
  obtain ⟨wz, hwz⟩ : ∃ z, z = ((W.alloc (.cells #[.int .i64 A.lt, .int .i64 A.st, .slice x.A x.n x.c, .slice x.B x.m x.d] 25)).alloc (.cells #[.int .i64 0, .int .i64 0, .slice none 0 0, .slice none 0 0] 25)) := ⟨_, rfl⟩
  have V := Lib.hid (show Hp W [box 25 (W.heap.size + 1) [.int .i64 0, .int .i64 0, .slice none 0 0, .slice none 0 0], box 25 W.heap.size [.int .i64 A.lt, .int .i64 A.st, .slice x.A x.n x.c, .slice x.B x.m x.d]] wz by
    have := (((Hp.start W).box_new 25 [.int .i64 A.lt, .int .i64 A.st, .slice x.A x.n x.c, .slice x.B x.m x.d]).box_new 25 [.int .i64 0, .int .i64 0, .slice none 0 0, .slice none 0 0])
    rw [hwz]; simpa using this)
  have HZ := Lib.hid hwz
  clear hwz
  go_enter Try.func12, Try.ntmps12
  go_upto_region 1 with fail
  rw [← HZ.out]
  clear HZ
  obtain ⟨r1_0, _, r1_9⟩ := V.out.box_at (i := 1) (j := 0) rfl rfl
  obtain ⟨r1_1, _, _⟩ := V.out.box_at (i := 1) (j := 1) rfl rfl
  obtain ⟨r1_2, _, _⟩ := V.out.box_at (i := 1) (j := 2) rfl rfl
  obtain ⟨r1_3, _, _⟩ := V.out.box_at (i := 1) (j := 3) rfl rfl
  go_wp2_with fail
  refine (product_any x x A A 1 wz (HA.out.below V.out.below) (HA.out.below V.out.below)).mono ?_
  rintro e w1 ⟨b1, ⟨hp, rfl⟩ | ⟨k, hka, hkb, ⟨hno, rfl⟩ | ⟨hki, hm⟩⟩⟩
  · have V1 := Lib.hid (V.out.go b1)
    clear b1 V r1_9 r1_0 r1_1 r1_2 r1_3
    obtain ⟨z0, y0, z90⟩ := V1.out.box_at (i := 0) (j := 0) rfl rfl
    obtain ⟨z1, y1, z91⟩ := V1.out.box_at (i := 0) (j := 1) rfl rfl
    obtain ⟨z2, y2, z92⟩ := V1.out.box_at (i := 0) (j := 2) rfl rfl
    obtain ⟨z3, y3, z93⟩ := V1.out.box_at (i := 0) (j := 3) rfl rfl
    have VE := Lib.hid ((((V1.out.box_set (i := 0) rfl 0 (.int .i64 0)).box_set (i := 0) rfl 1 (.int .i64 0)).box_set (i := 0) rfl 2 (.slice none 0 0)).box_set (i := 0) rfl 3 (.slice none 0 0))
    obtain ⟨u0, _, _⟩ := VE.out.box_at (i := 0) (j := 0) rfl rfl
    obtain ⟨u1, _, _⟩ := VE.out.box_at (i := 0) (j := 1) rfl rfl
    obtain ⟨u2, _, _⟩ := VE.out.box_at (i := 0) (j := 2) rfl rfl
    obtain ⟨u3, _, _⟩ := VE.out.box_at (i := 0) (j := 3) rfl rfl
    have HP := Lib.hid (show ProdPost A A 1 W (.returned (.tuple #[zdfa, .int .i64 1])) _ from ⟨VE.out.below, .inl ⟨hp, rfl⟩⟩)
    clear V1 VE hp
    go_wp2_with fail
    exact bodyPost_ret (v := .tuple #[.agg #[.int .i64 0, .int .i64 0, .slice none 0 0, .slice none 0 0], .int .i64 1]) (by simp [results, Try.results12, go_sem, u0, u1, u2, u3]) rfl HP.out
  · exact absurd (Or.inl rfl) hno
  · obtain ⟨hb6, Rm, hcan, ⟨hR4, xm, rfl, hxm, kk, gs, hgs, hkk, hxn, hown⟩ | ⟨hR4, rfl⟩⟩ := hm
    · have V6 := Lib.hid (show Hp W (box 25 (W.heap.size + 1) [.int .i64 0, .int .i64 0, .slice none 0 0, .slice none 0 0] :: box 25 W.heap.size [.int .i64 A.lt, .int .i64 A.st, .slice x.A x.n x.c, .slice x.B x.m x.d] :: (rlist xm.A xm.n xm.c kk gs :: flags xm.B xm.m xm.d Rm.ac :: rowIts kk gs Rm.nx)) w1 from (V.out.join hown).comm)
      have HCAN := Lib.hid hcan
      have HGS := Lib.hid hgs
      have HXM := Lib.hid hxm
      have HKA := Lib.hid hka
      have HKB := Lib.hid hkb
      clear hown hcan hgs hxm V hka hkb b1 hb6 hki r1_9 r1_0 r1_1 r1_2 r1_3
      obtain ⟨z0, y0, z90⟩ := V6.out.box_at (i := 0) (j := 0) rfl rfl
      obtain ⟨z1, y1, z91⟩ := V6.out.box_at (i := 0) (j := 1) rfl rfl
      obtain ⟨z2, y2, z92⟩ := V6.out.box_at (i := 0) (j := 2) rfl rfl
      obtain ⟨z3, y3, z93⟩ := V6.out.box_at (i := 0) (j := 3) rfl rfl
      have VE := Lib.hid ((((V6.out.box_set (i := 0) rfl 0 (.int .i64 Rm.lt)).box_set (i := 0) rfl 1 (.int .i64 Rm.st)).box_set (i := 0) rfl 2 (.slice xm.A xm.n xm.c)).box_set (i := 0) rfl 3 (.slice xm.B xm.m xm.d))
      obtain ⟨u0, _, _⟩ := VE.out.box_at (i := 0) (j := 0) rfl rfl
      obtain ⟨u1, _, _⟩ := VE.out.box_at (i := 0) (j := 1) rfl rfl
      obtain ⟨u2, _, _⟩ := VE.out.box_at (i := 0) (j := 2) rfl rfl
      obtain ⟨u3, _, _⟩ := VE.out.box_at (i := 0) (j := 3) rfl rfl
      have HP := Lib.hid (show ProdPost A A 1 W (.returned (.tuple #[.agg #[.int .i64 Rm.lt, .int .i64 Rm.st, .slice xm.A xm.n xm.c, .slice xm.B xm.m xm.d], .int .i64 0])) _ from ⟨VE.out.below, .inr ⟨k, HKA.out, HKB.out, .inr ⟨.inl rfl, VE.out.below, Rm, HCAN.out, .inl ⟨hR4, xm, rfl, HXM.out, kk, gs, HGS.out, hkk, hxn, VE.out.tail.tail⟩⟩⟩⟩)
      clear V6 VE
      go_wp2_with fail
      exact bodyPost_ret (v := .tuple #[.agg #[.int .i64 Rm.lt, .int .i64 Rm.st, .slice xm.A xm.n xm.c, .slice xm.B xm.m xm.d], .int .i64 0]) (by simp [results, Try.results12, go_sem, u0, u1, u2, u3]) rfl HP.out
    · have V6 := Lib.hid (V.out.go hb6)
      have HCAN := Lib.hid hcan
      have HKA := Lib.hid hka
      have HKB := Lib.hid hkb
      clear hcan V hka hkb b1 hb6 hki r1_9 r1_0 r1_1 r1_2 r1_3
      obtain ⟨z0, y0, z90⟩ := V6.out.box_at (i := 0) (j := 0) rfl rfl
      obtain ⟨z1, y1, z91⟩ := V6.out.box_at (i := 0) (j := 1) rfl rfl
      obtain ⟨z2, y2, z92⟩ := V6.out.box_at (i := 0) (j := 2) rfl rfl
      obtain ⟨z3, y3, z93⟩ := V6.out.box_at (i := 0) (j := 3) rfl rfl
      have VE := Lib.hid ((((V6.out.box_set (i := 0) rfl 0 (.int .i64 0)).box_set (i := 0) rfl 1 (.int .i64 0)).box_set (i := 0) rfl 2 (.slice none 0 0)).box_set (i := 0) rfl 3 (.slice none 0 0))
      obtain ⟨u0, _, _⟩ := VE.out.box_at (i := 0) (j := 0) rfl rfl
      obtain ⟨u1, _, _⟩ := VE.out.box_at (i := 0) (j := 1) rfl rfl
      obtain ⟨u2, _, _⟩ := VE.out.box_at (i := 0) (j := 2) rfl rfl
      obtain ⟨u3, _, _⟩ := VE.out.box_at (i := 0) (j := 3) rfl rfl
      have HP := Lib.hid (show ProdPost A A 1 W (.returned (.tuple #[zdfa, .int .i64 3])) _ from ⟨VE.out.below, .inr ⟨k, HKA.out, HKB.out, .inr ⟨.inl rfl, VE.out.below, Rm, HCAN.out, .inr ⟨hR4, rfl⟩⟩⟩⟩)
      clear V6 VE
      go_wp2_with fail
      exact bodyPost_ret (v := .tuple #[.agg #[.int .i64 0, .int .i64 0, .slice none 0 0, .slice none 0 0], .int .i64 3]) (by simp [results, Try.results12, go_sem, u0, u1, u2, u3]) rfl HP.out
end Go.Proofs.Ytdkdfmflghbhiaa
