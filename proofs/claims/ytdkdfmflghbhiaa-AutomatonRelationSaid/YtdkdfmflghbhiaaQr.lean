/- Contracts of the program: the first word that tells two automata apart, the first word that is accepted. -/
import Derived.Test.YtdkdfmflghbhiaaQq
import Derived.Test.YtdkdfmflghbhiaaAMo
namespace Go.Proofs.Ytdkdfmflghbhiaa
open Go.RowKit
set_option linter.unusedVariables false
set_option linter.unusedSimpArgs false
set_option maxRecDepth 100000

theorem Hp.base {W W1 w : World} {l : List Itm} (h : Hp W1 l w) (hb : Below W.heap.size W W1) : Hp W l w :=
  ⟨fun i it hi => own_base (h.own i it hi) hb.size, h.sep, btwo hb h.below⟩
theorem FwPost.base {k : Nat} {P : List Nat → Bool} {W W1 : World} {e : Ending} {w' : World} (h : FwPost k P W1 e w') (hb : Below W.heap.size W W1) : FwPost k P W e w' := by
  obtain ⟨h1, h2 | ⟨u, G, n, c, a, b, d, f⟩⟩ := h
  · exact ⟨btwo hb h1, .inl h2⟩
  · exact ⟨btwo hb h1, .inr ⟨u, G, n, c, a, b, d.base hb, f⟩⟩
theorem Au.Vld.good {w : World} {x : DV} {M : Au} {k : Nat} (h : M.Vld k) (hd : DfaIn w x M) : Good w x M k := ⟨hd, h.right, by have := h.few; omega, h.k8⟩
/-- What Difference returns. -/
def DiffPost (A B : Au) (W : World) (e : Ending) (w' : World) : Prop :=
  Below W.heap.size W w' ∧ ((Au.pE A B = 1 ∧ e = .returned (.tuple #[.slice none 0 0, .int .i64 1])) ∨ ∃ k, A.Vld k ∧ B.Vld k ∧ FwPost k (fun u => A.lang u != B.lang u) W e w')
/-- What Shortest returns. -/
def ShortPost (A : Au) (W : World) (e : Ending) (w' : World) : Prop :=
  Below W.heap.size W w' ∧ ((A.vE = 1 ∧ e = .returned (.tuple #[.slice none 0 0, .int .i64 1])) ∨ ∃ k, A.Vld k ∧ FwPost k (fun u => A.lang u) W e w')
set_option maxHeartbeats 8000000 in
theorem difference_any (x y : DV) (A B : Au) (W : World) (hA : DfaIn W x A) (hB : DfaIn W y B) :
    Calls Try.prog 16 #[dval x A, dval y B] W (DiffPost A B W) := by
  have HA := Lib.hid hA
  have HB := Lib.hid hB
  clear hA hB
  obtain ⟨wz, hwz⟩ : ∃ z, z = ((W.alloc (.cells #[.int .i64 A.lt, .int .i64 A.st, .slice x.A x.n x.c, .slice x.B x.m x.d] 25)).alloc (.cells #[.int .i64 B.lt, .int .i64 B.st, .slice y.A y.n y.c, .slice y.B y.m y.d] 25)) := ⟨_, rfl⟩
  have V := Lib.hid (show Hp W [box 25 (W.heap.size + 1) [.int .i64 B.lt, .int .i64 B.st, .slice y.A y.n y.c, .slice y.B y.m y.d], box 25 W.heap.size [.int .i64 A.lt, .int .i64 A.st, .slice x.A x.n x.c, .slice x.B x.m x.d]] wz by
    have := (((Hp.start W).box_new 25 [.int .i64 A.lt, .int .i64 A.st, .slice x.A x.n x.c, .slice x.B x.m x.d]).box_new 25 [.int .i64 B.lt, .int .i64 B.st, .slice y.A y.n y.c, .slice y.B y.m y.d])
    rw [hwz]; simpa using this)
  have HZ := Lib.hid hwz
  clear hwz
  by_cases hp : Au.pE A B = 0
  case neg =>
    have hp1 : Au.pE A B = 1 := by rcases Au.pE_cases A B with e | e; exact absurd e hp; exact e
    have HE := Lib.hid hp1
    clear hp1 hp
    go_enter Try.func16, Try.ntmps16
    go_upto_region 1 with fail
    rw [← HZ.out]
    clear HZ
    obtain ⟨r0_0, _, r0_9⟩ := V.out.box_at (i := 0) (j := 0) rfl rfl
    obtain ⟨r0_1, _, _⟩ := V.out.box_at (i := 0) (j := 1) rfl rfl
    obtain ⟨r0_2, _, _⟩ := V.out.box_at (i := 0) (j := 2) rfl rfl
    obtain ⟨r0_3, _, _⟩ := V.out.box_at (i := 0) (j := 3) rfl rfl
    obtain ⟨r1_0, _, r1_9⟩ := V.out.box_at (i := 1) (j := 0) rfl rfl
    obtain ⟨r1_1, _, _⟩ := V.out.box_at (i := 1) (j := 1) rfl rfl
    obtain ⟨r1_2, _, _⟩ := V.out.box_at (i := 1) (j := 2) rfl rfl
    obtain ⟨r1_3, _, _⟩ := V.out.box_at (i := 1) (j := 3) rfl rfl
    go_wp2_with fail
    refine (pairError_any x y A B wz (HA.out.below V.out.below) (HB.out.below V.out.below)).mono ?_
    rintro e w1 ⟨rfl, b1⟩
    have V1 := Lib.hid (V.out.go b1)
    rw [HE.out]
    clear b1 V r0_9 r0_0 r0_1 r0_2 r0_3 r1_9 r1_0 r1_1 r1_2 r1_3
    have HP := Lib.hid (show DiffPost A B W (.returned (.tuple #[.slice none 0 0, .int .i64 1])) w1 from ⟨V1.out.below, .inl ⟨HE.out, rfl⟩⟩)
    go_wp2_with fail
    go_ret2
    exact HP.out
  have HE := Lib.hid hp
  obtain ⟨k, hka, hkb⟩ := Au.pE_ok hp
  have HKA := Lib.hid hka
  have HKB := Lib.hid hkb
  have hk0 := hka.right.pos
  have hk8 := hka.k8
  clear hp hka hkb
  go_enter Try.func16, Try.ntmps16
  go_upto_region 1 with fail
  rw [← HZ.out]
  clear HZ
  obtain ⟨r0_0, _, r0_9⟩ := V.out.box_at (i := 0) (j := 0) rfl rfl
  obtain ⟨r0_1, _, _⟩ := V.out.box_at (i := 0) (j := 1) rfl rfl
  obtain ⟨r0_2, _, _⟩ := V.out.box_at (i := 0) (j := 2) rfl rfl
  obtain ⟨r0_3, _, _⟩ := V.out.box_at (i := 0) (j := 3) rfl rfl
  obtain ⟨r1_0, _, r1_9⟩ := V.out.box_at (i := 1) (j := 0) rfl rfl
  obtain ⟨r1_1, _, _⟩ := V.out.box_at (i := 1) (j := 1) rfl rfl
  obtain ⟨r1_2, _, _⟩ := V.out.box_at (i := 1) (j := 2) rfl rfl
  obtain ⟨r1_3, _, _⟩ := V.out.box_at (i := 1) (j := 3) rfl rfl
  go_wp2_with fail
  refine (pairError_any x y A B wz (HA.out.below V.out.below) (HB.out.below V.out.below)).mono ?_
  rintro e w1 ⟨rfl, b1⟩
  have V1 := Lib.hid (V.out.go b1)
  rw [HE.out]
  clear b1 V r0_9 r0_0 r0_1 r0_2 r0_3 r1_9 r1_0 r1_1 r1_2 r1_3
  obtain ⟨r0_0, _, r0_9⟩ := V1.out.box_at (i := 0) (j := 0) rfl rfl
  obtain ⟨r0_1, _, _⟩ := V1.out.box_at (i := 0) (j := 1) rfl rfl
  obtain ⟨r0_2, _, _⟩ := V1.out.box_at (i := 0) (j := 2) rfl rfl
  obtain ⟨r0_3, _, _⟩ := V1.out.box_at (i := 0) (j := 3) rfl rfl
  obtain ⟨r1_0, _, r1_9⟩ := V1.out.box_at (i := 1) (j := 0) rfl rfl
  obtain ⟨r1_1, _, _⟩ := V1.out.box_at (i := 1) (j := 1) rfl rfl
  obtain ⟨r1_2, _, _⟩ := V1.out.box_at (i := 1) (j := 2) rfl rfl
  obtain ⟨r1_3, _, _⟩ := V1.out.box_at (i := 1) (j := 3) rfl rfl
  go_wp2_with fail
  refine (reach_any x y A B k w1 (HKA.out.good (HA.out.below V1.out.below)) (HKB.out.good (HB.out.below V1.out.below))).mono ?_
  rintro e w2 ⟨ps, pa, nx, Ap, np, cp, An, nn, cn, Af, nf, cf, rfl, hr, hv2⟩
  have HR := Lib.hid hr
  have HV := Lib.hid hv2
  have V2 := Lib.hid (V1.out.go hv2.below)
  clear hr hv2 V1 r0_9 r0_0 r0_1 r0_2 r0_3 r1_9 r1_0 r1_1 r1_2 r1_3
  obtain ⟨G, hG⟩ : ∃ G : World → Prop, G = fun w => Good w x A k ∧ Good w y B k ∧ BoxAt w W.heap.size [.int .i64 A.lt, .int .i64 A.st, .slice x.A x.n x.c, .slice x.B x.m x.d] ∧ BoxAt w (W.heap.size + 1) [.int .i64 B.lt, .int .i64 B.st, .slice y.A y.n y.c, .slice y.B y.m y.d] := ⟨_, rfl⟩
  have HG1 := Lib.hid (show ∀ w w' : World, G w → Below w.heap.size w w' → G w' from fun w w' h b => by rw [hG] at h ⊢; exact ⟨h.1.below b, h.2.1.below b, h.2.2.1.below b, h.2.2.2.below b⟩)
  have HG2 := Lib.hid (show G w2 by rw [hG]; exact ⟨HKA.out.good (HA.out.below V2.out.below), HKB.out.good (HB.out.below V2.out.below), V2.out.box_there (i := 1) rfl (Nat.succ_pos _), V2.out.box_there (i := 0) rfl (Nat.succ_pos _)⟩)
  have HG3 := Lib.hid (show ∀ (w : World) (p : Int × Int), G w → p ∈ ps → Calls Try.prog 42 #[.agg #[.int .i64 p.1, .int .i64 p.2], .pointer (some ⟨W.heap.size, 0, none⟩), .pointer (some ⟨W.heap.size + 1, 0, none⟩)] w fun e w' => e = .returned (.bool (A.acc p.1 != B.acc p.2)) ∧ Below w.heap.size w w' from fun w p h hm => by
    rw [hG] at h
    obtain ⟨j, hj⟩ := List.mem_iff_getElem?.1 hm
    exact dclos_any x y A B k _ _ p.1 p.2 w h.1 h.2.1 h.2.2.1 h.2.2.2 (HR.out.inl j p hj))
  clear hG
  go_wp2_with fail
  refine ((firstWord_anyD G HG1.out (fun p => A.acc p.1 != B.acc p.2) W.heap.size (W.heap.size + 1) A B k ps pa nx HG3.out HR.out (by show (A.acc (-1) != B.acc (-1)) = false; rw [A.acc_neg (by decide), B.acc_neg (by decide)]; rfl) hk0 hk8 Ap np cp An nn cn Af nf cf w2 (HV.out.pair_len (i := 0) rfl) (by have h1 := HV.out.pair_len (i := 0) rfl; have h2 := HR.out.few (by have := HKA.out.few; omega) (by have := HKB.out.few; omega); omega) (HV.out.cells (i := 0) rfl rfl) (by have := HV.out.num_len (i := 2) rfl; rw [fdOf_len] at this; exact this) (HV.out.cells (i := 2) rfl rfl) HG2.out)).mono ?_
  rintro e w3 hpost
  have hpost := FwPost.base hpost V2.out.below
  have HP := Lib.hid (show DiffPost A B W e w3 from ⟨hpost.1, .inr ⟨k, HKA.out, HKB.out, hpost⟩⟩)
  obtain ⟨_, ⟨_, rfl⟩ | ⟨u, G4, n4, c4, _, rfl, _, _⟩⟩ := hpost
  · go_wp2_with fail
    go_ret2
    exact HP.out
  · go_wp2_with fail
    go_ret2
    exact HP.out
set_option maxHeartbeats 8000000 in
theorem shortest_any (x : DV) (A : Au) (W : World) (hA : DfaIn W x A) :
    Calls Try.prog 13 #[dval x A] W (ShortPost A W) := by
  have HA := Lib.hid hA
  clear hA
  obtain ⟨wz, hwz⟩ : ∃ z, z = (W.alloc (.cells #[.int .i64 A.lt, .int .i64 A.st, .slice x.A x.n x.c, .slice x.B x.m x.d] 25)) := ⟨_, rfl⟩
  have V := Lib.hid (show Hp W [box 25 W.heap.size [.int .i64 A.lt, .int .i64 A.st, .slice x.A x.n x.c, .slice x.B x.m x.d]] wz by
    have := ((Hp.start W).box_new 25 [.int .i64 A.lt, .int .i64 A.st, .slice x.A x.n x.c, .slice x.B x.m x.d])
    rw [hwz]; simpa using this)
  have HZ := Lib.hid hwz
  clear hwz
  by_cases hp : A.vE = 0
  case neg =>
    have hp1 : A.vE = 1 := by rcases Au.vE_cases A with e | e; exact absurd e hp; exact e
    have HE := Lib.hid hp1
    clear hp1 hp
    go_enter Try.func13, Try.ntmps13
    go_upto_region 1 with fail
    rw [← HZ.out]
    clear HZ
    obtain ⟨r0_0, _, r0_9⟩ := V.out.box_at (i := 0) (j := 0) rfl rfl
    obtain ⟨r0_1, _, _⟩ := V.out.box_at (i := 0) (j := 1) rfl rfl
    obtain ⟨r0_2, _, _⟩ := V.out.box_at (i := 0) (j := 2) rfl rfl
    obtain ⟨r0_3, _, _⟩ := V.out.box_at (i := 0) (j := 3) rfl rfl
    go_wp2_with fail
    refine (valid_any x A wz (HA.out.below V.out.below)).mono ?_
    rintro e w1 ⟨rfl, b1⟩
    have V1 := Lib.hid (V.out.go b1)
    rw [HE.out]
    clear b1 V r0_9 r0_0 r0_1 r0_2 r0_3
    have HP := Lib.hid (show ShortPost A W (.returned (.tuple #[.slice none 0 0, .int .i64 1])) w1 from ⟨V1.out.below, .inl ⟨HE.out, rfl⟩⟩)
    go_wp2_with fail
    go_ret2
    exact HP.out
  have HE := Lib.hid hp
  obtain ⟨k, hka⟩ : ∃ k, A.Vld k := ⟨_, Au.vE_ok hp⟩
  have HKA := Lib.hid hka
  have hk0 := hka.right.pos
  have hk8 := hka.k8
  clear hp hka
  go_enter Try.func13, Try.ntmps13
  go_upto_region 1 with fail
  rw [← HZ.out]
  clear HZ
  obtain ⟨r0_0, _, r0_9⟩ := V.out.box_at (i := 0) (j := 0) rfl rfl
  obtain ⟨r0_1, _, _⟩ := V.out.box_at (i := 0) (j := 1) rfl rfl
  obtain ⟨r0_2, _, _⟩ := V.out.box_at (i := 0) (j := 2) rfl rfl
  obtain ⟨r0_3, _, _⟩ := V.out.box_at (i := 0) (j := 3) rfl rfl
  go_wp2_with fail
  refine (valid_any x A wz (HA.out.below V.out.below)).mono ?_
  rintro e w1 ⟨rfl, b1⟩
  have V1 := Lib.hid (V.out.go b1)
  rw [HE.out]
  clear b1 V r0_9 r0_0 r0_1 r0_2 r0_3
  obtain ⟨r0_0, _, r0_9⟩ := V1.out.box_at (i := 0) (j := 0) rfl rfl
  obtain ⟨r0_1, _, _⟩ := V1.out.box_at (i := 0) (j := 1) rfl rfl
  obtain ⟨r0_2, _, _⟩ := V1.out.box_at (i := 0) (j := 2) rfl rfl
  obtain ⟨r0_3, _, _⟩ := V1.out.box_at (i := 0) (j := 3) rfl rfl
  go_wp2_with fail
  refine (reach_any x x A A k w1 (HKA.out.good (HA.out.below V1.out.below)) (HKA.out.good (HA.out.below V1.out.below))).mono ?_
  rintro e w2 ⟨ps, pa, nx, Ap, np, cp, An, nn, cn, Af, nf, cf, rfl, hr, hv2⟩
  have HR := Lib.hid hr
  have HV := Lib.hid hv2
  have V2 := Lib.hid (V1.out.go hv2.below)
  clear hr hv2 V1 r0_9 r0_0 r0_1 r0_2 r0_3
  obtain ⟨G, hG⟩ : ∃ G : World → Prop, G = fun w => Good w x A k ∧ BoxAt w W.heap.size [.int .i64 A.lt, .int .i64 A.st, .slice x.A x.n x.c, .slice x.B x.m x.d] := ⟨_, rfl⟩
  have HG1 := Lib.hid (show ∀ w w' : World, G w → Below w.heap.size w w' → G w' from fun w w' h b => by rw [hG] at h ⊢; exact ⟨h.1.below b, h.2.below b⟩)
  have HG2 := Lib.hid (show G w2 by rw [hG]; exact ⟨HKA.out.good (HA.out.below V2.out.below), V2.out.box_there (i := 0) rfl (Nat.succ_pos _)⟩)
  have HG3 := Lib.hid (show ∀ (w : World) (p : Int × Int), G w → p ∈ ps → Calls Try.prog 38 #[.agg #[.int .i64 p.1, .int .i64 p.2], .pointer (some ⟨W.heap.size, 0, none⟩)] w fun e w' => e = .returned (.bool (A.acc p.1)) ∧ Below w.heap.size w w' from fun w p h hm => by
    rw [hG] at h
    obtain ⟨j, hj⟩ := List.mem_iff_getElem?.1 hm
    exact sclos_any x A k _ p.1 p.2 w h.1 h.2 (HR.out.inl j p hj))
  clear hG
  go_wp2_with fail
  refine ((firstWord_anyS G HG1.out (fun p => A.acc p.1) W.heap.size A A k ps pa nx HG3.out HR.out (A.acc_neg (by decide)) hk0 hk8 Ap np cp An nn cn Af nf cf w2 (HV.out.pair_len (i := 0) rfl) (by have h1 := HV.out.pair_len (i := 0) rfl; have h2 := HR.out.few (by have := HKA.out.few; omega) (by have := HKA.out.few; omega); omega) (HV.out.cells (i := 0) rfl rfl) (by have := HV.out.num_len (i := 2) rfl; rw [fdOf_len] at this; exact this) (HV.out.cells (i := 2) rfl rfl) HG2.out)).mono ?_
  rintro e w3 hpost
  have hpost := FwPost.base hpost V2.out.below
  have HP := Lib.hid (show ShortPost A W e w3 from ⟨hpost.1, .inr ⟨k, HKA.out, hpost⟩⟩)
  obtain ⟨_, ⟨_, rfl⟩ | ⟨u, G4, n4, c4, _, rfl, _, _⟩⟩ := hpost
  · go_wp2_with fail
    go_ret2
    exact HP.out
  · go_wp2_with fail
    go_ret2
    exact HP.out
theorem Fw.none_eq {A B : Au} {k : Nat} (h : Fw k (fun u => A.lang u != B.lang u) none) : ∀ u, Let k u → A.lang u = B.lang u := by
  intro u hu
  cases h with
  | no h => have := h u hu; simpa using this
theorem Fw.some_ne {A B : Au} {k : Nat} {v : List Nat} (h : Fw k (fun u => A.lang u != B.lang u) (some v)) : ¬ ∀ u, Let k u → A.lang u = B.lang u := by
  intro g
  cases h with
  | yes u h => have h4 : (A.lang v != B.lang v) = true := h.2.1; rw [g v h.1] at h4; simp at h4
/-- What Same answers. -/
def SamePost (A B : Au) (W : World) (e : Ending) (w' : World) : Prop :=
  Below W.heap.size W w' ∧ ((Au.pE A B = 1 ∧ e = .returned (.tuple #[.bool false, .int .i64 1])) ∨ ∃ k b, A.Vld k ∧ B.Vld k ∧ e = .returned (.tuple #[.bool b, .int .i64 0]) ∧ (b = true ↔ ∀ u, Let k u → A.lang u = B.lang u))
set_option maxHeartbeats 8000000 in
theorem same_any (x y : DV) (A B : Au) (W : World) (hA : DfaIn W x A) (hB : DfaIn W y B) :
    Calls Try.prog 10 #[dval x A, dval y B] W (SamePost A B W) := by
  have HA := Lib.hid hA
  have HB := Lib.hid hB
  clear hA hB
  obtain ⟨wz, hwz⟩ : ∃ z, z = ((W.alloc (.cells #[.int .i64 A.lt, .int .i64 A.st, .slice x.A x.n x.c, .slice x.B x.m x.d] 25)).alloc (.cells #[.int .i64 B.lt, .int .i64 B.st, .slice y.A y.n y.c, .slice y.B y.m y.d] 25)) := ⟨_, rfl⟩
  have V := Lib.hid (show Hp W [box 25 (W.heap.size + 1) [.int .i64 B.lt, .int .i64 B.st, .slice y.A y.n y.c, .slice y.B y.m y.d], box 25 W.heap.size [.int .i64 A.lt, .int .i64 A.st, .slice x.A x.n x.c, .slice x.B x.m x.d]] wz by
    have := (((Hp.start W).box_new 25 [.int .i64 A.lt, .int .i64 A.st, .slice x.A x.n x.c, .slice x.B x.m x.d]).box_new 25 [.int .i64 B.lt, .int .i64 B.st, .slice y.A y.n y.c, .slice y.B y.m y.d])
    rw [hwz]; simpa using this)
  have HZ := Lib.hid hwz
  clear hwz
  go_enter Try.func10, Try.ntmps10
  go_upto_region 1 with fail
  rw [← HZ.out]
  clear HZ
  obtain ⟨r0_0, _, r0_9⟩ := V.out.box_at (i := 0) (j := 0) rfl rfl
  obtain ⟨r0_1, _, _⟩ := V.out.box_at (i := 0) (j := 1) rfl rfl
  obtain ⟨r0_2, _, _⟩ := V.out.box_at (i := 0) (j := 2) rfl rfl
  obtain ⟨r0_3, _, _⟩ := V.out.box_at (i := 0) (j := 3) rfl rfl
  obtain ⟨r1_0, _, r1_9⟩ := V.out.box_at (i := 1) (j := 0) rfl rfl
  obtain ⟨r1_1, _, _⟩ := V.out.box_at (i := 1) (j := 1) rfl rfl
  obtain ⟨r1_2, _, _⟩ := V.out.box_at (i := 1) (j := 2) rfl rfl
  obtain ⟨r1_3, _, _⟩ := V.out.box_at (i := 1) (j := 3) rfl rfl
  go_wp2_with fail
  refine (difference_any x y A B wz (HA.out.below V.out.below) (HB.out.below V.out.below)).mono ?_
  rintro e w1 ⟨b1, ⟨hp, rfl⟩ | ⟨k, hka, hkb, hb1, ⟨hfw, rfl⟩ | ⟨u, G, n, c, hfw, rfl, _, _⟩⟩⟩
  · have HP := Lib.hid (show SamePost A B W (.returned (.tuple #[.bool false, .int .i64 1])) w1 from ⟨btwo V.out.below b1, .inl ⟨hp, rfl⟩⟩)
    clear hp b1
    go_wp2_with fail
    go_ret2
    exact HP.out
  · have HP := Lib.hid (show SamePost A B W (.returned (.tuple #[.bool true, .int .i64 0])) w1 from ⟨btwo V.out.below b1, .inr ⟨k, true, hka, hkb, rfl, ⟨fun _ => hfw.none_eq, fun _ => rfl⟩⟩⟩)
    clear hka hkb hfw b1 hb1
    go_wp2_with fail
    go_ret2
    exact HP.out
  · have HP := Lib.hid (show SamePost A B W (.returned (.tuple #[.bool false, .int .i64 0])) w1 from ⟨btwo V.out.below b1, .inr ⟨k, false, hka, hkb, rfl, ⟨fun h => (by cases h), fun h => absurd h hfw.some_ne⟩⟩⟩)
    clear hka hkb hfw b1 hb1
    go_wp2_with fail
    go_ret2
    exact HP.out
end Go.Proofs.Ytdkdfmflghbhiaa
