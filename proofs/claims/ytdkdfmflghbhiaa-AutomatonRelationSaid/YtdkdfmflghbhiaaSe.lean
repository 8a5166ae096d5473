/- What the statement about relations answers: true, whatever the input. -/
import Derived.Test.YtdkdfmflghbhiaaSc
import Derived.Test.YtdkdfmflghbhiaaRf
import Derived.Test.YtdkdfmflghbhiaaRm
import Derived.Test.YtdkdfmflghbhiaaQz
import Derived.Test.YtdkdfmflghbhiaaQy
namespace Go.Proofs.Ytdkdfmflghbhiaa
open Go.RowKit
set_option linter.unusedVariables false
set_option linter.unusedSimpArgs false
set_option maxRecDepth 100000

theorem in2_run {A B : Au} {k : Nat} (hA : A.Right k) (hB : B.Right k) (h0 : in2 A B (A.st, B.st)) : ∀ (u : List Nat) (p : Int × Int), in2 A B p → in2 A B (u.foldl (sc2 A B) p)
  | [], _, h => h
  | c :: u, p, _ => in2_run hA hB h0 u _ (in2_step hA hB p c)
theorem IsRel.inl {A B : Au} {k : Nat} {L : List (Int × Int)} (h : IsRel A B k L) (hA : A.Right k) (hB : B.Right k) (h0 : in2 A B (A.st, B.st)) {q : Int × Int} (hq : q ∈ L) : in2 A B q := by
  obtain ⟨_, u, _, e⟩ := (h.2 q).1 hq
  rw [← e, show (A.run A.st u, B.run B.st u) = u.foldl (sc2 A B) (A.st, B.st) from (fold2 (A := A) (B := B) u (A.st, B.st)).symm]
  exact in2_run hA hB h0 u _ h0
theorem Asc.nd {L : List (Int × Int)} (h : Asc L) (a b : Nat) (x : Int × Int) (h1 : L[a]? = some x) (h2 : L[b]? = some x) : a = b := by
  obtain ⟨l1, e1⟩ := List.getElem?_eq_some_iff.1 h1
  obtain ⟨l2, e2⟩ := List.getElem?_eq_some_iff.1 h2
  apply Classical.byContradiction
  intro hne
  rcases Nat.lt_or_gt_of_ne hne with g | g
  · have := (List.pairwise_iff_getElem.1 h) a b l1 l2 g
    rw [e1, e2] at this
    exact ltP_irr x this
  · have := (List.pairwise_iff_getElem.1 h) b a l2 l1 g
    rw [e1, e2] at this
    exact ltP_irr x this
/-- CheckRelation accepts the relation of automata with one language. -/
theorem IsRel.check {A B : Au} {k : Nat} {L : List (Int × Int)} (h : IsRel A B k L) (hA : A.Vld k) (hB : B.Vld k) (h0 : in2 A B (A.st, B.st)) (hs : SameL A B k) : chkB A B L = true := by
  have hno : ∀ q, q ∈ L → ¬ no2 q := fun q hq => ((h.2 q).1 hq).1
  have hinL : ∀ u, Let k u → inL L (A.run A.st u, B.run B.st u) = true := fun u hu => by
    unfold inL
    by_cases e : no2 (A.run A.st u, B.run B.st u)
    · unfold no2 at e
      rw [e]
      simp
    · have := (h.2 _).2 ⟨e, u, hu, rfl⟩
      rw [Bool.or_eq_true]
      exact .inl (List.contains_iff_mem.2 this)
  refine chkB_all (Au.pE_mk hA hB) (isRelB_all (fun i p hp => okP_mk (h.inl hA.right hB.right h0 (List.mem_of_getElem? hp)) (hno p (List.mem_of_getElem? hp))) (fun i p q hp hq => ?_)) (relC_all (hinL [] (fun c hc => by cases hc)) (fun i p hp => ?_))
  · obtain ⟨l1, e1⟩ := List.getElem?_eq_some_iff.1 hp
    obtain ⟨l2, e2⟩ := List.getElem?_eq_some_iff.1 hq
    rw [← e1, ← e2]
    exact (List.pairwise_iff_getElem.1 h.1) i (i + 1) l1 l2 (Nat.lt_succ_self i)
  · obtain ⟨_, u, hu, e⟩ := (h.2 p).1 (List.mem_of_getElem? hp)
    refine pairC_all hA.right.lt ?_ (fun c hc => ?_)
    · rw [← e]; exact hs u hu
    · have hu2 : Let k (u ++ [c]) := fun d hd => by
        rcases List.mem_append.1 hd with h1 | h1
        · exact hu d h1
        · rw [List.mem_singleton.1 h1]; exact hc
      have := hinL (u ++ [c]) hu2
      rw [show (A.run A.st (u ++ [c]), B.run B.st (u ++ [c])) = (u ++ [c]).foldl (sc2 A B) (A.st, B.st) from (fold2 (A := A) (B := B) (u ++ [c]) (A.st, B.st)).symm, List.foldl_append, show u.foldl (sc2 A B) (A.st, B.st) = p from (fold2 (A := A) (B := B) u (A.st, B.st)).trans e] at this
      exact this
/-- What Relation is to return. -/
def RelR (A B : Au) (L : List (Int × Int)) (er : Int) : Prop := (Au.pE A B = 1 ∧ L = [] ∧ er = 1) ∨ ∃ k, A.Vld k ∧ B.Vld k ∧ ((¬ SameL A B k ∧ L = [] ∧ er = 12) ∨ (SameL A B k ∧ IsRel A B k L ∧ er = 0))
set_option maxHeartbeats 4000000 in
theorem eqp_true (A1 A2 : Option Addr) (n c d : Nat) (L : List (Int × Int)) (w : World) (hL : L.length = n) (hn : n ≤ 2000000) (h1 : CellsIn w A1 (pcells L)) (h2 : CellsIn w A2 (pcells L)) :
    Calls Try.prog 9 #[.slice A1 n c, .slice A2 n d] w fun e w' => e = .returned (.bool true) ∧ Below w.heap.size w w' := by
  have HC1 := Lib.hid h1
  have HC2 := Lib.hid h2
  have HL := Lib.hid hL
  clear h1 h2 hL
  go_enter Try.func9, Try.ntmps9
  go_wp2_with fail
  go_loopw [13] (fun cv wr => ∃ j : Nat, cv = .int .i64 (j : Int) ∧ j ≤ n ∧ Below w.heap.size w wr) (fun cv _ => n - (intOf cv).toNat)
  case atStart => exact ⟨0, rfl, Nat.zero_le _, Below.refl _ _⟩
  case round =>
    obtain ⟨j, rfl, hjn, hB⟩ := hrel
    obtain ⟨wi, rfl⟩ : ∃ wi : World, wi = wr := ⟨_, rfl⟩
    have BW := Lib.hid hB
    by_cases hlt : j < n
    · obtain ⟨⟨p1, p2⟩, hp⟩ : ∃ p, L[j]? = some p := ⟨_, List.getElem?_eq_getElem (by have := HL.out; omega)⟩
      obtain ⟨b1, o1, rfl, l1, x1, x2⟩ := (HC1.out.below hB).pair hp
      obtain ⟨b2, o2, rfl, l2, y1, y2⟩ := (HC2.out.below hB).pair hp
      clear hp hB
      go_upto_region 6 with fail
      have HX1 := Lib.hid x1
      have HX2 := Lib.hid x2
      have HY1 := Lib.hid y1
      have HY2 := Lib.hid y2
      have hKp : Keep [(⟨b1, o1 + j * 2, none⟩, .int .i64 p1), (⟨b1, o1 + j * 2 + 1, none⟩, .int .i64 p2), (⟨b2, o2 + j * 2, none⟩, .int .i64 p1), (⟨b2, o2 + j * 2 + 1, none⟩, .int .i64 p2)] wi := fm ⟨⟨HX1.out, l1⟩, fm ⟨⟨HX2.out, l1⟩, fm ⟨⟨HY1.out, l2⟩, fm ⟨⟨HY2.out, l2⟩, fun _ h => by simp at h⟩⟩⟩⟩
      refine wp_region_held_drew (S := Keep _) (by kernel_rfl) hKp.drew (fun hHeld => ?_)
      refine tk 0 ?_ rfl ?_ ?_; rotate_left; focus (intro w hSw; clear hSw; go_simp; try (with_reducible rfl))
      try simp only [Act.put, sA, sZ, sS]
      refine tk 1 ?_ rfl ?_ ?_; rotate_left; focus (intro w hSw; clear hSw; go_simp; try (with_reducible rfl))
      try simp only [Act.put, sA, sZ, sS]
      refine tk 2 ?_ rfl ?_ ?_; rotate_left; focus (intro w hSw; clear hSw; go_simp; try (with_reducible rfl))
      try simp only [Act.put, sA, sZ, sS]
      refine tk 3 ?_ rfl ?_ ?_; rotate_left
      · intro wl hSw
        have hSw : Keep _ wl := hSw
        have k0 : wl.cell? ⟨b1, o1 + j * 2, none⟩ = some (.int .i64 p1) := (hSw _ (.head _)).1
        have k1 : wl.cell? ⟨b1, o1 + j * 2 + 1, none⟩ = some (.int .i64 p2) := (hSw _ (.tail _ (.head _))).1
        clear hSw
        go_simp
        try (with_reducible rfl)
      try simp only [Act.put, sA, sZ, sS]
      refine tk 4 ?_ rfl ?_ ?_; rotate_left; focus (intro w hSw; clear hSw; go_simp; try (with_reducible rfl))
      try simp only [Act.put, sA, sZ, sS]
      refine tk 5 ?_ rfl ?_ ?_; rotate_left; focus (intro w hSw; clear hSw; go_simp; try (with_reducible rfl))
      try simp only [Act.put, sA, sZ, sS]
      refine tk 6 ?_ rfl ?_ ?_; rotate_left; focus (intro w hSw; clear hSw; go_simp; try (with_reducible rfl))
      try simp only [Act.put, sA, sZ, sS]
      refine tk 7 ?_ rfl ?_ ?_; rotate_left
      · intro wl hSw
        have hSw : Keep _ wl := hSw
        have k0 : wl.cell? ⟨b2, o2 + j * 2, none⟩ = some (.int .i64 p1) := (hSw _ (.tail _ (.tail _ (.head _)))).1
        have k1 : wl.cell? ⟨b2, o2 + j * 2 + 1, none⟩ = some (.int .i64 p2) := (hSw _ (.tail _ (.tail _ (.tail _ (.head _))))).1
        clear hSw
        go_simp
        try (with_reducible rfl)
      try simp only [Act.put, sA, sZ, sS]
      refine tk 8 ?_ rfl ?_ ?_; rotate_left; focus (intro w hSw; clear hSw; go_simp; try (with_reducible rfl))
      try simp only [Act.put, sA, sZ, sS]
      refine wpAnyH_done (by kernel_rfl) ?_ _
      go_wp2_with fail
      go_roundw
      case rel => exact ⟨j + 1, by go_num, by omega, btwo BW.out (bdrew _)⟩
      case measure => simp [intOf]; omega
    · obtain rfl : j = n := by omega
      go_wp2_with fail
      go_ret
      exact ⟨rfl, hB⟩
theorem RelR.uniq {A B : Au} {L M : List (Int × Int)} {er es : Int} (h : RelR A B L er) (g : RelR A B M es) : L = M ∧ er = es := by
  rcases h with ⟨h1, h2, h3⟩ | ⟨k, h1, h2, h3⟩ <;> rcases g with ⟨g1, g2, g3⟩ | ⟨k', g1, g2, g3⟩
  · exact ⟨h2.trans g2.symm, h3.trans g3.symm⟩
  · exact absurd (h1.symm.trans (Au.pE_mk g1 g2)) (by decide)
  · exact absurd (g1.symm.trans (Au.pE_mk h1 h2)) (by decide)
  · have ek : k = k' := by have a := h1.right.lt; have b := g1.right.lt; omega
    subst ek
    rcases h3 with ⟨a1, a2, a3⟩ | ⟨a1, a2, a3⟩ <;> rcases g3 with ⟨b1, b2, b3⟩ | ⟨b1, b2, b3⟩
    · exact ⟨a2.trans b2.symm, a3.trans b3.symm⟩
    · exact absurd b1 a1
    · exact absurd a1 b1
    · exact ⟨a2.uniq b2, a3.trans b3.symm⟩
def RelV (A B : Au) (w : World) (e : Ending) (w' : World) : Prop := ∃ G n c L er, e = .returned (.tuple #[.slice G n c, .int .i64 er]) ∧ RelR A B L er ∧ L.length = n ∧ CellsIn w' G (pcells L) ∧ Below w.heap.size w w'
theorem RelPost.val {A B : Au} {w w' : World} {e : Ending} (h : RelPost A B w e w') : RelV A B w e w' := by
  obtain ⟨hb, ⟨h1, rfl⟩ | ⟨k, h1, h2, ⟨h3, rfl⟩ | ⟨h3, qs, G, n, c, rfl, h4, h5⟩⟩⟩ := h
  · exact ⟨none, 0, 0, [], 1, rfl, .inl ⟨h1, rfl, rfl⟩, rfl, CellsIn.nil _ _, hb⟩
  · exact ⟨none, 0, 0, [], 12, rfl, .inr ⟨k, h1, h2, .inl ⟨h3, rfl, rfl⟩⟩, rfl, CellsIn.nil _ _, hb⟩
  · exact ⟨G, n, c, qs, 0, rfl, .inr ⟨k, h1, h2, .inr ⟨h3, h4, rfl⟩⟩, h5.pair_len (i := 0) rfl, h5.cells (i := 0) rfl rfl, hb⟩
theorem relV_any (x y : DV) (A B : Au) (W : World) (hA : DfaIn W x A) (hB : DfaIn W y B) : Calls Try.prog 6 #[dval x A, dval y B] W (RelV A B W) := (relation_any x y A B W hA hB).mono fun _ _ h => h.val
theorem rrelV_any (x y : DV) (A B : Au) (W : World) (hA : DfaIn W x A) (hB : DfaIn W y B) : Calls Try.prog 8 #[dval x A, dval y B] W (RelV A B W) := (rrelation_any x y A B W hA hB).mono fun _ _ h => h.val
/-- How many pairs there are, for automata that are few. -/
theorem RelR.few {A B : Au} {L : List (Int × Int)} {er : Int} (h : RelR A B L er) (hA : A.n ≤ 410) (hB : B.n ≤ 410) : L.length ≤ 1000000 := by
  rcases h with ⟨_, h2, _⟩ | ⟨k, h1, h2, ⟨_, h3, _⟩ | ⟨_, h3, _⟩⟩
  · rw [h2]; simp
  · rw [h3]; simp
  · have h0 := in2_start h1.right h2.right
    have := few2 (A := A) (B := B) (fun j p hp => h3.inl h1.right h2.right h0 (List.mem_of_getElem? hp)) h3.1.nd
    have := Nat.mul_le_mul (show A.n + 1 ≤ 411 by omega) (show B.n + 1 ≤ 411 by omega)
    omega
theorem RelR.er {A B : Au} {L : List (Int × Int)} {er : Int} (h : RelR A B L er) : er = 1 ∨ er = 12 ∨ er = 0 := by
  rcases h with ⟨_, _, h3⟩ | ⟨k, _, _, ⟨_, _, h3⟩ | ⟨_, _, h3⟩⟩
  · exact .inl h3
  · exact .inr (.inl h3)
  · exact .inr (.inr h3)
/-- Without error: the languages are the same, and CheckRelation accepts. -/
theorem RelR.good {A B : Au} {L : List (Int × Int)} (h : RelR A B L 0) : chkB A B L = true ∧ ∃ k, A.Vld k ∧ B.Vld k ∧ SameL A B k := by
  rcases h with ⟨_, _, h3⟩ | ⟨k, h1, h2, ⟨_, _, h3⟩ | ⟨hs, h3, _⟩⟩
  · cases h3
  · cases h3
  · exact ⟨h3.check h1 h2 (in2_start h1.right h2.right) hs, k, h1, h2, hs⟩


theorem smr_few {A B : Au} (h : smlB A B = true) : A.fewB = true ∧ B.fewB = true := by
  unfold smlB at h
  rw [Bool.and_eq_true, Bool.and_eq_true] at h
  exact h.1
set_option maxHeartbeats 32000000 in
theorem lawrel_any (x : DV) (A : Au) (y : DV) (B : Au) (w : World) (hA : DfaIn w x A) (hB : DfaIn w y B) :
    Calls Try.prog 3 #[dval x A, dval y B] w fun e w' => e = .returned (.bool true) ∧ Below w.heap.size w w' := by
  have HA := Lib.hid hA
  have HB := Lib.hid hB
  clear hA hB
  by_cases hf : smlB A B = true
  case neg =>
    have HF := Lib.hid (show smlB A B = false by cases e : smlB A B; rfl; exact absurd e hf)
    clear hf
    obtain ⟨wz, hwz⟩ : ∃ z, z = ((w.alloc (.cells #[.int .i64 A.lt, .int .i64 A.st, .slice x.A x.n x.c, .slice x.B x.m x.d] 25)).alloc (.cells #[.int .i64 B.lt, .int .i64 B.st, .slice y.A y.n y.c, .slice y.B y.m y.d] 25)) := ⟨_, rfl⟩
    have V := Lib.hid (show Hp w [box 25 (w.heap.size + 1) [.int .i64 B.lt, .int .i64 B.st, .slice y.A y.n y.c, .slice y.B y.m y.d], box 25 w.heap.size [.int .i64 A.lt, .int .i64 A.st, .slice x.A x.n x.c, .slice x.B x.m x.d]] wz by
      have := (((Hp.start w).box_new 25 [.int .i64 A.lt, .int .i64 A.st, .slice x.A x.n x.c, .slice x.B x.m x.d]).box_new 25 [.int .i64 B.lt, .int .i64 B.st, .slice y.A y.n y.c, .slice y.B y.m y.d])
      rw [hwz]; simpa using this)
    have HZ := Lib.hid hwz
    clear hwz
    go_enter Try.func3, Try.ntmps3
    go_upto_region 1 with fail
    rw [← HZ.out]
    clear HZ
    go_wp2_with fail
    refine (awake_any wz).mono ?_
    rintro e w1 ⟨rfl, b1⟩
    have V1 := Lib.hid (V.out.go b1)
    clear b1 V
    obtain ⟨r0_0, _, r0_9⟩ := V1.out.box_at (i := 0) (j := 0) rfl rfl
    obtain ⟨r0_1, _, _⟩ := V1.out.box_at (i := 0) (j := 1) rfl rfl
    obtain ⟨r0_2, _, _⟩ := V1.out.box_at (i := 0) (j := 2) rfl rfl
    obtain ⟨r0_3, _, _⟩ := V1.out.box_at (i := 0) (j := 3) rfl rfl
    obtain ⟨r1_0, _, r1_9⟩ := V1.out.box_at (i := 1) (j := 0) rfl rfl
    obtain ⟨r1_1, _, _⟩ := V1.out.box_at (i := 1) (j := 1) rfl rfl
    obtain ⟨r1_2, _, _⟩ := V1.out.box_at (i := 1) (j := 2) rfl rfl
    obtain ⟨r1_3, _, _⟩ := V1.out.box_at (i := 1) (j := 3) rfl rfl
    go_wp2_with fail
    refine (small_any x y A B w1 (HA.out.below V1.out.below) (HB.out.below V1.out.below)).mono ?_
    rintro e w2 ⟨rfl, b2⟩
    rw [HF.out]
    have V2 := Lib.hid (V1.out.go b2)
    clear b2 V1 r0_9 r0_0 r0_1 r0_2 r0_3 r1_9 r1_0 r1_1 r1_2 r1_3
    go_wp2_with fail
    refine (awake_any w2).mono ?_
    rintro e w3 ⟨rfl, b3⟩
    have V3 := Lib.hid (V2.out.go b3)
    go_wp2_with fail
    go_ret
    exact ⟨rfl, V3.out.below⟩
  have HF := Lib.hid hf
  have FA := Lib.hid (smr_few hf).1
  have FB := Lib.hid (smr_few hf).2
  have NA := fewB_n (smr_few hf).1
  have NB := fewB_n (smr_few hf).2
  clear hf
  obtain ⟨wz, hwz⟩ : ∃ z, z = ((w.alloc (.cells #[.int .i64 A.lt, .int .i64 A.st, .slice x.A x.n x.c, .slice x.B x.m x.d] 25)).alloc (.cells #[.int .i64 B.lt, .int .i64 B.st, .slice y.A y.n y.c, .slice y.B y.m y.d] 25)) := ⟨_, rfl⟩
  have V := Lib.hid (show Hp w [box 25 (w.heap.size + 1) [.int .i64 B.lt, .int .i64 B.st, .slice y.A y.n y.c, .slice y.B y.m y.d], box 25 w.heap.size [.int .i64 A.lt, .int .i64 A.st, .slice x.A x.n x.c, .slice x.B x.m x.d]] wz by
    have := (((Hp.start w).box_new 25 [.int .i64 A.lt, .int .i64 A.st, .slice x.A x.n x.c, .slice x.B x.m x.d]).box_new 25 [.int .i64 B.lt, .int .i64 B.st, .slice y.A y.n y.c, .slice y.B y.m y.d])
    rw [hwz]; simpa using this)
  have HZ := Lib.hid hwz
  clear hwz
  go_enter Try.func3, Try.ntmps3
  go_upto_region 1 with fail
  rw [← HZ.out]
  clear HZ
  go_wp2_with fail
  refine (awake_any wz).mono ?_
  rintro e w1 ⟨rfl, b1⟩
  have V1 := Lib.hid (V.out.go b1)
  clear b1 V
  obtain ⟨r0_0, _, r0_9⟩ := V1.out.box_at (i := 0) (j := 0) rfl rfl
  obtain ⟨r0_1, _, _⟩ := V1.out.box_at (i := 0) (j := 1) rfl rfl
  obtain ⟨r0_2, _, _⟩ := V1.out.box_at (i := 0) (j := 2) rfl rfl
  obtain ⟨r0_3, _, _⟩ := V1.out.box_at (i := 0) (j := 3) rfl rfl
  obtain ⟨r1_0, _, r1_9⟩ := V1.out.box_at (i := 1) (j := 0) rfl rfl
  obtain ⟨r1_1, _, _⟩ := V1.out.box_at (i := 1) (j := 1) rfl rfl
  obtain ⟨r1_2, _, _⟩ := V1.out.box_at (i := 1) (j := 2) rfl rfl
  obtain ⟨r1_3, _, _⟩ := V1.out.box_at (i := 1) (j := 3) rfl rfl
  go_wp2_with fail
  refine (small_any x y A B w1 (HA.out.below V1.out.below) (HB.out.below V1.out.below)).mono ?_
  rintro e w2 ⟨rfl, b2⟩
  rw [HF.out]
  have V2 := Lib.hid (V1.out.go b2)
  clear b2 V1 r0_9 r0_0 r0_1 r0_2 r0_3 r1_9 r1_0 r1_1 r1_2 r1_3
  go_upto_region 3 with fail
  go_cut [5, 6] (fun r5 r6 wy => ∃ G n c L er, r5 = .slice G n c ∧ r6 = .int .i64 er ∧ RelR A B L er ∧ L.length = n ∧ CellsIn wy G (pcells L) ∧ Hp w [box 25 (w.heap.size + 1) [.int .i64 B.lt, .int .i64 B.st, .slice y.A y.n y.c, .slice y.B y.m y.d], box 25 w.heap.size [.int .i64 A.lt, .int .i64 A.st, .slice x.A x.n x.c, .slice x.B x.m x.d]] wy)
  case first =>
    have hKp : Keep [(⟨w.heap.size, 0, none⟩, .int .i64 A.lt), (⟨w.heap.size, 1, none⟩, .int .i64 A.st), (⟨w.heap.size, 2, none⟩, .slice x.A x.n x.c), (⟨w.heap.size, 3, none⟩, .slice x.B x.m x.d), (⟨w.heap.size + 1, 0, none⟩, .int .i64 B.lt), (⟨w.heap.size + 1, 1, none⟩, .int .i64 B.st), (⟨w.heap.size + 1, 2, none⟩, .slice y.A y.n y.c), (⟨w.heap.size + 1, 3, none⟩, .slice y.B y.m y.d)] w2 := fm ⟨⟨(V2.out.box_at (i := 1) (j := 0) rfl rfl).1, (V2.out.box_at (i := 1) (j := 0) rfl rfl).2.2⟩, fm ⟨⟨(V2.out.box_at (i := 1) (j := 1) rfl rfl).1, (V2.out.box_at (i := 1) (j := 1) rfl rfl).2.2⟩, fm ⟨⟨(V2.out.box_at (i := 1) (j := 2) rfl rfl).1, (V2.out.box_at (i := 1) (j := 2) rfl rfl).2.2⟩, fm ⟨⟨(V2.out.box_at (i := 1) (j := 3) rfl rfl).1, (V2.out.box_at (i := 1) (j := 3) rfl rfl).2.2⟩, fm ⟨⟨(V2.out.box_at (i := 0) (j := 0) rfl rfl).1, (V2.out.box_at (i := 0) (j := 0) rfl rfl).2.2⟩, fm ⟨⟨(V2.out.box_at (i := 0) (j := 1) rfl rfl).1, (V2.out.box_at (i := 0) (j := 1) rfl rfl).2.2⟩, fm ⟨⟨(V2.out.box_at (i := 0) (j := 2) rfl rfl).1, (V2.out.box_at (i := 0) (j := 2) rfl rfl).2.2⟩, fm ⟨⟨(V2.out.box_at (i := 0) (j := 3) rfl rfl).1, (V2.out.box_at (i := 0) (j := 3) rfl rfl).2.2⟩, fun _ h => by simp at h⟩⟩⟩⟩⟩⟩⟩⟩
    refine wp_region_held_drew (S := Keep _) (by kernel_rfl) hKp.drew (fun hHeld => ?_)
    have V2d := Lib.hid (V2.out.go (bdrew _))
    refine tk 0 ?_ rfl ?_ ?_; rotate_left
    · intro wl hSw
      have hSw : Keep _ wl := hSw
      have k0 : wl.cell? ⟨w.heap.size, 0, none⟩ = some (.int .i64 A.lt) := (hSw _ (.head _)).1
      have k1 : wl.cell? ⟨w.heap.size, 1, none⟩ = some (.int .i64 A.st) := (hSw _ (.tail _ (.head _))).1
      have k2 : wl.cell? ⟨w.heap.size, 2, none⟩ = some (.slice x.A x.n x.c) := (hSw _ (.tail _ (.tail _ (.head _)))).1
      have k3 : wl.cell? ⟨w.heap.size, 3, none⟩ = some (.slice x.B x.m x.d) := (hSw _ (.tail _ (.tail _ (.tail _ (.head _))))).1
      clear hSw
      go_simp
      try (with_reducible rfl)
    try simp only [Act.put, sA, sZ, sS]
    refine tk 2 ?_ rfl ?_ ?_; rotate_left
    · intro wl hSw
      have hSw : Keep _ wl := hSw
      have k0 : wl.cell? ⟨w.heap.size + 1, 0, none⟩ = some (.int .i64 B.lt) := (hSw _ (.tail _ (.tail _ (.tail _ (.tail _ (.head _)))))).1
      have k1 : wl.cell? ⟨w.heap.size + 1, 1, none⟩ = some (.int .i64 B.st) := (hSw _ (.tail _ (.tail _ (.tail _ (.tail _ (.tail _ (.head _))))))).1
      have k2 : wl.cell? ⟨w.heap.size + 1, 2, none⟩ = some (.slice y.A y.n y.c) := (hSw _ (.tail _ (.tail _ (.tail _ (.tail _ (.tail _ (.tail _ (.head _)))))))).1
      have k3 : wl.cell? ⟨w.heap.size + 1, 3, none⟩ = some (.slice y.B y.m y.d) := (hSw _ (.tail _ (.tail _ (.tail _ (.tail _ (.tail _ (.tail _ (.tail _ (.head _))))))))).1
      clear hSw
      go_simp
      try (with_reducible rfl)
    try simp only [Act.put, sA, sZ, sS]
    refine wpAnyH_ready (rs := [1]) (by kernel_rfl) (by simp) ?_
    refine AllReadyH.cons (List.getElem?_toArray.trans rfl) (fun K hK => ?_) AllReadyH.nil
    go_simp
    refine (copied_any x A _ (HA.out.below V2d.out.below) FA.out).mono ?_
    rintro e w_1 ⟨ya, rfl, hya, b_1⟩
    try go_wp2_with fail
    have Dya := Lib.hid hya
    clear hya
    have V_1 := Lib.hid (V2d.out.go b_1)
    refine hK.out _ _ (hHeld.go b_1) (fun hHeld => ?_)
    clear hK K
    try simp only [Act.put, sA, sZ, sS]
    refine wpAnyH_ready (rs := [3]) (by kernel_rfl) (by simp) ?_
    refine AllReadyH.cons (List.getElem?_toArray.trans rfl) (fun K hK => ?_) AllReadyH.nil
    go_simp
    refine (copied_any y B _ (HB.out.below V_1.out.below) FB.out).mono ?_
    rintro e w_1_3 ⟨yb, rfl, hyb, b_1_3⟩
    try go_wp2_with fail
    have Dyb := Lib.hid hyb
    clear hyb
    have V_1_3 := Lib.hid (V_1.out.go b_1_3)
    refine hK.out _ _ (hHeld.go b_1_3) (fun hHeld => ?_)
    clear hK K
    try simp only [Act.put, sA, sZ, sS]
    refine wpAnyH_ready (rs := [4]) (by kernel_rfl) (by simp) ?_
    refine AllReadyH.cons (List.getElem?_toArray.trans rfl) (fun K hK => ?_) AllReadyH.nil
    go_simp
    refine (relV_any ya yb A B _ (Dya.out.below b_1_3) Dyb.out).mono ?_
    rintro e w_1_3_4 ⟨G, n, c, L, er, rfl, hdr, hl, hcl, b_1_3_4⟩
    try go_wp2_with fail
    have HDR := Lib.hid hdr
    have HL := Lib.hid hl
    have HC := Lib.hid hcl
    clear hdr hl hcl
    have V_1_3_4 := Lib.hid (V_1_3.out.go b_1_3_4)
    refine hK.out _ _ (hHeld.go b_1_3_4) (fun hHeld => ?_)
    clear hK K
    try simp only [Act.put, sA, sZ, sS]
    refine tk 5 ?_ rfl ?_ ?_; rotate_left; focus (intro w hSw; clear hSw; go_simp; try (with_reducible rfl))
    try simp only [Act.put, sA, sZ, sS]
    refine tk 6 ?_ rfl ?_ ?_; rotate_left; focus (intro w hSw; clear hSw; go_simp; try (with_reducible rfl))
    try simp only [Act.put, sA, sZ, sS]
    refine tk 7 ?_ rfl ?_ ?_; rotate_left; focus (intro w hSw; clear hSw; go_simp; try (with_reducible rfl))
    try simp only [Act.put, sA, sZ, sS]
    refine tk 8 ?_ rfl ?_ ?_; rotate_left; focus (intro w hSw; clear hSw; go_simp; try (with_reducible rfl))
    try simp only [Act.put, sA, sZ, sS]
    refine tk 9 ?_ rfl ?_ ?_; rotate_left; focus (intro w hSw; clear hSw; go_simp; try (with_reducible rfl))
    try simp only [Act.put, sA, sZ, sS]
    refine wpAnyH_done (by kernel_rfl) ?_ _
    go_wp2_with fail
    go_meet
    exact ⟨G, n, c, L, er, rfl, rfl, HDR.out, HL.out, HC.out, V_1_3_4.out⟩
  case rest =>
    obtain ⟨G, n, c, L, er, rfl, rfl, hdr, hl, hcl, hv⟩ := hcut
    have V3 := Lib.hid hv
    have HD := Lib.hid hdr
    have HL := Lib.hid hl
    have HC := Lib.hid hcl
    have hn : n ≤ 1000000 := by have := hdr.few NA NB; omega
    clear hv V2 hdr hl hcl
    obtain ⟨r0_0, _, r0_9⟩ := V3.out.box_at (i := 0) (j := 0) rfl rfl
    obtain ⟨r0_1, _, _⟩ := V3.out.box_at (i := 0) (j := 1) rfl rfl
    obtain ⟨r0_2, _, _⟩ := V3.out.box_at (i := 0) (j := 2) rfl rfl
    obtain ⟨r0_3, _, _⟩ := V3.out.box_at (i := 0) (j := 3) rfl rfl
    obtain ⟨r1_0, _, r1_9⟩ := V3.out.box_at (i := 1) (j := 0) rfl rfl
    obtain ⟨r1_1, _, _⟩ := V3.out.box_at (i := 1) (j := 1) rfl rfl
    obtain ⟨r1_2, _, _⟩ := V3.out.box_at (i := 1) (j := 2) rfl rfl
    obtain ⟨r1_3, _, _⟩ := V3.out.box_at (i := 1) (j := 3) rfl rfl
    go_wp2_with fail
    refine (rrelV_any x y A B _ (HA.out.below V3.out.below) (HB.out.below V3.out.below)).mono ?_
    rintro e w4 ⟨G2, n2, c2, L2, e2, rfl, hd2, hl2, hc2, b4⟩
    obtain ⟨q1, q2⟩ := HD.out.uniq hd2
    subst q1
    subst q2
    obtain rfl : n = n2 := by have := HL.out; omega
    have V4 := Lib.hid (V3.out.go b4)
    have HC2 := Lib.hid hc2
    have HC4 := Lib.hid (HC.out.below b4)
    clear hd2 hl2 hc2 b4 V3 HC r0_9 r0_0 r0_1 r0_2 r0_3 r1_9 r1_0 r1_1 r1_2 r1_3
    have e1 : (er != er) = false := by simp
    have e1b : (er == er) = true := by simp
    go_wp2_with fail
    refine (eqp_true G G2 n c c2 L w4 HL.out (by omega) HC4.out HC2.out).mono ?_
    rintro e w5 ⟨rfl, b5⟩
    have V5 := Lib.hid (V4.out.go b5)
    have HC5 := Lib.hid (HC4.out.below b5)
    have HC25 := Lib.hid (HC2.out.below b5)
    clear b5 V4 HC4 HC2
    rcases HD.out.er with rfl | rfl | rfl
    · go_wp2_with fail
      refine (eqp_true G G2 n c c2 L w5 HL.out (by omega) HC5.out HC25.out).mono ?_
      rintro e w6 ⟨rfl, b6⟩
      have V6 := Lib.hid (V5.out.go b6)
      go_wp2_with fail
      go_ret
      exact ⟨rfl, V6.out.below⟩
    · go_wp2_with fail
      refine (eqp_true G G2 n c c2 L w5 HL.out (by omega) HC5.out HC25.out).mono ?_
      rintro e w6 ⟨rfl, b6⟩
      have V6 := Lib.hid (V5.out.go b6)
      go_wp2_with fail
      go_ret
      exact ⟨rfl, V6.out.below⟩
    · obtain ⟨hck, k, hka, hkb, hsl⟩ := HD.out.good
      have HK := Lib.hid hck
      have HS := Lib.hid hsl
      have HKA := Lib.hid hka
      have HKB := Lib.hid hkb
      clear hck hsl hka hkb
      obtain ⟨r0_0, _, r0_9⟩ := V5.out.box_at (i := 0) (j := 0) rfl rfl
      obtain ⟨r0_1, _, _⟩ := V5.out.box_at (i := 0) (j := 1) rfl rfl
      obtain ⟨r0_2, _, _⟩ := V5.out.box_at (i := 0) (j := 2) rfl rfl
      obtain ⟨r0_3, _, _⟩ := V5.out.box_at (i := 0) (j := 3) rfl rfl
      obtain ⟨r1_0, _, r1_9⟩ := V5.out.box_at (i := 1) (j := 0) rfl rfl
      obtain ⟨r1_1, _, _⟩ := V5.out.box_at (i := 1) (j := 1) rfl rfl
      obtain ⟨r1_2, _, _⟩ := V5.out.box_at (i := 1) (j := 2) rfl rfl
      obtain ⟨r1_3, _, _⟩ := V5.out.box_at (i := 1) (j := 3) rfl rfl
      go_wp2_with fail
      refine (same_any x y A B _ (HA.out.below V5.out.below) (HB.out.below V5.out.below)).mono ?_
      rintro e w6 ⟨b6, hsm⟩
      obtain rfl : e = .returned (.tuple #[.bool true, .int .i64 0]) := by
        rcases hsm with ⟨h1, _⟩ | ⟨k', bb, h1, h2, h3, h4⟩
        · exact absurd (h1.symm.trans (Au.pE_mk HKA.out HKB.out)) (by decide)
        · have ek : k = k' := by have a := HKA.out.right.lt; have b := h1.right.lt; omega
          subst ek
          rw [h3, h4.2 HS.out]
      have V6 := Lib.hid (V5.out.go b6)
      have HC6 := Lib.hid (HC5.out.below b6)
      clear b6 V5 HC5 HC25 hsm r0_9 r0_0 r0_1 r0_2 r0_3 r1_9 r1_0 r1_1 r1_2 r1_3
      obtain ⟨r0_0, _, r0_9⟩ := V6.out.box_at (i := 0) (j := 0) rfl rfl
      obtain ⟨r0_1, _, _⟩ := V6.out.box_at (i := 0) (j := 1) rfl rfl
      obtain ⟨r0_2, _, _⟩ := V6.out.box_at (i := 0) (j := 2) rfl rfl
      obtain ⟨r0_3, _, _⟩ := V6.out.box_at (i := 0) (j := 3) rfl rfl
      obtain ⟨r1_0, _, r1_9⟩ := V6.out.box_at (i := 1) (j := 0) rfl rfl
      obtain ⟨r1_1, _, _⟩ := V6.out.box_at (i := 1) (j := 1) rfl rfl
      obtain ⟨r1_2, _, _⟩ := V6.out.box_at (i := 1) (j := 2) rfl rfl
      obtain ⟨r1_3, _, _⟩ := V6.out.box_at (i := 1) (j := 3) rfl rfl
      go_wp2_with fail
      refine (check_any x y A B G n c L _ (HA.out.below V6.out.below) (HB.out.below V6.out.below) HL.out hn HC6.out).mono ?_
      rintro e w7 ⟨rfl, b7⟩
      rw [HK.out]
      have V7 := Lib.hid (V6.out.go b7)
      clear b7 V6
      go_wp2_with fail
      go_ret
      exact ⟨rfl, V7.out.below⟩
end Go.Proofs.Ytdkdfmflghbhiaa
