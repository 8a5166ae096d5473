/- Contract of the program: the relation of two automata. -/
import Derived.Test.YtdkdfmflghbhiaaSa
import Derived.Shelf.SlSortCmp.NoneTotal
namespace Go.Proofs.Ytdkdfmflghbhiaa
open Go.RowKit
set_option linter.unusedVariables false
set_option linter.unusedSimpArgs false
set_option maxRecDepth 100000

/-- The pair is reached by a word, and isn't nowhere in both. -/
def RelMem (A B : Au) (k : Nat) (p : Int × Int) : Prop := ¬ no2 p ∧ ∃ u, Let k u ∧ (A.run A.st u, B.run B.st u) = p
theorem Rch2.mem {A B : Au} {k : Nat} {l : List (Int × Int)} {pa : List Nat} {nx : List Int} (h : Rch2 A B k l pa nx) (hk : 0 < k) (p : Int × Int) : p ∈ l ↔ RelMem A B k p := by
  constructor
  · intro hp
    obtain ⟨j, hj⟩ := List.mem_iff_getElem?.1 hp
    rcases h.bfs with ⟨_, h1, _⟩ | ⟨_, g⟩
    · rw [h1] at hp; cases hp
    · refine ⟨g.ns j p hj, ?_⟩
      obtain ⟨u, _, hu, e⟩ := g.word hk (j + 1) j p (by omega) hj
      exact ⟨u, hu, by rw [← e]; exact (fold2 (A := A) (B := B) u (A.st, B.st)).symm⟩
  · rintro ⟨h1, u, hu, e⟩
    apply Classical.byContradiction
    intro hn
    have := h.none_want hk (f := fun q => decide (q = p)) (decide_eq_false fun e => h1 e.symm) (fun q hq => decide_eq_false fun e => hn (e ▸ hq)) u hu
    exact absurd e (of_decide_eq_false this)
theorem Rch2.nd {A B : Au} {k : Nat} {l : List (Int × Int)} {pa : List Nat} {nx : List Int} (h : Rch2 A B k l pa nx) (a b : Nat) (p : Int × Int) (h1 : l[a]? = some p) (h2 : l[b]? = some p) : a = b := by
  rcases h.bfs with ⟨_, e, _⟩ | ⟨_, g⟩
  · rw [e] at h1; simp at h1
  · exact g.nd a b p h1 h2
/-- The list is the relation: its pairs ascend, and are those that are reached. -/
def IsRel (A B : Au) (k : Nat) (l : List (Int × Int)) : Prop := Asc l ∧ ∀ p, p ∈ l ↔ RelMem A B k p
theorem IsRel.uniq {A B : Au} {k : Nat} {l m : List (Int × Int)} (h : IsRel A B k l) (g : IsRel A B k m) : l = m := h.1.uniq g.1 fun p => (h.2 p).trans (g.2 p).symm
/-- The languages are the same. -/
def SameL (A B : Au) (k : Nat) : Prop := ∀ u, Let k u → A.lang u = B.lang u
theorem Rch2.same {A B : Au} {k : Nat} {l : List (Int × Int)} {pa : List Nat} {nx : List Int} (h : Rch2 A B k l pa nx) (hk : 0 < k) (he : ∀ (i : Nat) p, l[i]? = some p → A.acc p.1 = B.acc p.2) : SameL A B k := by
  intro u hu
  have := h.none_want hk (f := fun q => A.acc q.1 != B.acc q.2) (by show (A.acc (-1) != B.acc (-1)) = false; rw [A.acc_neg (by decide), B.acc_neg (by decide)]; rfl) (fun q hq => by
    obtain ⟨j, hj⟩ := List.mem_iff_getElem?.1 hq
    show (A.acc q.1 != B.acc q.2) = false
    rw [he j q hj]; simp) u hu
  simpa [Au.lang] using this
theorem Rch2.differ {A B : Au} {k : Nat} {l : List (Int × Int)} {pa : List Nat} {nx : List Int} (h : Rch2 A B k l pa nx) (hk : 0 < k) {i : Nat} {p : Int × Int} (hp : l[i]? = some p) (he : A.acc p.1 ≠ B.acc p.2) : ¬ SameL A B k := by
  intro g
  obtain ⟨_, u, hu, e⟩ := (h.mem hk p).1 (List.mem_of_getElem? hp)
  apply he
  have := g u hu
  rw [← e]
  exact this
/-- What Relation returns. -/
def RelPost (A B : Au) (W : World) (e : Ending) (w' : World) : Prop :=
  Below W.heap.size W w' ∧ ((Au.pE A B = 1 ∧ e = .returned (.tuple #[.slice none 0 0, .int .i64 1])) ∨ ∃ k, A.Vld k ∧ B.Vld k ∧ ((¬ SameL A B k ∧ e = .returned (.tuple #[.slice none 0 0, .int .i64 12])) ∨ (SameL A B k ∧ ∃ qs G n c, e = .returned (.tuple #[.slice G n c, .int .i64 0]) ∧ IsRel A B k qs ∧ Hp W [prow 35 G n c qs] w')))
/-- slices.SortFunc over pairs, none among them too. -/
theorem sort_any {W w : World} {l : List Itm} {i n c : Nat} {G : Option Addr} {ps : List (Int × Int)} (h : Hp W l w) (hi : l[i]? = some (prow 35 G n c ps)) (hn : n ≤ 2000000) (hnd : ∀ (a b : Nat) p, ps[a]? = some p → ps[b]? = some p → a = b) :
    Calls Try.prog 23 #[.slice G n c, .func (.func 24) #[] #[]] w fun e w' => e = .returned (.tuple #[]) ∧
      ∃ qs : List (Int × Int), Asc qs ∧ (∀ p, p ∈ qs ↔ p ∈ ps) ∧ Hp W (l.set i (prow 35 G n c qs)) w' := by
  by_cases h0 : n = 0
  · subst h0
    have hl : ps = [] := List.eq_nil_of_length_eq_zero (h.pair_len hi)
    subst hl
    refine (AnyF.slices_SortFunc_none Try.sortP G c _ w).mono ?_
    rintro e w' ⟨rfl, rfl⟩
    exact ⟨rfl, [], List.Pairwise.nil, fun p => Iff.rfl, by obtain ⟨h1, h2⟩ := List.getElem?_eq_some_iff.1 hi; rw [← h2, List.set_getElem_self]; exact h⟩
  · obtain ⟨g, rfl⟩ := h.head hi rfl (Nat.pos_of_ne_zero h0)
    exact sort_pairs h hi hn hnd
set_option maxHeartbeats 16000000 in
theorem relation_any (x y : DV) (A B : Au) (W : World) (hA : DfaIn W x A) (hB : DfaIn W y B) :
    Calls Try.prog 6 #[dval x A, dval y B] W (RelPost A B W) := by
  have HA := Lib.hid hA
  have HB := Lib.hid hB
  clear hA hB
  obtain ⟨wz, hwz⟩ : ∃ z, z = ((W.alloc (.cells #[.int .i64 A.lt, .int .i64 A.st, .slice x.A x.n x.c, .slice x.B x.m x.d] 25)).alloc (.cells #[.int .i64 B.lt, .int .i64 B.st, .slice y.A y.n y.c, .slice y.B y.m y.d] 25)) := ⟨_, rfl⟩
  have V := Lib.hid (show Hp W [box 25 (W.heap.size + 1) [.int .i64 B.lt, .int .i64 B.st, .slice y.A y.n y.c, .slice y.B y.m y.d], box 25 W.heap.size [.int .i64 A.lt, .int .i64 A.st, .slice x.A x.n x.c, .slice x.B x.m x.d]] wz by
    have := (((Hp.start W).box_new 25 [.int .i64 A.lt, .int .i64 A.st, .slice x.A x.n x.c, .slice x.B x.m x.d]).box_new 25 [.int .i64 B.lt, .int .i64 B.st, .slice y.A y.n y.c, .slice y.B y.m y.d])
    rw [hwz]; simpa using this)
  have HZ := Lib.hid hwz
  clear hwz
  by_cases hp : Au.pE A B = 0
  case neg =>
    have hp1 : Au.pE A B = 1 := by rcases Au.pE_cases A B with e | e; exact absurd e hp; exact e
    have HE := Lib.hid hp1
    clear hp1 hp
    go_enter Try.func6, Try.ntmps6
    go_upto_region 1 with fail
    rw [← HZ.out]
    clear HZ
    obtain ⟨r0_0, _, r0_9⟩ := V.out.box_at (i := 0) (j := 0) rfl rfl
    obtain ⟨r0_1, _, _⟩ := V.out.box_at (i := 0) (j := 1) rfl rfl
    obtain ⟨r0_2, _, _⟩ := V.out.box_at (i := 0) (j := 2) rfl rfl
    obtain ⟨r0_3, _, _⟩ := V.out.box_at (i := 0) (j := 3) rfl rfl
    obtain ⟨r1_0, _, r1_9⟩ := V.out.box_at (i := 1) (j := 0) rfl rfl
    obtain ⟨r1_1, _, _⟩ := V.out.box_at (i := 1) (j := 1) rfl rfl
    obtain ⟨r1_2, _, _⟩ := V.out.box_at (i := 1) (j := 2) rfl rfl
    obtain ⟨r1_3, _, _⟩ := V.out.box_at (i := 1) (j := 3) rfl rfl
    go_wp2_with fail
    refine (pairError_any x y A B wz (HA.out.below V.out.below) (HB.out.below V.out.below)).mono ?_
    rintro e w1 ⟨rfl, b1⟩
    have V1 := Lib.hid (V.out.go b1)
    rw [HE.out]
    clear b1 V r0_9 r0_0 r0_1 r0_2 r0_3 r1_9 r1_0 r1_1 r1_2 r1_3
    have HP := Lib.hid (show RelPost A B W (.returned (.tuple #[.slice none 0 0, .int .i64 1])) w1 from ⟨V1.out.below, .inl ⟨HE.out, rfl⟩⟩)
    go_wp2_with fail
    go_ret2
    exact HP.out
  have HE := Lib.hid hp
  obtain ⟨k, hka, hkb⟩ := Au.pE_ok hp
  have HKA := Lib.hid hka
  have HKB := Lib.hid hkb
  have hk0 := hka.right.pos
  have hk8 := hka.k8
  clear hp hka hkb
  go_enter Try.func6, Try.ntmps6
  go_upto_region 1 with fail
  rw [← HZ.out]
  clear HZ
  obtain ⟨r0_0, _, r0_9⟩ := V.out.box_at (i := 0) (j := 0) rfl rfl
  obtain ⟨r0_1, _, _⟩ := V.out.box_at (i := 0) (j := 1) rfl rfl
  obtain ⟨r0_2, _, _⟩ := V.out.box_at (i := 0) (j := 2) rfl rfl
  obtain ⟨r0_3, _, _⟩ := V.out.box_at (i := 0) (j := 3) rfl rfl
  obtain ⟨r1_0, _, r1_9⟩ := V.out.box_at (i := 1) (j := 0) rfl rfl
  obtain ⟨r1_1, _, _⟩ := V.out.box_at (i := 1) (j := 1) rfl rfl
  obtain ⟨r1_2, _, _⟩ := V.out.box_at (i := 1) (j := 2) rfl rfl
  obtain ⟨r1_3, _, _⟩ := V.out.box_at (i := 1) (j := 3) rfl rfl
  go_wp2_with fail
  refine (pairError_any x y A B wz (HA.out.below V.out.below) (HB.out.below V.out.below)).mono ?_
  rintro e w1 ⟨rfl, b1⟩
  have V1 := Lib.hid (V.out.go b1)
  rw [HE.out]
  clear b1 V r0_9 r0_0 r0_1 r0_2 r0_3 r1_9 r1_0 r1_1 r1_2 r1_3
  obtain ⟨r0_0, _, r0_9⟩ := V1.out.box_at (i := 0) (j := 0) rfl rfl
  obtain ⟨r0_1, _, _⟩ := V1.out.box_at (i := 0) (j := 1) rfl rfl
  obtain ⟨r0_2, _, _⟩ := V1.out.box_at (i := 0) (j := 2) rfl rfl
  obtain ⟨r0_3, _, _⟩ := V1.out.box_at (i := 0) (j := 3) rfl rfl
  obtain ⟨r1_0, _, r1_9⟩ := V1.out.box_at (i := 1) (j := 0) rfl rfl
  obtain ⟨r1_1, _, _⟩ := V1.out.box_at (i := 1) (j := 1) rfl rfl
  obtain ⟨r1_2, _, _⟩ := V1.out.box_at (i := 1) (j := 2) rfl rfl
  obtain ⟨r1_3, _, _⟩ := V1.out.box_at (i := 1) (j := 3) rfl rfl
  go_wp2_with fail
  refine (reach_any x y A B k w1 (HKA.out.good (HA.out.below V1.out.below)) (HKB.out.good (HB.out.below V1.out.below))).mono ?_
  rintro e w2 ⟨ps, pa, nx, Ap, np, cp, An, nn, cn, Af, nf, cf, rfl, hr, hv2⟩
  have HR := Lib.hid hr
  have V2 := Lib.hid (show Hp W [prow 35 Ap np cp ps, nums An nn cn nx, nums Af nf cf (fdOf pa), box 25 (W.heap.size + 1) [.int .i64 B.lt, .int .i64 B.st, .slice y.A y.n y.c, .slice y.B y.m y.d], box 25 W.heap.size [.int .i64 A.lt, .int .i64 A.st, .slice x.A x.n x.c, .slice x.B x.m x.d]] w2 from V1.out.join hv2)
  have hnp := hr.few (by have := HKA.out.few; omega) (by have := HKB.out.few; omega)
  have hpl := hv2.pair_len (i := 0) rfl
  have hnb : np ≤ 2000000 := by omega
  clear hr hv2 V1 hnp r0_9 r0_0 r0_1 r0_2 r0_3 r1_9 r1_0 r1_1 r1_2 r1_3
  have hfd : ∀ w : World, (Instr.field 52 (.agg #[.int .i64 (k : Int), .slice Ap np cp, .slice An nn cn, .slice Af nf cf]) 1).run Try.prog w = .ok (.slice Ap np cp) w := fun _ => by kernel_rfl
  go_wp2_with fail
  go_loopw [22] (fun cv wr => ∃ j : Nat, cv = .int .i64 (j : Int) ∧ j ≤ np ∧ (∀ (i : Nat) p, i < j → ps[i]? = some p → A.acc p.1 = B.acc p.2) ∧ Hp W [prow 35 Ap np cp ps, nums An nn cn nx, nums Af nf cf (fdOf pa), box 25 (W.heap.size + 1) [.int .i64 B.lt, .int .i64 B.st, .slice y.A y.n y.c, .slice y.B y.m y.d], box 25 W.heap.size [.int .i64 A.lt, .int .i64 A.st, .slice x.A x.n x.c, .slice x.B x.m x.d]] wr) (fun cv _ => np - (intOf cv).toNat)
  case atStart => exact ⟨0, rfl, Nat.zero_le _, fun i p h => absurd h (Nat.not_lt_zero _), V2.out⟩
  case round =>
    clear V2
    obtain ⟨j, rfl, hjn, h1, hV⟩ := hrel
    obtain ⟨wi, rfl⟩ : ∃ wi : World, wi = wr := ⟨_, rfl⟩
    have V := Lib.hid hV
    have H1 := Lib.hid h1
    have HPL := Lib.hid hpl
    clear hV h1 hpl
    by_cases hlt : j < np
    · obtain ⟨⟨p1, p2⟩, hp⟩ : ∃ p, ps[j]? = some p := ⟨_, List.getElem?_eq_getElem (by have := HPL.out; omega)⟩
      have HP := Lib.hid hp
      have HI := Lib.hid (HR.out.inl j _ hp)
      obtain ⟨b, off, rfl, hb, hc1, hc2⟩ := (V.out.cells (i := 0) rfl rfl).pair hp
      obtain ⟨wx, hwx⟩ : ∃ z, z = wi.alloc (.cells #[.int .i64 p1, .int .i64 p2] 35) := ⟨_, rfl⟩
      have V3 := Lib.hid (show Hp W [box 35 wi.heap.size [.int .i64 p1, .int .i64 p2], prow 35 (some ⟨b, off, none⟩) np cp ps, nums An nn cn nx, nums Af nf cf (fdOf pa), box 25 (W.heap.size + 1) [.int .i64 B.lt, .int .i64 B.st, .slice y.A y.n y.c, .slice y.B y.m y.d], box 25 W.heap.size [.int .i64 A.lt, .int .i64 A.st, .slice x.A x.n x.c, .slice x.B x.m x.d]] wx by rw [hwx]; exact V.out.box_new 35 [.int .i64 p1, .int .i64 p2])
      have HWX := Lib.hid hwx
      clear hwx hp V
      go_upto_region 8 with fail
      rw [← HWX.out]
      clear HWX hc1 hc2
      rcases (Bool.eq_false_or_eq_true (A.acc p1)).symm with qa | qa
      · have QA := Lib.hid (show A.acc p1 = false from qa)
        clear qa
        rcases (Bool.eq_false_or_eq_true (B.acc p2)).symm with qb | qb
        · have QB := Lib.hid (show B.acc p2 = false from qb)
          clear qb
          have hKp : Keep [(⟨wi.heap.size, 0, none⟩, .int .i64 p1), (⟨wi.heap.size, 1, none⟩, .int .i64 p2), (⟨W.heap.size, 0, none⟩, .int .i64 A.lt), (⟨W.heap.size, 1, none⟩, .int .i64 A.st), (⟨W.heap.size, 2, none⟩, .slice x.A x.n x.c), (⟨W.heap.size, 3, none⟩, .slice x.B x.m x.d), (⟨W.heap.size + 1, 0, none⟩, .int .i64 B.lt), (⟨W.heap.size + 1, 1, none⟩, .int .i64 B.st), (⟨W.heap.size + 1, 2, none⟩, .slice y.A y.n y.c), (⟨W.heap.size + 1, 3, none⟩, .slice y.B y.m y.d)] wx := List.forall_mem_cons.2 ⟨⟨(V3.out.box_at (i := 0) (j := 0) rfl rfl).1, (V3.out.box_at (i := 0) (j := 0) rfl rfl).2.2⟩, List.forall_mem_cons.2 ⟨⟨(V3.out.box_at (i := 0) (j := 1) rfl rfl).1, (V3.out.box_at (i := 0) (j := 1) rfl rfl).2.2⟩, List.forall_mem_cons.2 ⟨⟨(V3.out.box_at (i := 5) (j := 0) rfl rfl).1, (V3.out.box_at (i := 5) (j := 0) rfl rfl).2.2⟩, List.forall_mem_cons.2 ⟨⟨(V3.out.box_at (i := 5) (j := 1) rfl rfl).1, (V3.out.box_at (i := 5) (j := 1) rfl rfl).2.2⟩, List.forall_mem_cons.2 ⟨⟨(V3.out.box_at (i := 5) (j := 2) rfl rfl).1, (V3.out.box_at (i := 5) (j := 2) rfl rfl).2.2⟩, List.forall_mem_cons.2 ⟨⟨(V3.out.box_at (i := 5) (j := 3) rfl rfl).1, (V3.out.box_at (i := 5) (j := 3) rfl rfl).2.2⟩, List.forall_mem_cons.2 ⟨⟨(V3.out.box_at (i := 4) (j := 0) rfl rfl).1, (V3.out.box_at (i := 4) (j := 0) rfl rfl).2.2⟩, List.forall_mem_cons.2 ⟨⟨(V3.out.box_at (i := 4) (j := 1) rfl rfl).1, (V3.out.box_at (i := 4) (j := 1) rfl rfl).2.2⟩, List.forall_mem_cons.2 ⟨⟨(V3.out.box_at (i := 4) (j := 2) rfl rfl).1, (V3.out.box_at (i := 4) (j := 2) rfl rfl).2.2⟩, List.forall_mem_cons.2 ⟨⟨(V3.out.box_at (i := 4) (j := 3) rfl rfl).1, (V3.out.box_at (i := 4) (j := 3) rfl rfl).2.2⟩, fun _ h => by simp at h⟩⟩⟩⟩⟩⟩⟩⟩⟩⟩
          refine wp_region_held_drew (S := Keep _) (by kernel_rfl) hKp.drew (fun hHeld => ?_)
          have V3d := Lib.hid (V3.out.go (bdrew _))
          refine tk 0 ?_ rfl ?_ ?_; rotate_left
          · intro wl hSw
            have hSw : Keep _ wl := hSw
            have k0 : wl.cell? ⟨W.heap.size, 0, none⟩ = some (.int .i64 A.lt) := (hSw _ (.tail _ (.tail _ (.head _)))).1
            have k1 : wl.cell? ⟨W.heap.size, 1, none⟩ = some (.int .i64 A.st) := (hSw _ (.tail _ (.tail _ (.tail _ (.head _))))).1
            have k2 : wl.cell? ⟨W.heap.size, 2, none⟩ = some (.slice x.A x.n x.c) := (hSw _ (.tail _ (.tail _ (.tail _ (.tail _ (.head _)))))).1
            have k3 : wl.cell? ⟨W.heap.size, 3, none⟩ = some (.slice x.B x.m x.d) := (hSw _ (.tail _ (.tail _ (.tail _ (.tail _ (.tail _ (.head _))))))).1
            clear hSw
            go_simp
            try (with_reducible rfl)
          try simp only [Act.put, sA, sZ, sS]
          refine tk 1 ?_ rfl ?_ ?_; rotate_left; focus (intro w hSw; clear hSw; go_simp; try (with_reducible rfl))
          try simp only [Act.put, sA, sZ, sS]
          refine tk 2 ?_ rfl ?_ ?_; rotate_left
          · intro wl hSw
            have hSw : Keep _ wl := hSw
            have k0 : wl.cell? ⟨wi.heap.size, 0, none⟩ = some (.int .i64 p1) := (hSw _ (.head _)).1
            clear hSw
            go_simp
            try (with_reducible rfl)
          try simp only [Act.put, sA, sZ, sS]
          refine tk 4 ?_ rfl ?_ ?_; rotate_left
          · intro wl hSw
            have hSw : Keep _ wl := hSw
            have k0 : wl.cell? ⟨W.heap.size + 1, 0, none⟩ = some (.int .i64 B.lt) := (hSw _ (.tail _ (.tail _ (.tail _ (.tail _ (.tail _ (.tail _ (.head _)))))))).1
            have k1 : wl.cell? ⟨W.heap.size + 1, 1, none⟩ = some (.int .i64 B.st) := (hSw _ (.tail _ (.tail _ (.tail _ (.tail _ (.tail _ (.tail _ (.tail _ (.head _))))))))).1
            have k2 : wl.cell? ⟨W.heap.size + 1, 2, none⟩ = some (.slice y.A y.n y.c) := (hSw _ (.tail _ (.tail _ (.tail _ (.tail _ (.tail _ (.tail _ (.tail _ (.tail _ (.head _)))))))))).1
            have k3 : wl.cell? ⟨W.heap.size + 1, 3, none⟩ = some (.slice y.B y.m y.d) := (hSw _ (.tail _ (.tail _ (.tail _ (.tail _ (.tail _ (.tail _ (.tail _ (.tail _ (.tail _ (.head _))))))))))).1
            clear hSw
            go_simp
            try (with_reducible rfl)
          try simp only [Act.put, sA, sZ, sS]
          refine tk 5 ?_ rfl ?_ ?_; rotate_left; focus (intro w hSw; clear hSw; go_simp; try (with_reducible rfl))
          try simp only [Act.put, sA, sZ, sS]
          refine tk 6 ?_ rfl ?_ ?_; rotate_left
          · intro wl hSw
            have hSw : Keep _ wl := hSw
            have k0 : wl.cell? ⟨wi.heap.size, 1, none⟩ = some (.int .i64 p2) := (hSw _ (.tail _ (.head _))).1
            clear hSw
            go_simp
            try (with_reducible rfl)
          try simp only [Act.put, sA, sZ, sS]
          refine wpAnyH_ready (rs := [3]) (by kernel_rfl) (by simp) ?_
          refine AllReadyH.cons (List.getElem?_toArray.trans rfl) (fun K hK => ?_) AllReadyH.nil
          go_simp
          refine ((HKA.out.good (HA.out.below V3d.out.below)).isAcc p1 HI.out.1.1 HI.out.1.2).mono ?_
          rintro e w_3 ⟨rfl, b_3⟩
          try go_wp2_with fail
          rw [QA.out]
          have V_3 := Lib.hid (V3d.out.go b_3)
          refine hK.out _ _ (hHeld.go b_3) (fun hHeld => ?_)
          clear hK K
          try simp only [Act.put, sA, sZ, sS]
          refine wpAnyH_ready (rs := [7]) (by kernel_rfl) (by simp) ?_
          refine AllReadyH.cons (List.getElem?_toArray.trans rfl) (fun K hK => ?_) AllReadyH.nil
          go_simp
          refine ((HKB.out.good (HB.out.below V_3.out.below)).isAcc p2 HI.out.2.1 HI.out.2.2).mono ?_
          rintro e w_3_7 ⟨rfl, b_3_7⟩
          try go_wp2_with fail
          rw [QB.out]
          have V_3_7 := Lib.hid (V_3.out.go b_3_7)
          refine hK.out _ _ (hHeld.go b_3_7) (fun hHeld => ?_)
          clear hK K
          try simp only [Act.put, sA, sZ, sS]
          refine tk 8 ?_ rfl ?_ ?_; rotate_left; focus (intro w hSw; clear hSw; go_simp; try (with_reducible rfl))
          try simp only [Act.put, sA, sZ, sS]
          refine wpAnyH_done (by kernel_rfl) ?_ _
          have H1b := Lib.hid (show ∀ (i : Nat) p, i < j + 1 → ps[i]? = some p → A.acc p.1 = B.acc p.2 from fun i p hi hp => by
            by_cases e : i = j
            · subst e; rw [HP.out] at hp; injection hp with hp; subst hp; exact QA.out.trans QB.out.symm
            · exact H1.out i p (by omega) hp)
          have V5 := Lib.hid V_3_7.out.tail
          go_wp2_with fail
          go_roundw
          case rel => exact ⟨j + 1, by go_num, by omega, H1b.out, V5.out⟩
          case measure => simp [intOf]; omega
        · have QB := Lib.hid (show B.acc p2 = true from qb)
          clear qb
          have hKp : Keep [(⟨wi.heap.size, 0, none⟩, .int .i64 p1), (⟨wi.heap.size, 1, none⟩, .int .i64 p2), (⟨W.heap.size, 0, none⟩, .int .i64 A.lt), (⟨W.heap.size, 1, none⟩, .int .i64 A.st), (⟨W.heap.size, 2, none⟩, .slice x.A x.n x.c), (⟨W.heap.size, 3, none⟩, .slice x.B x.m x.d), (⟨W.heap.size + 1, 0, none⟩, .int .i64 B.lt), (⟨W.heap.size + 1, 1, none⟩, .int .i64 B.st), (⟨W.heap.size + 1, 2, none⟩, .slice y.A y.n y.c), (⟨W.heap.size + 1, 3, none⟩, .slice y.B y.m y.d)] wx := List.forall_mem_cons.2 ⟨⟨(V3.out.box_at (i := 0) (j := 0) rfl rfl).1, (V3.out.box_at (i := 0) (j := 0) rfl rfl).2.2⟩, List.forall_mem_cons.2 ⟨⟨(V3.out.box_at (i := 0) (j := 1) rfl rfl).1, (V3.out.box_at (i := 0) (j := 1) rfl rfl).2.2⟩, List.forall_mem_cons.2 ⟨⟨(V3.out.box_at (i := 5) (j := 0) rfl rfl).1, (V3.out.box_at (i := 5) (j := 0) rfl rfl).2.2⟩, List.forall_mem_cons.2 ⟨⟨(V3.out.box_at (i := 5) (j := 1) rfl rfl).1, (V3.out.box_at (i := 5) (j := 1) rfl rfl).2.2⟩, List.forall_mem_cons.2 ⟨⟨(V3.out.box_at (i := 5) (j := 2) rfl rfl).1, (V3.out.box_at (i := 5) (j := 2) rfl rfl).2.2⟩, List.forall_mem_cons.2 ⟨⟨(V3.out.box_at (i := 5) (j := 3) rfl rfl).1, (V3.out.box_at (i := 5) (j := 3) rfl rfl).2.2⟩, List.forall_mem_cons.2 ⟨⟨(V3.out.box_at (i := 4) (j := 0) rfl rfl).1, (V3.out.box_at (i := 4) (j := 0) rfl rfl).2.2⟩, List.forall_mem_cons.2 ⟨⟨(V3.out.box_at (i := 4) (j := 1) rfl rfl).1, (V3.out.box_at (i := 4) (j := 1) rfl rfl).2.2⟩, List.forall_mem_cons.2 ⟨⟨(V3.out.box_at (i := 4) (j := 2) rfl rfl).1, (V3.out.box_at (i := 4) (j := 2) rfl rfl).2.2⟩, List.forall_mem_cons.2 ⟨⟨(V3.out.box_at (i := 4) (j := 3) rfl rfl).1, (V3.out.box_at (i := 4) (j := 3) rfl rfl).2.2⟩, fun _ h => by simp at h⟩⟩⟩⟩⟩⟩⟩⟩⟩⟩
          refine wp_region_held_drew (S := Keep _) (by kernel_rfl) hKp.drew (fun hHeld => ?_)
          have V3d := Lib.hid (V3.out.go (bdrew _))
          refine tk 0 ?_ rfl ?_ ?_; rotate_left
          · intro wl hSw
            have hSw : Keep _ wl := hSw
            have k0 : wl.cell? ⟨W.heap.size, 0, none⟩ = some (.int .i64 A.lt) := (hSw _ (.tail _ (.tail _ (.head _)))).1
            have k1 : wl.cell? ⟨W.heap.size, 1, none⟩ = some (.int .i64 A.st) := (hSw _ (.tail _ (.tail _ (.tail _ (.head _))))).1
            have k2 : wl.cell? ⟨W.heap.size, 2, none⟩ = some (.slice x.A x.n x.c) := (hSw _ (.tail _ (.tail _ (.tail _ (.tail _ (.head _)))))).1
            have k3 : wl.cell? ⟨W.heap.size, 3, none⟩ = some (.slice x.B x.m x.d) := (hSw _ (.tail _ (.tail _ (.tail _ (.tail _ (.tail _ (.head _))))))).1
            clear hSw
            go_simp
            try (with_reducible rfl)
          try simp only [Act.put, sA, sZ, sS]
          refine tk 1 ?_ rfl ?_ ?_; rotate_left; focus (intro w hSw; clear hSw; go_simp; try (with_reducible rfl))
          try simp only [Act.put, sA, sZ, sS]
          refine tk 2 ?_ rfl ?_ ?_; rotate_left
          · intro wl hSw
            have hSw : Keep _ wl := hSw
            have k0 : wl.cell? ⟨wi.heap.size, 0, none⟩ = some (.int .i64 p1) := (hSw _ (.head _)).1
            clear hSw
            go_simp
            try (with_reducible rfl)
          try simp only [Act.put, sA, sZ, sS]
          refine tk 4 ?_ rfl ?_ ?_; rotate_left
          · intro wl hSw
            have hSw : Keep _ wl := hSw
            have k0 : wl.cell? ⟨W.heap.size + 1, 0, none⟩ = some (.int .i64 B.lt) := (hSw _ (.tail _ (.tail _ (.tail _ (.tail _ (.tail _ (.tail _ (.head _)))))))).1
            have k1 : wl.cell? ⟨W.heap.size + 1, 1, none⟩ = some (.int .i64 B.st) := (hSw _ (.tail _ (.tail _ (.tail _ (.tail _ (.tail _ (.tail _ (.tail _ (.head _))))))))).1
            have k2 : wl.cell? ⟨W.heap.size + 1, 2, none⟩ = some (.slice y.A y.n y.c) := (hSw _ (.tail _ (.tail _ (.tail _ (.tail _ (.tail _ (.tail _ (.tail _ (.tail _ (.head _)))))))))).1
            have k3 : wl.cell? ⟨W.heap.size + 1, 3, none⟩ = some (.slice y.B y.m y.d) := (hSw _ (.tail _ (.tail _ (.tail _ (.tail _ (.tail _ (.tail _ (.tail _ (.tail _ (.tail _ (.head _))))))))))).1
            clear hSw
            go_simp
            try (with_reducible rfl)
          try simp only [Act.put, sA, sZ, sS]
          refine tk 5 ?_ rfl ?_ ?_; rotate_left; focus (intro w hSw; clear hSw; go_simp; try (with_reducible rfl))
          try simp only [Act.put, sA, sZ, sS]
          refine tk 6 ?_ rfl ?_ ?_; rotate_left
          · intro wl hSw
            have hSw : Keep _ wl := hSw
            have k0 : wl.cell? ⟨wi.heap.size, 1, none⟩ = some (.int .i64 p2) := (hSw _ (.tail _ (.head _))).1
            clear hSw
            go_simp
            try (with_reducible rfl)
          try simp only [Act.put, sA, sZ, sS]
          refine wpAnyH_ready (rs := [3]) (by kernel_rfl) (by simp) ?_
          refine AllReadyH.cons (List.getElem?_toArray.trans rfl) (fun K hK => ?_) AllReadyH.nil
          go_simp
          refine ((HKA.out.good (HA.out.below V3d.out.below)).isAcc p1 HI.out.1.1 HI.out.1.2).mono ?_
          rintro e w_3 ⟨rfl, b_3⟩
          try go_wp2_with fail
          rw [QA.out]
          have V_3 := Lib.hid (V3d.out.go b_3)
          refine hK.out _ _ (hHeld.go b_3) (fun hHeld => ?_)
          clear hK K
          try simp only [Act.put, sA, sZ, sS]
          refine wpAnyH_ready (rs := [7]) (by kernel_rfl) (by simp) ?_
          refine AllReadyH.cons (List.getElem?_toArray.trans rfl) (fun K hK => ?_) AllReadyH.nil
          go_simp
          refine ((HKB.out.good (HB.out.below V_3.out.below)).isAcc p2 HI.out.2.1 HI.out.2.2).mono ?_
          rintro e w_3_7 ⟨rfl, b_3_7⟩
          try go_wp2_with fail
          rw [QB.out]
          have V_3_7 := Lib.hid (V_3.out.go b_3_7)
          refine hK.out _ _ (hHeld.go b_3_7) (fun hHeld => ?_)
          clear hK K
          try simp only [Act.put, sA, sZ, sS]
          refine tk 8 ?_ rfl ?_ ?_; rotate_left; focus (intro w hSw; clear hSw; go_simp; try (with_reducible rfl))
          try simp only [Act.put, sA, sZ, sS]
          refine wpAnyH_done (by kernel_rfl) ?_ _
          have HQ := Lib.hid (show RelPost A B W (.returned (.tuple #[.slice none 0 0, .int .i64 12])) w_3_7 from ⟨V_3_7.out.below, .inr ⟨k, HKA.out, HKB.out, .inl ⟨HR.out.differ hk0 HP.out (by rw [QA.out, QB.out]; decide), rfl⟩⟩⟩)
          go_wp2_with fail
          go_ret2
          exact HQ.out
      · have QA := Lib.hid (show A.acc p1 = true from qa)
        clear qa
        rcases (Bool.eq_false_or_eq_true (B.acc p2)).symm with qb | qb
        · have QB := Lib.hid (show B.acc p2 = false from qb)
          clear qb
          have hKp : Keep [(⟨wi.heap.size, 0, none⟩, .int .i64 p1), (⟨wi.heap.size, 1, none⟩, .int .i64 p2), (⟨W.heap.size, 0, none⟩, .int .i64 A.lt), (⟨W.heap.size, 1, none⟩, .int .i64 A.st), (⟨W.heap.size, 2, none⟩, .slice x.A x.n x.c), (⟨W.heap.size, 3, none⟩, .slice x.B x.m x.d), (⟨W.heap.size + 1, 0, none⟩, .int .i64 B.lt), (⟨W.heap.size + 1, 1, none⟩, .int .i64 B.st), (⟨W.heap.size + 1, 2, none⟩, .slice y.A y.n y.c), (⟨W.heap.size + 1, 3, none⟩, .slice y.B y.m y.d)] wx := List.forall_mem_cons.2 ⟨⟨(V3.out.box_at (i := 0) (j := 0) rfl rfl).1, (V3.out.box_at (i := 0) (j := 0) rfl rfl).2.2⟩, List.forall_mem_cons.2 ⟨⟨(V3.out.box_at (i := 0) (j := 1) rfl rfl).1, (V3.out.box_at (i := 0) (j := 1) rfl rfl).2.2⟩, List.forall_mem_cons.2 ⟨⟨(V3.out.box_at (i := 5) (j := 0) rfl rfl).1, (V3.out.box_at (i := 5) (j := 0) rfl rfl).2.2⟩, List.forall_mem_cons.2 ⟨⟨(V3.out.box_at (i := 5) (j := 1) rfl rfl).1, (V3.out.box_at (i := 5) (j := 1) rfl rfl).2.2⟩, List.forall_mem_cons.2 ⟨⟨(V3.out.box_at (i := 5) (j := 2) rfl rfl).1, (V3.out.box_at (i := 5) (j := 2) rfl rfl).2.2⟩, List.forall_mem_cons.2 ⟨⟨(V3.out.box_at (i := 5) (j := 3) rfl rfl).1, (V3.out.box_at (i := 5) (j := 3) rfl rfl).2.2⟩, List.forall_mem_cons.2 ⟨⟨(V3.out.box_at (i := 4) (j := 0) rfl rfl).1, (V3.out.box_at (i := 4) (j := 0) rfl rfl).2.2⟩, List.forall_mem_cons.2 ⟨⟨(V3.out.box_at (i := 4) (j := 1) rfl rfl).1, (V3.out.box_at (i := 4) (j := 1) rfl rfl).2.2⟩, List.forall_mem_cons.2 ⟨⟨(V3.out.box_at (i := 4) (j := 2) rfl rfl).1, (V3.out.box_at (i := 4) (j := 2) rfl rfl).2.2⟩, List.forall_mem_cons.2 ⟨⟨(V3.out.box_at (i := 4) (j := 3) rfl rfl).1, (V3.out.box_at (i := 4) (j := 3) rfl rfl).2.2⟩, fun _ h => by simp at h⟩⟩⟩⟩⟩⟩⟩⟩⟩⟩
          refine wp_region_held_drew (S := Keep _) (by kernel_rfl) hKp.drew (fun hHeld => ?_)
          have V3d := Lib.hid (V3.out.go (bdrew _))
          refine tk 0 ?_ rfl ?_ ?_; rotate_left
          · intro wl hSw
            have hSw : Keep _ wl := hSw
            have k0 : wl.cell? ⟨W.heap.size, 0, none⟩ = some (.int .i64 A.lt) := (hSw _ (.tail _ (.tail _ (.head _)))).1
            have k1 : wl.cell? ⟨W.heap.size, 1, none⟩ = some (.int .i64 A.st) := (hSw _ (.tail _ (.tail _ (.tail _ (.head _))))).1
            have k2 : wl.cell? ⟨W.heap.size, 2, none⟩ = some (.slice x.A x.n x.c) := (hSw _ (.tail _ (.tail _ (.tail _ (.tail _ (.head _)))))).1
            have k3 : wl.cell? ⟨W.heap.size, 3, none⟩ = some (.slice x.B x.m x.d) := (hSw _ (.tail _ (.tail _ (.tail _ (.tail _ (.tail _ (.head _))))))).1
            clear hSw
            go_simp
            try (with_reducible rfl)
          try simp only [Act.put, sA, sZ, sS]
          refine tk 1 ?_ rfl ?_ ?_; rotate_left; focus (intro w hSw; clear hSw; go_simp; try (with_reducible rfl))
          try simp only [Act.put, sA, sZ, sS]
          refine tk 2 ?_ rfl ?_ ?_; rotate_left
          · intro wl hSw
            have hSw : Keep _ wl := hSw
            have k0 : wl.cell? ⟨wi.heap.size, 0, none⟩ = some (.int .i64 p1) := (hSw _ (.head _)).1
            clear hSw
            go_simp
            try (with_reducible rfl)
          try simp only [Act.put, sA, sZ, sS]
          refine tk 4 ?_ rfl ?_ ?_; rotate_left
          · intro wl hSw
            have hSw : Keep _ wl := hSw
            have k0 : wl.cell? ⟨W.heap.size + 1, 0, none⟩ = some (.int .i64 B.lt) := (hSw _ (.tail _ (.tail _ (.tail _ (.tail _ (.tail _ (.tail _ (.head _)))))))).1
            have k1 : wl.cell? ⟨W.heap.size + 1, 1, none⟩ = some (.int .i64 B.st) := (hSw _ (.tail _ (.tail _ (.tail _ (.tail _ (.tail _ (.tail _ (.tail _ (.head _))))))))).1
            have k2 : wl.cell? ⟨W.heap.size + 1, 2, none⟩ = some (.slice y.A y.n y.c) := (hSw _ (.tail _ (.tail _ (.tail _ (.tail _ (.tail _ (.tail _ (.tail _ (.tail _ (.head _)))))))))).1
            have k3 : wl.cell? ⟨W.heap.size + 1, 3, none⟩ = some (.slice y.B y.m y.d) := (hSw _ (.tail _ (.tail _ (.tail _ (.tail _ (.tail _ (.tail _ (.tail _ (.tail _ (.tail _ (.head _))))))))))).1
            clear hSw
            go_simp
            try (with_reducible rfl)
          try simp only [Act.put, sA, sZ, sS]
          refine tk 5 ?_ rfl ?_ ?_; rotate_left; focus (intro w hSw; clear hSw; go_simp; try (with_reducible rfl))
          try simp only [Act.put, sA, sZ, sS]
          refine tk 6 ?_ rfl ?_ ?_; rotate_left
          · intro wl hSw
            have hSw : Keep _ wl := hSw
            have k0 : wl.cell? ⟨wi.heap.size, 1, none⟩ = some (.int .i64 p2) := (hSw _ (.tail _ (.head _))).1
            clear hSw
            go_simp
            try (with_reducible rfl)
          try simp only [Act.put, sA, sZ, sS]
          refine wpAnyH_ready (rs := [3]) (by kernel_rfl) (by simp) ?_
          refine AllReadyH.cons (List.getElem?_toArray.trans rfl) (fun K hK => ?_) AllReadyH.nil
          go_simp
          refine ((HKA.out.good (HA.out.below V3d.out.below)).isAcc p1 HI.out.1.1 HI.out.1.2).mono ?_
          rintro e w_3 ⟨rfl, b_3⟩
          try go_wp2_with fail
          rw [QA.out]
          have V_3 := Lib.hid (V3d.out.go b_3)
          refine hK.out _ _ (hHeld.go b_3) (fun hHeld => ?_)
          clear hK K
          try simp only [Act.put, sA, sZ, sS]
          refine wpAnyH_ready (rs := [7]) (by kernel_rfl) (by simp) ?_
          refine AllReadyH.cons (List.getElem?_toArray.trans rfl) (fun K hK => ?_) AllReadyH.nil
          go_simp
          refine ((HKB.out.good (HB.out.below V_3.out.below)).isAcc p2 HI.out.2.1 HI.out.2.2).mono ?_
          rintro e w_3_7 ⟨rfl, b_3_7⟩
          try go_wp2_with fail
          rw [QB.out]
          have V_3_7 := Lib.hid (V_3.out.go b_3_7)
          refine hK.out _ _ (hHeld.go b_3_7) (fun hHeld => ?_)
          clear hK K
          try simp only [Act.put, sA, sZ, sS]
          refine tk 8 ?_ rfl ?_ ?_; rotate_left; focus (intro w hSw; clear hSw; go_simp; try (with_reducible rfl))
          try simp only [Act.put, sA, sZ, sS]
          refine wpAnyH_done (by kernel_rfl) ?_ _
          have HQ := Lib.hid (show RelPost A B W (.returned (.tuple #[.slice none 0 0, .int .i64 12])) w_3_7 from ⟨V_3_7.out.below, .inr ⟨k, HKA.out, HKB.out, .inl ⟨HR.out.differ hk0 HP.out (by rw [QA.out, QB.out]; decide), rfl⟩⟩⟩)
          go_wp2_with fail
          go_ret2
          exact HQ.out
        · have QB := Lib.hid (show B.acc p2 = true from qb)
          clear qb
          have hKp : Keep [(⟨wi.heap.size, 0, none⟩, .int .i64 p1), (⟨wi.heap.size, 1, none⟩, .int .i64 p2), (⟨W.heap.size, 0, none⟩, .int .i64 A.lt), (⟨W.heap.size, 1, none⟩, .int .i64 A.st), (⟨W.heap.size, 2, none⟩, .slice x.A x.n x.c), (⟨W.heap.size, 3, none⟩, .slice x.B x.m x.d), (⟨W.heap.size + 1, 0, none⟩, .int .i64 B.lt), (⟨W.heap.size + 1, 1, none⟩, .int .i64 B.st), (⟨W.heap.size + 1, 2, none⟩, .slice y.A y.n y.c), (⟨W.heap.size + 1, 3, none⟩, .slice y.B y.m y.d)] wx := List.forall_mem_cons.2 ⟨⟨(V3.out.box_at (i := 0) (j := 0) rfl rfl).1, (V3.out.box_at (i := 0) (j := 0) rfl rfl).2.2⟩, List.forall_mem_cons.2 ⟨⟨(V3.out.box_at (i := 0) (j := 1) rfl rfl).1, (V3.out.box_at (i := 0) (j := 1) rfl rfl).2.2⟩, List.forall_mem_cons.2 ⟨⟨(V3.out.box_at (i := 5) (j := 0) rfl rfl).1, (V3.out.box_at (i := 5) (j := 0) rfl rfl).2.2⟩, List.forall_mem_cons.2 ⟨⟨(V3.out.box_at (i := 5) (j := 1) rfl rfl).1, (V3.out.box_at (i := 5) (j := 1) rfl rfl).2.2⟩, List.forall_mem_cons.2 ⟨⟨(V3.out.box_at (i := 5) (j := 2) rfl rfl).1, (V3.out.box_at (i := 5) (j := 2) rfl rfl).2.2⟩, List.forall_mem_cons.2 ⟨⟨(V3.out.box_at (i := 5) (j := 3) rfl rfl).1, (V3.out.box_at (i := 5) (j := 3) rfl rfl).2.2⟩, List.forall_mem_cons.2 ⟨⟨(V3.out.box_at (i := 4) (j := 0) rfl rfl).1, (V3.out.box_at (i := 4) (j := 0) rfl rfl).2.2⟩, List.forall_mem_cons.2 ⟨⟨(V3.out.box_at (i := 4) (j := 1) rfl rfl).1, (V3.out.box_at (i := 4) (j := 1) rfl rfl).2.2⟩, List.forall_mem_cons.2 ⟨⟨(V3.out.box_at (i := 4) (j := 2) rfl rfl).1, (V3.out.box_at (i := 4) (j := 2) rfl rfl).2.2⟩, List.forall_mem_cons.2 ⟨⟨(V3.out.box_at (i := 4) (j := 3) rfl rfl).1, (V3.out.box_at (i := 4) (j := 3) rfl rfl).2.2⟩, fun _ h => by simp at h⟩⟩⟩⟩⟩⟩⟩⟩⟩⟩
          refine wp_region_held_drew (S := Keep _) (by kernel_rfl) hKp.drew (fun hHeld => ?_)
          have V3d := Lib.hid (V3.out.go (bdrew _))
          refine tk 0 ?_ rfl ?_ ?_; rotate_left
          · intro wl hSw
            have hSw : Keep _ wl := hSw
            have k0 : wl.cell? ⟨W.heap.size, 0, none⟩ = some (.int .i64 A.lt) := (hSw _ (.tail _ (.tail _ (.head _)))).1
            have k1 : wl.cell? ⟨W.heap.size, 1, none⟩ = some (.int .i64 A.st) := (hSw _ (.tail _ (.tail _ (.tail _ (.head _))))).1
            have k2 : wl.cell? ⟨W.heap.size, 2, none⟩ = some (.slice x.A x.n x.c) := (hSw _ (.tail _ (.tail _ (.tail _ (.tail _ (.head _)))))).1
            have k3 : wl.cell? ⟨W.heap.size, 3, none⟩ = some (.slice x.B x.m x.d) := (hSw _ (.tail _ (.tail _ (.tail _ (.tail _ (.tail _ (.head _))))))).1
            clear hSw
            go_simp
            try (with_reducible rfl)
          try simp only [Act.put, sA, sZ, sS]
          refine tk 1 ?_ rfl ?_ ?_; rotate_left; focus (intro w hSw; clear hSw; go_simp; try (with_reducible rfl))
          try simp only [Act.put, sA, sZ, sS]
          refine tk 2 ?_ rfl ?_ ?_; rotate_left
          · intro wl hSw
            have hSw : Keep _ wl := hSw
            have k0 : wl.cell? ⟨wi.heap.size, 0, none⟩ = some (.int .i64 p1) := (hSw _ (.head _)).1
            clear hSw
            go_simp
            try (with_reducible rfl)
          try simp only [Act.put, sA, sZ, sS]
          refine tk 4 ?_ rfl ?_ ?_; rotate_left
          · intro wl hSw
            have hSw : Keep _ wl := hSw
            have k0 : wl.cell? ⟨W.heap.size + 1, 0, none⟩ = some (.int .i64 B.lt) := (hSw _ (.tail _ (.tail _ (.tail _ (.tail _ (.tail _ (.tail _ (.head _)))))))).1
            have k1 : wl.cell? ⟨W.heap.size + 1, 1, none⟩ = some (.int .i64 B.st) := (hSw _ (.tail _ (.tail _ (.tail _ (.tail _ (.tail _ (.tail _ (.tail _ (.head _))))))))).1
            have k2 : wl.cell? ⟨W.heap.size + 1, 2, none⟩ = some (.slice y.A y.n y.c) := (hSw _ (.tail _ (.tail _ (.tail _ (.tail _ (.tail _ (.tail _ (.tail _ (.tail _ (.head _)))))))))).1
            have k3 : wl.cell? ⟨W.heap.size + 1, 3, none⟩ = some (.slice y.B y.m y.d) := (hSw _ (.tail _ (.tail _ (.tail _ (.tail _ (.tail _ (.tail _ (.tail _ (.tail _ (.tail _ (.head _))))))))))).1
            clear hSw
            go_simp
            try (with_reducible rfl)
          try simp only [Act.put, sA, sZ, sS]
          refine tk 5 ?_ rfl ?_ ?_; rotate_left; focus (intro w hSw; clear hSw; go_simp; try (with_reducible rfl))
          try simp only [Act.put, sA, sZ, sS]
          refine tk 6 ?_ rfl ?_ ?_; rotate_left
          · intro wl hSw
            have hSw : Keep _ wl := hSw
            have k0 : wl.cell? ⟨wi.heap.size, 1, none⟩ = some (.int .i64 p2) := (hSw _ (.tail _ (.head _))).1
            clear hSw
            go_simp
            try (with_reducible rfl)
          try simp only [Act.put, sA, sZ, sS]
          refine wpAnyH_ready (rs := [3]) (by kernel_rfl) (by simp) ?_
          refine AllReadyH.cons (List.getElem?_toArray.trans rfl) (fun K hK => ?_) AllReadyH.nil
          go_simp
          refine ((HKA.out.good (HA.out.below V3d.out.below)).isAcc p1 HI.out.1.1 HI.out.1.2).mono ?_
          rintro e w_3 ⟨rfl, b_3⟩
          try go_wp2_with fail
          rw [QA.out]
          have V_3 := Lib.hid (V3d.out.go b_3)
          refine hK.out _ _ (hHeld.go b_3) (fun hHeld => ?_)
          clear hK K
          try simp only [Act.put, sA, sZ, sS]
          refine wpAnyH_ready (rs := [7]) (by kernel_rfl) (by simp) ?_
          refine AllReadyH.cons (List.getElem?_toArray.trans rfl) (fun K hK => ?_) AllReadyH.nil
          go_simp
          refine ((HKB.out.good (HB.out.below V_3.out.below)).isAcc p2 HI.out.2.1 HI.out.2.2).mono ?_
          rintro e w_3_7 ⟨rfl, b_3_7⟩
          try go_wp2_with fail
          rw [QB.out]
          have V_3_7 := Lib.hid (V_3.out.go b_3_7)
          refine hK.out _ _ (hHeld.go b_3_7) (fun hHeld => ?_)
          clear hK K
          try simp only [Act.put, sA, sZ, sS]
          refine tk 8 ?_ rfl ?_ ?_; rotate_left; focus (intro w hSw; clear hSw; go_simp; try (with_reducible rfl))
          try simp only [Act.put, sA, sZ, sS]
          refine wpAnyH_done (by kernel_rfl) ?_ _
          have H1b := Lib.hid (show ∀ (i : Nat) p, i < j + 1 → ps[i]? = some p → A.acc p.1 = B.acc p.2 from fun i p hi hp => by
            by_cases e : i = j
            · subst e; rw [HP.out] at hp; injection hp with hp; subst hp; exact QA.out.trans QB.out.symm
            · exact H1.out i p (by omega) hp)
          have V5 := Lib.hid V_3_7.out.tail
          go_wp2_with fail
          go_roundw
          case rel => exact ⟨j + 1, by go_num, by omega, H1b.out, V5.out⟩
          case measure => simp [intOf]; omega
    · have hjn2 : j = np := by omega
      subst hjn2
      have HS := Lib.hid (show SameL A B k from HR.out.same hk0 (fun i p hp => H1.out i p (by have := (List.getElem?_eq_some_iff.1 hp).1; have := HPL.out; omega) hp))
      go_wp2_with fail
      refine (sort_any V.out (i := 0) rfl hnb HR.out.nd).mono ?_
      rintro e w4 ⟨rfl, qs, hq1, hq2, hv4⟩
      have HQ := Lib.hid (show RelPost A B W (.returned (.tuple #[.slice Ap j cp, .int .i64 0])) w4 from ⟨hv4.below, .inr ⟨k, HKA.out, HKB.out, .inr ⟨HS.out, qs, Ap, j, cp, rfl, ⟨hq1, fun p => (hq2 p).trans (HR.out.mem hk0 p)⟩, hv4.pick [0] (by simp) rfl⟩⟩⟩)
      clear hq1 hq2 hv4
      go_wp2_with fail
      go_ret2
      exact HQ.out
end Go.Proofs.Ytdkdfmflghbhiaa
