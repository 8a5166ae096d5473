/- Contracts of the second implementation: the first word that just one automaton accepts, the first word that is accepted. -/
import Derived.Test.YtbfedfiemkhefaaRB
import Derived.Test.YtbfedfiemkhefaaRm
import Derived.Test.YtbfedfiemkhefaaQr
namespace Go.Proofs.Ytbfedfiemkhefaa
open Go.RowKit
set_option linter.unusedVariables false
set_option linter.unusedSimpArgs false
set_option maxRecDepth 100000

theorem Bfs.wdlen {α : Type} {sc : α → Nat → α} {sk : α → Prop} {k : Nat} {s : α} {l : List α} {pa : List Nat} {P : Nat} (h : Bfs sc sk k s l pa P) {i : Nat} {v : List Nat} (hw : Wd k pa i v) : v.length ≤ i := by
  induction hw with
  | zero => exact Nat.le_refl _
  | step j p u h0 hp _ ih =>
    have hj := (List.getElem?_eq_some_iff.1 hp).1
    have := (h.par j _ p h0 (List.getElem?_eq_getElem (by rw [← h.len]; exact hj)) hp).1
    rw [List.length_append]
    simp
    omega
theorem walk_none {A B : Au} {k : Nat} {l : List (Int × Int)} {pa : List Nat} (h : Bfs (sc2 A B) (fun _ => False) k (A.st, B.st) l pa (l.length * k)) (hk : 0 < k) (hno : ∀ (j : Nat) p, l[j]? = some p → A.acc p.1 = B.acc p.2) : Fw k (fun u => A.lang u != B.lang u) none := by
  refine .no fun u hu => ?_
  obtain ⟨j, v, hj, _, _⟩ := h.least hk (Nat.le_refl _) (fun _ _ _ hy => hy) u hu (fun h => h)
  rw [fold2] at hj
  have e : A.lang u = B.lang u := hno j _ hj
  show (A.lang u != B.lang u) = false
  rw [e]; simp
theorem walk_some {A B : Au} {k : Nat} {l : List (Int × Int)} {pa : List Nat} (h : Bfs (sc2 A B) (fun _ => False) k (A.st, B.st) l pa (l.length * k)) (hk : 0 < k) {i : Nat} {p : Int × Int} {v : List Nat} (hx : l[i]? = some p) (hne : ¬ A.acc p.1 = B.acc p.2) (hmin : ∀ (j : Nat) q, j < i → l[j]? = some q → A.acc q.1 = B.acc q.2) (hv : Wd k pa i v) : Fw k (fun u => A.lang u != B.lang u) (some v) := by
  refine .yes v ?_
  have := h.first_word hk (Nat.le_refl _) (fun _ _ _ hy => hy) (want := fun p => A.acc p.1 ≠ B.acc p.2) (fun _ _ h => h) hx hne (fun j y hj hy e => e (hmin j y hj hy)) hv
  refine this.congr fun u hu => ?_
  rw [fold2]
  show (A.lang u ≠ B.lang u) ↔ (A.lang u != B.lang u) = true
  rw [bne_iff_ne]
set_option maxHeartbeats 16000000 in
theorem rdifference_any (x y : DV) (A B : Au) (W : World) (hA : DfaIn W x A) (hB : DfaIn W y B) :
    Calls Try.prog 20 #[dval x A, dval y B] W (DiffPost A B W) := by
  have HA := Lib.hid hA
  have HB := Lib.hid hB
  clear hA hB
  obtain ⟨wz, hwz⟩ : ∃ z, z = ((W.alloc (.cells #[.int .i64 A.lt, .int .i64 A.st, .slice x.A x.n x.c, .slice x.B x.m x.d] 25)).alloc (.cells #[.int .i64 B.lt, .int .i64 B.st, .slice y.A y.n y.c, .slice y.B y.m y.d] 25)) := ⟨_, rfl⟩
  have V := Lib.hid (show Hp W [box 25 (W.heap.size + 1) [.int .i64 B.lt, .int .i64 B.st, .slice y.A y.n y.c, .slice y.B y.m y.d], box 25 W.heap.size [.int .i64 A.lt, .int .i64 A.st, .slice x.A x.n x.c, .slice x.B x.m x.d]] wz by
    have := (((Hp.start W).box_new 25 [.int .i64 A.lt, .int .i64 A.st, .slice x.A x.n x.c, .slice x.B x.m x.d]).box_new 25 [.int .i64 B.lt, .int .i64 B.st, .slice y.A y.n y.c, .slice y.B y.m y.d])
    rw [hwz]; simpa using this)
  have HZ := Lib.hid hwz
  clear hwz
  by_cases hp : Au.pE A B = 0
  case neg =>
    have hp1 : Au.pE A B = 1 := by rcases Au.pE_cases A B with e | e; exact absurd e hp; exact e
    have HE := Lib.hid hp1
    clear hp1 hp
    go_enter Try.func20, Try.ntmps20
    go_upto_region 1 with fail
    rw [← HZ.out]
    clear HZ
    obtain ⟨r0_0, _, r0_9⟩ := V.out.box_at (i := 0) (j := 0) rfl rfl
    obtain ⟨r0_1, _, _⟩ := V.out.box_at (i := 0) (j := 1) rfl rfl
    obtain ⟨r0_2, _, _⟩ := V.out.box_at (i := 0) (j := 2) rfl rfl
    obtain ⟨r0_3, _, _⟩ := V.out.box_at (i := 0) (j := 3) rfl rfl
    obtain ⟨r1_0, _, r1_9⟩ := V.out.box_at (i := 1) (j := 0) rfl rfl
    obtain ⟨r1_1, _, _⟩ := V.out.box_at (i := 1) (j := 1) rfl rfl
    obtain ⟨r1_2, _, _⟩ := V.out.box_at (i := 1) (j := 2) rfl rfl
    obtain ⟨r1_3, _, _⟩ := V.out.box_at (i := 1) (j := 3) rfl rfl
    go_wp2_with fail
    refine (rboth_any x y A B wz (HA.out.below V.out.below) (HB.out.below V.out.below)).mono ?_
    rintro e w1 ⟨rfl, b1⟩
    have V1 := Lib.hid (V.out.go b1)
    rw [HE.out]
    clear b1 V r0_9 r0_0 r0_1 r0_2 r0_3 r1_9 r1_0 r1_1 r1_2 r1_3
    have HP := Lib.hid (show DiffPost A B W (.returned (.tuple #[.slice none 0 0, .int .i64 1])) w1 from ⟨V1.out.below, .inl ⟨HE.out, rfl⟩⟩)
    go_wp2_with fail
    go_ret2
    exact HP.out
  have HE := Lib.hid hp
  obtain ⟨k, hka, hkb⟩ := Au.pE_ok hp
  have HKA := Lib.hid hka
  have HKB := Lib.hid hkb
  have hk0 := hka.right.pos
  have hk8 := hka.k8
  clear hp hka hkb
  go_enter Try.func20, Try.ntmps20
  go_upto_region 1 with fail
  rw [← HZ.out]
  clear HZ
  obtain ⟨r0_0, _, r0_9⟩ := V.out.box_at (i := 0) (j := 0) rfl rfl
  obtain ⟨r0_1, _, _⟩ := V.out.box_at (i := 0) (j := 1) rfl rfl
  obtain ⟨r0_2, _, _⟩ := V.out.box_at (i := 0) (j := 2) rfl rfl
  obtain ⟨r0_3, _, _⟩ := V.out.box_at (i := 0) (j := 3) rfl rfl
  obtain ⟨r1_0, _, r1_9⟩ := V.out.box_at (i := 1) (j := 0) rfl rfl
  obtain ⟨r1_1, _, _⟩ := V.out.box_at (i := 1) (j := 1) rfl rfl
  obtain ⟨r1_2, _, _⟩ := V.out.box_at (i := 1) (j := 2) rfl rfl
  obtain ⟨r1_3, _, _⟩ := V.out.box_at (i := 1) (j := 3) rfl rfl
  go_wp2_with fail
  refine (rboth_any x y A B wz (HA.out.below V.out.below) (HB.out.below V.out.below)).mono ?_
  rintro e w1 ⟨rfl, b1⟩
  have V1 := Lib.hid (V.out.go b1)
  rw [HE.out]
  clear b1 V r0_9 r0_0 r0_1 r0_2 r0_3 r1_9 r1_0 r1_1 r1_2 r1_3
  obtain ⟨r0_0, _, r0_9⟩ := V1.out.box_at (i := 0) (j := 0) rfl rfl
  obtain ⟨r0_1, _, _⟩ := V1.out.box_at (i := 0) (j := 1) rfl rfl
  obtain ⟨r0_2, _, _⟩ := V1.out.box_at (i := 0) (j := 2) rfl rfl
  obtain ⟨r0_3, _, _⟩ := V1.out.box_at (i := 0) (j := 3) rfl rfl
  obtain ⟨r1_0, _, r1_9⟩ := V1.out.box_at (i := 1) (j := 0) rfl rfl
  obtain ⟨r1_1, _, _⟩ := V1.out.box_at (i := 1) (j := 1) rfl rfl
  obtain ⟨r1_2, _, _⟩ := V1.out.box_at (i := 1) (j := 2) rfl rfl
  obtain ⟨r1_3, _, _⟩ := V1.out.box_at (i := 1) (j := 3) rfl rfl
  go_wp2_with fail
  refine (walk_any x y A B k w1 (HKA.out.good (HA.out.below V1.out.below)) (HKB.out.good (HB.out.below V1.out.below))).mono ?_
  rintro e w2 ⟨l, pa, F, g, n, c, rfl, hb, hF, hI, hv2⟩
  have HB2 := Lib.hid hb
  have HF := Lib.hid hF
  have HI := Lib.hid hI
  have V2 := Lib.hid (show Hp W [frow (some ⟨g, 0, none⟩) n c F, box 25 (W.heap.size + 1) [.int .i64 B.lt, .int .i64 B.st, .slice y.A y.n y.c, .slice y.B y.m y.d], box 25 W.heap.size [.int .i64 A.lt, .int .i64 A.st, .slice x.A x.n x.c, .slice x.B x.m x.d]] w2 from V1.out.join hv2)
  have hn : l.length = n := by have h1 := hF.len; have h2 := V2.out.found_len (i := 0) rfl; omega
  have hnb : n ≤ 1002001 := by
    have h1 := few2 hI hb.nd
    have h3 := Nat.mul_le_mul (show A.n + 1 ≤ 1001 by have := HKA.out.few; omega) (show B.n + 1 ≤ 1001 by have := HKB.out.few; omega)
    omega
  clear hb hF hI hv2 V1 r0_9 r0_0 r0_1 r0_2 r0_3 r1_9 r1_0 r1_1 r1_2 r1_3
  have HN := Lib.hid hn
  clear hn
  go_wp2_with fail
  have V0 := Lib.hid (show ∀ (j : Nat) p, j < 0 → l[j]? = some p → A.acc p.1 = B.acc p.2 from fun j p h => absurd h (Nat.not_lt_zero _))
  go_loopw [8] (fun iv wr => ∃ i : Nat, iv = .int .i64 (i : Int) ∧ i ≤ n ∧ (∀ (j : Nat) p, j < i → l[j]? = some p → A.acc p.1 = B.acc p.2) ∧ Hp W [frow (some ⟨g, 0, none⟩) n c F, box 25 (W.heap.size + 1) [.int .i64 B.lt, .int .i64 B.st, .slice y.A y.n y.c, .slice y.B y.m y.d], box 25 W.heap.size [.int .i64 A.lt, .int .i64 A.st, .slice x.A x.n x.c, .slice x.B x.m x.d]] wr) (fun iv _ => n - (intOf iv).toNat)
  case atStart => exact ⟨0, rfl, Nat.zero_le _, V0.out, V2.out⟩
  case round =>
    clear V2 V0
    obtain ⟨i, rfl, hin, hno, hV⟩ := hrel
    obtain ⟨wi, rfl⟩ : ∃ wi : World, wi = wr := ⟨_, rfl⟩
    have V := Lib.hid hV
    have HNO := Lib.hid hno
    clear hV hno
    by_cases hlt : i < n
    · obtain ⟨⟨p1, p2⟩, hp⟩ : ∃ p, l[i]? = some p := ⟨_, List.getElem?_eq_getElem (by have := HN.out; omega)⟩
      obtain ⟨f, t', hfi, _, _⟩ := HF.out.at' i _ hp
      have HFI := Lib.hid hfi
      have HPI := Lib.hid hp
      have HIN := Lib.hid (show (-1 ≤ p1 ∧ p1 < A.n) ∧ -1 ≤ p2 ∧ p2 < B.n from HI.out i _ hp)
      obtain ⟨va, hva⟩ : ∃ o, o = A.acc p1 := ⟨_, rfl⟩
      obtain ⟨vb, hvb⟩ : ∃ o, o = B.acc p2 := ⟨_, rfl⟩
      have SA := Lib.hid hva.symm
      have SB := Lib.hid hvb.symm
      clear hfi hp hva hvb
      by_cases he : va = vb
      · have HE2 := Lib.hid (show ∀ (j : Nat) p, j < i + 1 → l[j]? = some p → A.acc p.1 = B.acc p.2 from fun j p hj hp => by
          by_cases e : j = i
          · subst e
            rw [HPI.out] at hp
            injection hp with hp
            rw [← hp]
            exact SA.out.trans (he.trans SB.out.symm)
          · exact HNO.out j p (by omega) hp)
        have he2 : (va == vb) = true := by rw [he]; simp
        clear he
        go_upto_region 8 with fail
        have hKp : Keep [(⟨W.heap.size, 0, none⟩, .int .i64 A.lt), (⟨W.heap.size, 1, none⟩, .int .i64 A.st), (⟨W.heap.size, 2, none⟩, .slice x.A x.n x.c), (⟨W.heap.size, 3, none⟩, .slice x.B x.m x.d), (⟨W.heap.size + 1, 0, none⟩, .int .i64 B.lt), (⟨W.heap.size + 1, 1, none⟩, .int .i64 B.st), (⟨W.heap.size + 1, 2, none⟩, .slice y.A y.n y.c), (⟨W.heap.size + 1, 3, none⟩, .slice y.B y.m y.d), (⟨g, i * 4, none⟩, .int .i64 p1), (⟨g, i * 4 + 1, none⟩, .int .i64 p2)] wi := List.forall_mem_cons.2 ⟨⟨(V.out.box_at (i := 2) (j := 0) rfl rfl).1, (V.out.box_at (i := 2) (j := 0) rfl rfl).2.2⟩, List.forall_mem_cons.2 ⟨⟨(V.out.box_at (i := 2) (j := 1) rfl rfl).1, (V.out.box_at (i := 2) (j := 1) rfl rfl).2.2⟩, List.forall_mem_cons.2 ⟨⟨(V.out.box_at (i := 2) (j := 2) rfl rfl).1, (V.out.box_at (i := 2) (j := 2) rfl rfl).2.2⟩, List.forall_mem_cons.2 ⟨⟨(V.out.box_at (i := 2) (j := 3) rfl rfl).1, (V.out.box_at (i := 2) (j := 3) rfl rfl).2.2⟩, List.forall_mem_cons.2 ⟨⟨(V.out.box_at (i := 1) (j := 0) rfl rfl).1, (V.out.box_at (i := 1) (j := 0) rfl rfl).2.2⟩, List.forall_mem_cons.2 ⟨⟨(V.out.box_at (i := 1) (j := 1) rfl rfl).1, (V.out.box_at (i := 1) (j := 1) rfl rfl).2.2⟩, List.forall_mem_cons.2 ⟨⟨(V.out.box_at (i := 1) (j := 2) rfl rfl).1, (V.out.box_at (i := 1) (j := 2) rfl rfl).2.2⟩, List.forall_mem_cons.2 ⟨⟨(V.out.box_at (i := 1) (j := 3) rfl rfl).1, (V.out.box_at (i := 1) (j := 3) rfl rfl).2.2⟩, List.forall_mem_cons.2 ⟨⟨(V.out.found_at (i := 0) rfl HFI.out).1, (V.out.found_at (i := 0) rfl HFI.out).2.2.2.2⟩, List.forall_mem_cons.2 ⟨⟨(V.out.found_at (i := 0) rfl HFI.out).2.1, (V.out.found_at (i := 0) rfl HFI.out).2.2.2.2⟩, fun _ h => by simp at h⟩⟩⟩⟩⟩⟩⟩⟩⟩⟩
        refine wp_region_held_drew (S := Keep _) (by kernel_rfl) hKp.drew (fun hHeld => ?_)
        have Vd := Lib.hid (V.out.go (bdrew _))
        refine tk 0 ?_ rfl ?_ ?_; rotate_left
        · intro wl hSw
          have hSw : Keep _ wl := hSw
          have k0 : wl.cell? ⟨W.heap.size, 0, none⟩ = some (.int .i64 A.lt) := (hSw _ (.head _)).1
          have k1 : wl.cell? ⟨W.heap.size, 1, none⟩ = some (.int .i64 A.st) := (hSw _ (.tail _ (.head _))).1
          have k2 : wl.cell? ⟨W.heap.size, 2, none⟩ = some (.slice x.A x.n x.c) := (hSw _ (.tail _ (.tail _ (.head _)))).1
          have k3 : wl.cell? ⟨W.heap.size, 3, none⟩ = some (.slice x.B x.m x.d) := (hSw _ (.tail _ (.tail _ (.tail _ (.head _))))).1
          clear hSw
          go_simp
          try (with_reducible rfl)
        try simp only [Act.put, sA, sZ, sS]
        refine tk 1 ?_ rfl ?_ ?_; rotate_left; focus (intro w hSw; clear hSw; go_simp; try (with_reducible rfl))
        try simp only [Act.put, sA, sZ, sS]
        refine tk 2 ?_ rfl ?_ ?_; rotate_left; focus (intro w hSw; clear hSw; go_simp; try (with_reducible rfl))
        try simp only [Act.put, sA, sZ, sS]
        refine tk 3 ?_ rfl ?_ ?_; rotate_left; focus (intro w hSw; clear hSw; go_simp; try (with_reducible rfl))
        try simp only [Act.put, sA, sZ, sS]
        refine tk 4 ?_ rfl ?_ ?_; rotate_left; focus (intro w hSw; clear hSw; go_simp; try (with_reducible rfl))
        try simp only [Act.put, sA, sZ, sS]
        refine tk 5 ?_ rfl ?_ ?_; rotate_left; focus (intro w hSw; clear hSw; go_simp; try (with_reducible rfl))
        try simp only [Act.put, sA, sZ, sS]
        refine tk 6 ?_ rfl ?_ ?_; rotate_left
        · intro wl hSw
          have hSw : Keep _ wl := hSw
          have k0 : wl.cell? ⟨g, i * 4, none⟩ = some (.int .i64 p1) := (hSw _ (.tail _ (.tail _ (.tail _ (.tail _ (.tail _ (.tail _ (.tail _ (.tail _ (.head _)))))))))).1
          clear hSw
          go_simp
          try (with_reducible rfl)
        try simp only [Act.put, sA, sZ, sS]
        refine tk 8 ?_ rfl ?_ ?_; rotate_left
        · intro wl hSw
          have hSw : Keep _ wl := hSw
          have k0 : wl.cell? ⟨W.heap.size + 1, 0, none⟩ = some (.int .i64 B.lt) := (hSw _ (.tail _ (.tail _ (.tail _ (.tail _ (.head _)))))).1
          have k1 : wl.cell? ⟨W.heap.size + 1, 1, none⟩ = some (.int .i64 B.st) := (hSw _ (.tail _ (.tail _ (.tail _ (.tail _ (.tail _ (.head _))))))).1
          have k2 : wl.cell? ⟨W.heap.size + 1, 2, none⟩ = some (.slice y.A y.n y.c) := (hSw _ (.tail _ (.tail _ (.tail _ (.tail _ (.tail _ (.tail _ (.head _)))))))).1
          have k3 : wl.cell? ⟨W.heap.size + 1, 3, none⟩ = some (.slice y.B y.m y.d) := (hSw _ (.tail _ (.tail _ (.tail _ (.tail _ (.tail _ (.tail _ (.tail _ (.head _))))))))).1
          clear hSw
          go_simp
          try (with_reducible rfl)
        try simp only [Act.put, sA, sZ, sS]
        refine tk 9 ?_ rfl ?_ ?_; rotate_left; focus (intro w hSw; clear hSw; go_simp; try (with_reducible rfl))
        try simp only [Act.put, sA, sZ, sS]
        refine tk 10 ?_ rfl ?_ ?_; rotate_left; focus (intro w hSw; clear hSw; go_simp; try (with_reducible rfl))
        try simp only [Act.put, sA, sZ, sS]
        refine tk 11 ?_ rfl ?_ ?_; rotate_left; focus (intro w hSw; clear hSw; go_simp; try (with_reducible rfl))
        try simp only [Act.put, sA, sZ, sS]
        refine tk 12 ?_ rfl ?_ ?_; rotate_left; focus (intro w hSw; clear hSw; go_simp; try (with_reducible rfl))
        try simp only [Act.put, sA, sZ, sS]
        refine tk 13 ?_ rfl ?_ ?_; rotate_left; focus (intro w hSw; clear hSw; go_simp; try (with_reducible rfl))
        try simp only [Act.put, sA, sZ, sS]
        refine tk 14 ?_ rfl ?_ ?_; rotate_left
        · intro wl hSw
          have hSw : Keep _ wl := hSw
          have k0 : wl.cell? ⟨g, i * 4 + 1, none⟩ = some (.int .i64 p2) := (hSw _ (.tail _ (.tail _ (.tail _ (.tail _ (.tail _ (.tail _ (.tail _ (.tail _ (.tail _ (.head _))))))))))).1
          clear hSw
          go_simp
          try (with_reducible rfl)
        try simp only [Act.put, sA, sZ, sS]
        refine wpAnyH_ready (rs := [7]) (by kernel_rfl) (by simp) ?_
        refine AllReadyH.cons (List.getElem?_toArray.trans rfl) (fun K hK => ?_) AllReadyH.nil
        go_simp
        refine (raccepting_any x A p1 _ (HA.out.below Vd.out.below) (by have := HIN.out.1.2; have := HKA.out.right.acl; unfold Au.n at *; omega) (by have := HKA.out.right.acl; have := HKA.out.few; unfold Au.n at *; omega)).mono ?_
        rintro e w_7 ⟨rfl, b_7⟩
        try go_wp2_with fail
        rw [SA.out]
        have V_7 := Lib.hid (Vd.out.go b_7)
        refine hK.out _ _ (hHeld.go b_7) (fun hHeld => ?_)
        clear hK K
        try simp only [Act.put, sA, sZ, sS]
        refine wpAnyH_ready (rs := [15]) (by kernel_rfl) (by simp) ?_
        refine AllReadyH.cons (List.getElem?_toArray.trans rfl) (fun K hK => ?_) AllReadyH.nil
        go_simp
        refine (raccepting_any y B p2 _ (HB.out.below V_7.out.below) (by have := HIN.out.2.2; have := HKB.out.right.acl; unfold Au.n at *; omega) (by have := HKB.out.right.acl; have := HKB.out.few; unfold Au.n at *; omega)).mono ?_
        rintro e w_7_15 ⟨rfl, b_7_15⟩
        try go_wp2_with fail
        rw [SB.out]
        have V_7_15 := Lib.hid (V_7.out.go b_7_15)
        refine hK.out _ _ (hHeld.go b_7_15) (fun hHeld => ?_)
        clear hK K
        try simp only [Act.put, sA, sZ, sS]
        refine tk 16 ?_ rfl ?_ ?_; rotate_left; focus (intro w hSw; clear hSw; go_simp; try (with_reducible rfl))
        try simp only [Act.put, sA, sZ, sS]
        refine wpAnyH_done (by kernel_rfl) ?_ _
        go_wp2_with fail
        go_roundw
        case rel => exact ⟨i + 1, by go_num, by omega, HE2.out, V_7_15.out⟩
        case measure => simp [intOf]; omega
      · obtain ⟨u, hu, _, _⟩ := HB2.out.word hk0 (i + 1) i _ (by omega) HPI.out
        have HU := Lib.hid hu
        have HFW := Lib.hid (walk_some HB2.out hk0 HPI.out (show ¬ A.acc p1 = B.acc p2 by rw [SA.out, SB.out]; exact he) HNO.out hu)
        have he2 : (va == vb) = false := by cases va <;> cases vb <;> first | rfl | exact absurd rfl he
        clear he hu
        go_upto_region 8 with fail
        have hKp : Keep [(⟨W.heap.size, 0, none⟩, .int .i64 A.lt), (⟨W.heap.size, 1, none⟩, .int .i64 A.st), (⟨W.heap.size, 2, none⟩, .slice x.A x.n x.c), (⟨W.heap.size, 3, none⟩, .slice x.B x.m x.d), (⟨W.heap.size + 1, 0, none⟩, .int .i64 B.lt), (⟨W.heap.size + 1, 1, none⟩, .int .i64 B.st), (⟨W.heap.size + 1, 2, none⟩, .slice y.A y.n y.c), (⟨W.heap.size + 1, 3, none⟩, .slice y.B y.m y.d), (⟨g, i * 4, none⟩, .int .i64 p1), (⟨g, i * 4 + 1, none⟩, .int .i64 p2)] wi := List.forall_mem_cons.2 ⟨⟨(V.out.box_at (i := 2) (j := 0) rfl rfl).1, (V.out.box_at (i := 2) (j := 0) rfl rfl).2.2⟩, List.forall_mem_cons.2 ⟨⟨(V.out.box_at (i := 2) (j := 1) rfl rfl).1, (V.out.box_at (i := 2) (j := 1) rfl rfl).2.2⟩, List.forall_mem_cons.2 ⟨⟨(V.out.box_at (i := 2) (j := 2) rfl rfl).1, (V.out.box_at (i := 2) (j := 2) rfl rfl).2.2⟩, List.forall_mem_cons.2 ⟨⟨(V.out.box_at (i := 2) (j := 3) rfl rfl).1, (V.out.box_at (i := 2) (j := 3) rfl rfl).2.2⟩, List.forall_mem_cons.2 ⟨⟨(V.out.box_at (i := 1) (j := 0) rfl rfl).1, (V.out.box_at (i := 1) (j := 0) rfl rfl).2.2⟩, List.forall_mem_cons.2 ⟨⟨(V.out.box_at (i := 1) (j := 1) rfl rfl).1, (V.out.box_at (i := 1) (j := 1) rfl rfl).2.2⟩, List.forall_mem_cons.2 ⟨⟨(V.out.box_at (i := 1) (j := 2) rfl rfl).1, (V.out.box_at (i := 1) (j := 2) rfl rfl).2.2⟩, List.forall_mem_cons.2 ⟨⟨(V.out.box_at (i := 1) (j := 3) rfl rfl).1, (V.out.box_at (i := 1) (j := 3) rfl rfl).2.2⟩, List.forall_mem_cons.2 ⟨⟨(V.out.found_at (i := 0) rfl HFI.out).1, (V.out.found_at (i := 0) rfl HFI.out).2.2.2.2⟩, List.forall_mem_cons.2 ⟨⟨(V.out.found_at (i := 0) rfl HFI.out).2.1, (V.out.found_at (i := 0) rfl HFI.out).2.2.2.2⟩, fun _ h => by simp at h⟩⟩⟩⟩⟩⟩⟩⟩⟩⟩
        refine wp_region_held_drew (S := Keep _) (by kernel_rfl) hKp.drew (fun hHeld => ?_)
        have Vd := Lib.hid (V.out.go (bdrew _))
        refine tk 0 ?_ rfl ?_ ?_; rotate_left
        · intro wl hSw
          have hSw : Keep _ wl := hSw
          have k0 : wl.cell? ⟨W.heap.size, 0, none⟩ = some (.int .i64 A.lt) := (hSw _ (.head _)).1
          have k1 : wl.cell? ⟨W.heap.size, 1, none⟩ = some (.int .i64 A.st) := (hSw _ (.tail _ (.head _))).1
          have k2 : wl.cell? ⟨W.heap.size, 2, none⟩ = some (.slice x.A x.n x.c) := (hSw _ (.tail _ (.tail _ (.head _)))).1
          have k3 : wl.cell? ⟨W.heap.size, 3, none⟩ = some (.slice x.B x.m x.d) := (hSw _ (.tail _ (.tail _ (.tail _ (.head _))))).1
          clear hSw
          go_simp
          try (with_reducible rfl)
        try simp only [Act.put, sA, sZ, sS]
        refine tk 1 ?_ rfl ?_ ?_; rotate_left; focus (intro w hSw; clear hSw; go_simp; try (with_reducible rfl))
        try simp only [Act.put, sA, sZ, sS]
        refine tk 2 ?_ rfl ?_ ?_; rotate_left; focus (intro w hSw; clear hSw; go_simp; try (with_reducible rfl))
        try simp only [Act.put, sA, sZ, sS]
        refine tk 3 ?_ rfl ?_ ?_; rotate_left; focus (intro w hSw; clear hSw; go_simp; try (with_reducible rfl))
        try simp only [Act.put, sA, sZ, sS]
        refine tk 4 ?_ rfl ?_ ?_; rotate_left; focus (intro w hSw; clear hSw; go_simp; try (with_reducible rfl))
        try simp only [Act.put, sA, sZ, sS]
        refine tk 5 ?_ rfl ?_ ?_; rotate_left; focus (intro w hSw; clear hSw; go_simp; try (with_reducible rfl))
        try simp only [Act.put, sA, sZ, sS]
        refine tk 6 ?_ rfl ?_ ?_; rotate_left
        · intro wl hSw
          have hSw : Keep _ wl := hSw
          have k0 : wl.cell? ⟨g, i * 4, none⟩ = some (.int .i64 p1) := (hSw _ (.tail _ (.tail _ (.tail _ (.tail _ (.tail _ (.tail _ (.tail _ (.tail _ (.head _)))))))))).1
          clear hSw
          go_simp
          try (with_reducible rfl)
        try simp only [Act.put, sA, sZ, sS]
        refine tk 8 ?_ rfl ?_ ?_; rotate_left
        · intro wl hSw
          have hSw : Keep _ wl := hSw
          have k0 : wl.cell? ⟨W.heap.size + 1, 0, none⟩ = some (.int .i64 B.lt) := (hSw _ (.tail _ (.tail _ (.tail _ (.tail _ (.head _)))))).1
          have k1 : wl.cell? ⟨W.heap.size + 1, 1, none⟩ = some (.int .i64 B.st) := (hSw _ (.tail _ (.tail _ (.tail _ (.tail _ (.tail _ (.head _))))))).1
          have k2 : wl.cell? ⟨W.heap.size + 1, 2, none⟩ = some (.slice y.A y.n y.c) := (hSw _ (.tail _ (.tail _ (.tail _ (.tail _ (.tail _ (.tail _ (.head _)))))))).1
          have k3 : wl.cell? ⟨W.heap.size + 1, 3, none⟩ = some (.slice y.B y.m y.d) := (hSw _ (.tail _ (.tail _ (.tail _ (.tail _ (.tail _ (.tail _ (.tail _ (.head _))))))))).1
          clear hSw
          go_simp
          try (with_reducible rfl)
        try simp only [Act.put, sA, sZ, sS]
        refine tk 9 ?_ rfl ?_ ?_; rotate_left; focus (intro w hSw; clear hSw; go_simp; try (with_reducible rfl))
        try simp only [Act.put, sA, sZ, sS]
        refine tk 10 ?_ rfl ?_ ?_; rotate_left; focus (intro w hSw; clear hSw; go_simp; try (with_reducible rfl))
        try simp only [Act.put, sA, sZ, sS]
        refine tk 11 ?_ rfl ?_ ?_; rotate_left; focus (intro w hSw; clear hSw; go_simp; try (with_reducible rfl))
        try simp only [Act.put, sA, sZ, sS]
        refine tk 12 ?_ rfl ?_ ?_; rotate_left; focus (intro w hSw; clear hSw; go_simp; try (with_reducible rfl))
        try simp only [Act.put, sA, sZ, sS]
        refine tk 13 ?_ rfl ?_ ?_; rotate_left; focus (intro w hSw; clear hSw; go_simp; try (with_reducible rfl))
        try simp only [Act.put, sA, sZ, sS]
        refine tk 14 ?_ rfl ?_ ?_; rotate_left
        · intro wl hSw
          have hSw : Keep _ wl := hSw
          have k0 : wl.cell? ⟨g, i * 4 + 1, none⟩ = some (.int .i64 p2) := (hSw _ (.tail _ (.tail _ (.tail _ (.tail _ (.tail _ (.tail _ (.tail _ (.tail _ (.tail _ (.head _))))))))))).1
          clear hSw
          go_simp
          try (with_reducible rfl)
        try simp only [Act.put, sA, sZ, sS]
        refine wpAnyH_ready (rs := [7]) (by kernel_rfl) (by simp) ?_
        refine AllReadyH.cons (List.getElem?_toArray.trans rfl) (fun K hK => ?_) AllReadyH.nil
        go_simp
        refine (raccepting_any x A p1 _ (HA.out.below Vd.out.below) (by have := HIN.out.1.2; have := HKA.out.right.acl; unfold Au.n at *; omega) (by have := HKA.out.right.acl; have := HKA.out.few; unfold Au.n at *; omega)).mono ?_
        rintro e w_7 ⟨rfl, b_7⟩
        try go_wp2_with fail
        rw [SA.out]
        have V_7 := Lib.hid (Vd.out.go b_7)
        refine hK.out _ _ (hHeld.go b_7) (fun hHeld => ?_)
        clear hK K
        try simp only [Act.put, sA, sZ, sS]
        refine wpAnyH_ready (rs := [15]) (by kernel_rfl) (by simp) ?_
        refine AllReadyH.cons (List.getElem?_toArray.trans rfl) (fun K hK => ?_) AllReadyH.nil
        go_simp
        refine (raccepting_any y B p2 _ (HB.out.below V_7.out.below) (by have := HIN.out.2.2; have := HKB.out.right.acl; unfold Au.n at *; omega) (by have := HKB.out.right.acl; have := HKB.out.few; unfold Au.n at *; omega)).mono ?_
        rintro e w_7_15 ⟨rfl, b_7_15⟩
        try go_wp2_with fail
        rw [SB.out]
        have V_7_15 := Lib.hid (V_7.out.go b_7_15)
        refine hK.out _ _ (hHeld.go b_7_15) (fun hHeld => ?_)
        clear hK K
        try simp only [Act.put, sA, sZ, sS]
        refine tk 16 ?_ rfl ?_ ?_; rotate_left; focus (intro w hSw; clear hSw; go_simp; try (with_reducible rfl))
        try simp only [Act.put, sA, sZ, sS]
        refine wpAnyH_done (by kernel_rfl) ?_ _
        have V3 := Lib.hid (show Hp W [nums none 0 0 (([] : List Nat).map Int.ofNat), frow (some ⟨g, 0, none⟩) n c F, box 25 (W.heap.size + 1) [.int .i64 B.lt, .int .i64 B.st, .slice y.A y.n y.c, .slice y.B y.m y.d], box 25 W.heap.size [.int .i64 A.lt, .int .i64 A.st, .slice x.A x.n x.c, .slice x.B x.m x.d]] _ from V_7_15.out.nil_row (nums none 0 0 []) rfl rfl rfl)
        clear hHeld hKp
        clear V
        go_wp2_with fail
        go_loopw [9, 10] (fun wv kv wr => ∃ cur : Nat, kv = .int .i64 (cur : Int) ∧ ∃ (v acc : List Nat) (G1 : Option Addr) (n1 c1 : Nat), wv = .slice G1 n1 c1 ∧ Wd k pa cur v ∧ u = v ++ acc ∧ cur < n ∧ Hp W [nums G1 n1 c1 (acc.map Int.ofNat), frow (some ⟨g, 0, none⟩) n c F, box 25 (W.heap.size + 1) [.int .i64 B.lt, .int .i64 B.st, .slice y.A y.n y.c, .slice y.B y.m y.d], box 25 W.heap.size [.int .i64 A.lt, .int .i64 A.st, .slice x.A x.n x.c, .slice x.B x.m x.d]] wr) (fun _ kv _ => (intOf kv).toNat)
        case atStart => exact ⟨i, rfl, u, [], none, 0, 0, rfl, HU.out, by simp, hlt, V3.out⟩
        case round =>
          clear V3
          obtain ⟨cur, rfl, v, acc, G1, n1, c1, rfl, hwd, huv, hcn, hV⟩ := hrel
          obtain ⟨wj, rfl⟩ : ∃ wj : World, wj = wr := ⟨_, rfl⟩
          have V := Lib.hid hV
          have HWD := Lib.hid hwd
          have HUV := Lib.hid huv
          have hn1 : n1 ≤ 1002001 := by
            have h1 := V.out.num_len (i := 0) rfl
            have h2 := HB2.out.wdlen HU.out
            rw [List.length_map] at h1
            rw [huv, List.length_append] at h2
            omega
          clear hV hwd huv
          obtain ⟨⟨q1, q2⟩, hq⟩ : ∃ p, l[cur]? = some p := ⟨_, List.getElem?_eq_getElem (by have := HN.out; omega)⟩
          obtain ⟨f2, t2, hfc, hf0, hf1⟩ := HF.out.at' cur _ hq
          obtain ⟨_, _, k2, k3, k9⟩ := V.out.found_at (i := 1) rfl hfc
          by_cases hz : cur = 0
          · subst hz
            have hv0 := wd_zero HWD.out
            simp only [Nat.zero_mul, Nat.zero_add] at k2
            have HUA := Lib.hid (show acc = u by rw [HUV.out, hv0]; rfl)
            obtain rfl := hf0 rfl
            have HP := Lib.hid (show DiffPost A B W (.returned (.tuple #[.slice G1 n1 c1, .int .i64 0])) wj from ⟨V.out.below, .inr ⟨k, HKA.out, HKB.out, V.out.below, .inr ⟨u, G1, n1, c1, HFW.out, rfl, by have := V.out.pick [0] (by decide) rfl (l' := [nums G1 n1 c1 (acc.map Int.ofNat)]); rw [HUA.out] at this; exact this, by omega⟩⟩⟩)
            clear hf0 hf1 hv0 hq hfc
            go_wp2_with fail
            go_ret2
            exact HP.out
          · obtain ⟨P, hP, rfl, rfl⟩ := hf1 (by omega)
            obtain ⟨P', v', hP', hv', hwp⟩ := wd_step HWD.out (by omega)
            rw [hP] at hP'
            injection hP' with hP'
            subst hP'
            obtain ⟨hpc, _, _⟩ := HB2.out.par cur _ P (by omega) hq hP
            obtain ⟨pm, hpm⟩ : ∃ x, x = P % k := ⟨_, rfl⟩
            obtain ⟨pd, hpd⟩ : ∃ x, x = P / k := ⟨_, rfl⟩
            rw [← hpm] at hv' k3
            rw [← hpd] at hpc hwp k2
            have HWP := Lib.hid hwp
            have HPD := Lib.hid hpd
            have HUV2 := Lib.hid (show u = v' ++ (pm :: acc) by rw [HUV.out, hv']; simp)
            have hg0 : (0 : Int) ≤ (pd : Int) := by omega
            clear hf0 hv' hwp hpm hpd HUV HWD hP hf1 hq
            have hlen := V.out.num_len (i := 0) rfl
            have hcl := V.out.cells (i := 0) (A := G1) (c := c1) rfl rfl
            obtain ⟨wy, hwy⟩ : ∃ z, z = wj.alloc (.cells #[.int .i64 (pm : Int)] 3) := ⟨_, rfl⟩
            have VY := Lib.hid (show Hp W (nums (some ⟨wj.heap.size, 0, none⟩) 1 1 [(pm : Int)] :: [nums G1 n1 c1 (acc.map Int.ofNat), frow (some ⟨g, 0, none⟩) n c F, box 25 (W.heap.size + 1) [.int .i64 B.lt, .int .i64 B.st, .slice y.A y.n y.c, .slice y.B y.m y.d], box 25 W.heap.size [.int .i64 A.lt, .int .i64 A.st, .slice x.A x.n x.c, .slice x.B x.m x.d]]) wy by
              rw [hwy]
              have := V.out.litm 3 1 1 [.int .i64 (pm : Int)] rfl (by omega)
              simpa [nums, ints] using this)
            obtain ⟨A4, c4, w4, hr4, hv4, _⟩ := run_cat_nums VY.out (i := 0) rfl 26 (m := n1) (d := c1) (acc.map Int.ofNat) hlen (by rw [hwy]; exact hcl.below (bnew _ _)) (by omega) (by omega)
            rw [Nat.add_comm 1 n1] at hr4 hv4
            have V4 := Lib.hid (show Hp W [nums A4 (n1 + 1) c4 ((pm :: acc).map Int.ofNat), frow (some ⟨g, 0, none⟩) n c F, box 25 (W.heap.size + 1) [.int .i64 B.lt, .int .i64 B.st, .slice y.A y.n y.c, .slice y.B y.m y.d], box 25 W.heap.size [.int .i64 A.lt, .int .i64 A.st, .slice x.A x.n x.c, .slice x.B x.m x.d]] w4 from hv4.pick [0, 2, 3, 4] (by decide) rfl)
            have HYY := Lib.hid hwy
            have HR4 := Lib.hid hr4
            obtain ⟨_, _, m2, _, m9⟩ := V4.out.found_at (i := 1) rfl hfc
            rw [← HPD.out] at m2
            clear hwy hr4 hv4 VY hcl hlen hfc
            go_wp2_with (at_builtin; rw [← HYY.out]; refine wpList_app_run rfl (.tmp 60) (.tmp 61) 26 rfl HR4.out rfl rfl ?_)
            go_roundw
            case rel => exact ⟨pd, rfl, v', pm :: acc, A4, n1 + 1, c4, rfl, HWP.out, HUV2.out, by omega, V4.out⟩
            case measure => simp [intOf]; omega
    · obtain rfl : i = n := by omega
      have HP := Lib.hid (show DiffPost A B W (.returned (.tuple #[.slice none 0 0, .int .i64 10])) wi from ⟨V.out.below, .inr ⟨k, HKA.out, HKB.out, V.out.below, .inl ⟨walk_none HB2.out hk0 (fun j p hj => HNO.out j p (by have := (List.getElem?_eq_some_iff.1 hj).1; have := HN.out; omega) hj), rfl⟩⟩⟩)
      go_wp2_with fail
      go_ret2
      exact HP.out
theorem FwPost.congr {k : Nat} {P Q : List Nat → Bool} {W : World} {e : Ending} {w' : World} (h : FwPost k P W e w') (he : ∀ u, Let k u → P u = Q u) : FwPost k Q W e w' := by
  obtain ⟨h1, ⟨h2, h3⟩ | ⟨u, G, n, c, a, b, d, f⟩⟩ := h
  · exact ⟨h1, .inl ⟨h2.congr he, h3⟩⟩
  · exact ⟨h1, .inr ⟨u, G, n, c, a.congr he, b, d, f⟩⟩
/-- The automaton without states. -/
def noneA (lt : Int) : Au := ⟨lt, [], [], -1⟩
theorem noneA_lang (lt : Int) (u : List Nat) : (noneA lt).lang u = false := by
  show (noneA lt).acc ((noneA lt).run (-1) u) = false
  rw [Au.run_neg, Au.acc_neg _ (by omega)]
theorem noneA_vld {k : Nat} (h0 : 0 < k) (h8 : k ≤ 8) : (noneA k).Vld k :=
  ⟨⟨rfl, h0, fun i row h => by simp [noneA] at h, rfl, fun _ => rfl, fun h => by simp [noneA, Au.n] at h⟩, h8, by simp [noneA, Au.n]⟩
theorem noneA_in (w : World) (lt : Int) : DfaIn w ⟨none, 0, 0, none, 0, 0⟩ (noneA lt) :=
  ⟨rfl, rfl, Nat.le_refl _, Nat.le_refl _, by simp, by simp, fun h => by simp [noneA] at h, CellsIn.nil _ _⟩
set_option maxHeartbeats 8000000 in
theorem rshortest_any (x : DV) (A : Au) (W : World) (hA : DfaIn W x A) :
    Calls Try.prog 29 #[dval x A] W (ShortPost A W) := by
  have HA := Lib.hid hA
  clear hA
  obtain ⟨wz, hwz⟩ : ∃ z, z = (W.alloc (.cells #[.int .i64 A.lt, .int .i64 A.st, .slice x.A x.n x.c, .slice x.B x.m x.d] 25)) := ⟨_, rfl⟩
  have V := Lib.hid (show Hp W [box 25 W.heap.size [.int .i64 A.lt, .int .i64 A.st, .slice x.A x.n x.c, .slice x.B x.m x.d]] wz by
    have := ((Hp.start W).box_new 25 [.int .i64 A.lt, .int .i64 A.st, .slice x.A x.n x.c, .slice x.B x.m x.d])
    rw [hwz]; simpa using this)
  have HZ := Lib.hid hwz
  clear hwz
  by_cases hp : A.vE = 0
  case neg =>
    have hp1 : A.vE = 1 := by rcases Au.vE_cases A with e | e; exact absurd e hp; exact e
    have HE := Lib.hid hp1
    clear hp1 hp
    go_enter Try.func29, Try.ntmps29
    go_upto_region 1 with fail
    rw [← HZ.out]
    clear HZ
    obtain ⟨r0_0, _, r0_9⟩ := V.out.box_at (i := 0) (j := 0) rfl rfl
    obtain ⟨r0_1, _, _⟩ := V.out.box_at (i := 0) (j := 1) rfl rfl
    obtain ⟨r0_2, _, _⟩ := V.out.box_at (i := 0) (j := 2) rfl rfl
    obtain ⟨r0_3, _, _⟩ := V.out.box_at (i := 0) (j := 3) rfl rfl
    go_wp2_with fail
    refine (rvalid_any x A wz (HA.out.below V.out.below)).mono ?_
    rintro e w1 ⟨rfl, b1⟩
    have V1 := Lib.hid (V.out.go b1)
    rw [HE.out]
    clear b1 V r0_9 r0_0 r0_1 r0_2 r0_3
    have HP := Lib.hid (show ShortPost A W (.returned (.tuple #[.slice none 0 0, .int .i64 1])) w1 from ⟨V1.out.below, .inl ⟨HE.out, rfl⟩⟩)
    go_wp2_with fail
    go_ret2
    exact HP.out
  have HE := Lib.hid hp
  obtain ⟨k, hka⟩ : ∃ k, A.Vld k := ⟨_, Au.vE_ok hp⟩
  have HKA := Lib.hid hka
  have hk0 := hka.right.pos
  have hk8 := hka.k8
  have HLT := Lib.hid hka.right.lt
  clear hp hka
  go_enter Try.func29, Try.ntmps29
  go_upto_region 1 with fail
  rw [← HZ.out]
  clear HZ
  obtain ⟨r0_0, _, r0_9⟩ := V.out.box_at (i := 0) (j := 0) rfl rfl
  obtain ⟨r0_1, _, _⟩ := V.out.box_at (i := 0) (j := 1) rfl rfl
  obtain ⟨r0_2, _, _⟩ := V.out.box_at (i := 0) (j := 2) rfl rfl
  obtain ⟨r0_3, _, _⟩ := V.out.box_at (i := 0) (j := 3) rfl rfl
  go_wp2_with fail
  refine (rvalid_any x A wz (HA.out.below V.out.below)).mono ?_
  rintro e w1 ⟨rfl, b1⟩
  have V1 := Lib.hid (V.out.go b1)
  rw [HE.out]
  clear b1 V r0_9 r0_0 r0_1 r0_2 r0_3
  obtain ⟨r0_0, _, r0_9⟩ := V1.out.box_at (i := 0) (j := 0) rfl rfl
  obtain ⟨r0_1, _, _⟩ := V1.out.box_at (i := 0) (j := 1) rfl rfl
  obtain ⟨r0_2, _, _⟩ := V1.out.box_at (i := 0) (j := 2) rfl rfl
  obtain ⟨r0_3, _, _⟩ := V1.out.box_at (i := 0) (j := 3) rfl rfl
  go_wp2_with fail
  refine (rdifference_any x ⟨none, 0, 0, none, 0, 0⟩ A (noneA A.lt) w1 (HA.out.below V1.out.below) (noneA_in w1 A.lt)).mono ?_
  rintro e w3 ⟨bb, hpost⟩
  have hvb : (noneA A.lt).Vld k := by rw [HLT.out]; exact noneA_vld hk0 hk8
  rcases hpost with ⟨h1, _⟩ | ⟨k', hka, hkb, hpost⟩
  · exact absurd (h1.symm.trans (Au.pE_mk HKA.out hvb)) (by decide)
  have hpost := (FwPost.base hpost V1.out.below).congr (Q := fun u => A.lang u) (fun u _ => by rw [noneA_lang]; simp)
  have HP := Lib.hid (show ShortPost A W e w3 from ⟨hpost.1, .inr ⟨k', hka, hpost⟩⟩)
  obtain ⟨_, ⟨_, rfl⟩ | ⟨u, G4, n4, c4, _, rfl, _, _⟩⟩ := hpost
  · go_wp2_with fail
    go_ret2
    exact HP.out
  · go_wp2_with fail
    go_ret2
    exact HP.out
end Go.Proofs.Ytbfedfiemkhefaa
