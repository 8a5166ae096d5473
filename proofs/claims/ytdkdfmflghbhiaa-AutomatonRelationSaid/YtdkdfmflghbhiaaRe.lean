/- Contract of the program: is a list of pairs a relation? -/
import Derived.Test.YtdkdfmflghbhiaaRd
namespace Go.Proofs.Ytdkdfmflghbhiaa
open Go.RowKit
set_option linter.unusedVariables false
set_option linter.unusedSimpArgs false
set_option maxRecDepth 100000

/-- A pair that a relation may hold. -/
def okP (A B : Au) (p : Int × Int) : Bool := decide ((-1 ≤ p.1 ∧ p.1 < A.n) ∧ (-1 ≤ p.2 ∧ p.2 < B.n)) && !decide (p = (-1, -1))
/-- The pairs are right, and ascend. -/
def isRelB (A B : Au) (l : List (Int × Int)) : Bool := l.all (okP A B) && (List.range (l.length - 1)).all fun i => ltP (l.getD i (0, 0)) (l.getD (i + 1) (0, 0))
theorem getD_some {β : Type} {l : List β} {j : Nat} {x d : β} (h : l[j]? = some x) : l.getD j d = x := by rw [List.getD_eq_getElem?_getD, h]; rfl
theorem isRelB_bad {A B : Au} {l : List (Int × Int)} {j : Nat} {p : Int × Int} (h : l[j]? = some p) (hp : okP A B p = false) : isRelB A B l = false := by
  unfold isRelB
  rw [Bool.and_eq_false_iff]
  exact .inl (List.all_eq_false.2 ⟨p, List.mem_of_getElem? h, by rw [hp]; exact Bool.false_ne_true⟩)
theorem isRelB_ord {A B : Au} {l : List (Int × Int)} {j : Nat} {p q : Int × Int} (h : l[j]? = some p) (h2 : l[j + 1]? = some q) (hp : ltP p q = false) : isRelB A B l = false := by
  unfold isRelB
  rw [Bool.and_eq_false_iff]
  have hl := (List.getElem?_eq_some_iff.1 h2).1
  exact .inr (List.all_eq_false.2 ⟨j, List.mem_range.2 (by omega), by rw [getD_some h, getD_some h2, hp]; exact Bool.false_ne_true⟩)
theorem isRelB_all {A B : Au} {l : List (Int × Int)} (h : ∀ (i : Nat) p, l[i]? = some p → okP A B p = true) (h2 : ∀ (i : Nat) p q, l[i]? = some p → l[i + 1]? = some q → ltP p q = true) : isRelB A B l = true := by
  unfold isRelB
  rw [Bool.and_eq_true, List.all_eq_true, List.all_eq_true]
  refine ⟨fun p hp => ?_, fun i hi => ?_⟩
  · obtain ⟨i, hi⟩ := List.mem_iff_getElem?.1 hp
    exact h i p hi
  · have hi := List.mem_range.1 hi
    have e1 : l[i]? = some (l[i]'(by omega)) := List.getElem?_eq_getElem (by omega)
    have e2 : l[i + 1]? = some (l[i + 1]'(by omega)) := List.getElem?_eq_getElem (by omega)
    rw [getD_some e1, getD_some e2]
    exact h2 i _ _ e1 e2
theorem isRelB_ok {A B : Au} {l : List (Int × Int)} (h : isRelB A B l = true) : (∀ (i : Nat) p, l[i]? = some p → okP A B p = true) ∧ ∀ (i : Nat) p q, l[i]? = some p → l[i + 1]? = some q → ltP p q = true := by
  unfold isRelB at h
  rw [Bool.and_eq_true, List.all_eq_true, List.all_eq_true] at h
  refine ⟨fun i p hp => h.1 p (List.mem_of_getElem? hp), fun i p q hp hq => ?_⟩
  have hl := (List.getElem?_eq_some_iff.1 hq).1
  have := h.2 i (List.mem_range.2 (by omega))
  rwa [getD_some hp, getD_some hq] at this
theorem okP_in {A B : Au} {p : Int × Int} (h : okP A B p = true) : in2 A B p ∧ ¬ p = (-1, -1) := by
  unfold okP at h
  rw [Bool.and_eq_true] at h
  have h1 := h.1
  exact ⟨by simpa [in2, and_assoc] using h1, by simpa using h.2⟩
theorem okP_mk {A B : Au} {p : Int × Int} (h : in2 A B p) (h2 : ¬ p = (-1, -1)) : okP A B p = true := by
  unfold okP
  unfold in2 at h
  rw [decide_eq_true h, decide_eq_false h2]; rfl
theorem okP_no {A B : Au} {p : Int × Int} (h : ¬ in2 A B p) : okP A B p = false := by
  unfold okP
  unfold in2 at h
  rw [decide_eq_false h]; rfl
set_option maxHeartbeats 32000000 in
theorem isRel_any (x y : DV) (A B : Au) (Al : Option Addr) (n c : Nat) (l : List (Int × Int)) (w : World) (hA : DfaIn w x A) (hB : DfaIn w y B) (hl : l.length = n) (hn : n ≤ 17592186044416) (hc : CellsIn w Al (pcells l)) :
    Calls Try.prog 31 #[dval x A, dval y B, .slice Al n c] w fun e w' => e = .returned (.bool (isRelB A B l)) ∧ Below w.heap.size w w' := by
  have hxb := hA.cb
  have hyb := hB.cb
  have HAN := Lib.hid (show A.n = x.n from hA.n)
  have HBN := Lib.hid (show B.n = y.n from hB.n)
  have HL := Lib.hid hl
  have HC := Lib.hid hc
  clear hA hB hl hc
  obtain ⟨wz, hwz⟩ : ∃ z, z = ((w.alloc (.cells #[.int .i64 A.lt, .int .i64 A.st, .slice x.A x.n x.c, .slice x.B x.m x.d] 25)).alloc (.cells #[.int .i64 B.lt, .int .i64 B.st, .slice y.A y.n y.c, .slice y.B y.m y.d] 25)) := ⟨_, rfl⟩
  have V := Lib.hid (show Hp w [box 25 (w.heap.size + 1) [.int .i64 B.lt, .int .i64 B.st, .slice y.A y.n y.c, .slice y.B y.m y.d], box 25 w.heap.size [.int .i64 A.lt, .int .i64 A.st, .slice x.A x.n x.c, .slice x.B x.m x.d]] wz by
    have := (((Hp.start w).box_new 25 [.int .i64 A.lt, .int .i64 A.st, .slice x.A x.n x.c, .slice x.B x.m x.d]).box_new 25 [.int .i64 B.lt, .int .i64 B.st, .slice y.A y.n y.c, .slice y.B y.m y.d])
    rw [hwz]; simpa using this)
  have HZ := Lib.hid hwz
  clear hwz
  go_enter Try.func31, Try.ntmps31
  go_upto_region 1 with fail
  rw [← HZ.out]
  clear HZ
  go_wp2_with fail
  go_loopw [11] (fun cv wr => ∃ j : Nat, cv = .int .i64 (j : Int) ∧ j ≤ n ∧ (∀ (i : Nat) p, i < j → l[i]? = some p → okP A B p = true) ∧ (∀ (i : Nat) p q, i + 1 < j → l[i]? = some p → l[i + 1]? = some q → ltP p q = true) ∧ Hp w [box 25 (w.heap.size + 1) [.int .i64 B.lt, .int .i64 B.st, .slice y.A y.n y.c, .slice y.B y.m y.d], box 25 w.heap.size [.int .i64 A.lt, .int .i64 A.st, .slice x.A x.n x.c, .slice x.B x.m x.d]] wr) (fun cv _ => n - (intOf cv).toNat)
  case atStart => exact ⟨0, rfl, Nat.zero_le _, fun i p h => absurd h (Nat.not_lt_zero _), fun i p q h => absurd h (Nat.not_lt_zero _), V.out⟩
  case round =>
    clear V
    obtain ⟨j, rfl, hjn, h1, h2, hV⟩ := hrel
    obtain ⟨wi, rfl⟩ : ∃ wi : World, wi = wr := ⟨_, rfl⟩
    have V := Lib.hid hV
    have H1 := Lib.hid h1
    have H2 := Lib.hid h2
    clear hV h1 h2
    by_cases hlt : j < n
    · obtain ⟨⟨p1, p2⟩, hp⟩ : ∃ p, l[j]? = some p := ⟨_, List.getElem?_eq_getElem (by have := HL.out; omega)⟩
      have HP := Lib.hid hp
      obtain ⟨b, off, rfl, hb, hc1, hc2⟩ := (HC.out.below V.out.below).pair hp
      obtain ⟨wx, hwx⟩ : ∃ z, z = wi.alloc (.cells #[.int .i64 p1, .int .i64 p2] 35) := ⟨_, rfl⟩
      have V3 := Lib.hid (show Hp w [box 35 wi.heap.size [.int .i64 p1, .int .i64 p2], box 25 (w.heap.size + 1) [.int .i64 B.lt, .int .i64 B.st, .slice y.A y.n y.c, .slice y.B y.m y.d], box 25 w.heap.size [.int .i64 A.lt, .int .i64 A.st, .slice x.A x.n x.c, .slice x.B x.m x.d]] wx by rw [hwx]; exact V.out.box_new 35 [.int .i64 p1, .int .i64 p2])
      have HWX := Lib.hid hwx
      have HBL := Lib.hid V.out.below
      clear hwx hp V
      go_upto_region 4 with fail
      rw [← HWX.out]
      clear HWX hc1 hc2
      obtain ⟨ok, hok⟩ : ∃ o, o = okP A B (p1, p2) := ⟨_, rfl⟩
      have HOK := Lib.hid hok
      clear hok
      go_cut [42] (fun r wy => r = .bool (!ok) ∧ Hp w [box 35 wi.heap.size [.int .i64 p1, .int .i64 p2], box 25 (w.heap.size + 1) [.int .i64 B.lt, .int .i64 B.st, .slice y.A y.n y.c, .slice y.B y.m y.d], box 25 w.heap.size [.int .i64 A.lt, .int .i64 A.st, .slice x.A x.n x.c, .slice x.B x.m x.d]] wy)
      case first =>
        by_cases h1 : p1 = -1
        · subst h1
          by_cases h2 : p2 = -1
          · subst h2
            have HV := Lib.hid (show ok = false by rw [HOK.out]; unfold okP; simp)
            have hKp : Keep [(⟨wi.heap.size, 0, none⟩, .int .i64 (-1)), (⟨wi.heap.size, 1, none⟩, .int .i64 (-1)), (⟨w.heap.size, 0, none⟩, .int .i64 A.lt), (⟨w.heap.size, 1, none⟩, .int .i64 A.st), (⟨w.heap.size, 2, none⟩, .slice x.A x.n x.c), (⟨w.heap.size, 3, none⟩, .slice x.B x.m x.d), (⟨w.heap.size + 1, 0, none⟩, .int .i64 B.lt), (⟨w.heap.size + 1, 1, none⟩, .int .i64 B.st), (⟨w.heap.size + 1, 2, none⟩, .slice y.A y.n y.c), (⟨w.heap.size + 1, 3, none⟩, .slice y.B y.m y.d)] wx := List.forall_mem_cons.2 ⟨⟨(V3.out.box_at (i := 0) (j := 0) rfl rfl).1, (V3.out.box_at (i := 0) (j := 0) rfl rfl).2.2⟩, List.forall_mem_cons.2 ⟨⟨(V3.out.box_at (i := 0) (j := 1) rfl rfl).1, (V3.out.box_at (i := 0) (j := 1) rfl rfl).2.2⟩, List.forall_mem_cons.2 ⟨⟨(V3.out.box_at (i := 2) (j := 0) rfl rfl).1, (V3.out.box_at (i := 2) (j := 0) rfl rfl).2.2⟩, List.forall_mem_cons.2 ⟨⟨(V3.out.box_at (i := 2) (j := 1) rfl rfl).1, (V3.out.box_at (i := 2) (j := 1) rfl rfl).2.2⟩, List.forall_mem_cons.2 ⟨⟨(V3.out.box_at (i := 2) (j := 2) rfl rfl).1, (V3.out.box_at (i := 2) (j := 2) rfl rfl).2.2⟩, List.forall_mem_cons.2 ⟨⟨(V3.out.box_at (i := 2) (j := 3) rfl rfl).1, (V3.out.box_at (i := 2) (j := 3) rfl rfl).2.2⟩, List.forall_mem_cons.2 ⟨⟨(V3.out.box_at (i := 1) (j := 0) rfl rfl).1, (V3.out.box_at (i := 1) (j := 0) rfl rfl).2.2⟩, List.forall_mem_cons.2 ⟨⟨(V3.out.box_at (i := 1) (j := 1) rfl rfl).1, (V3.out.box_at (i := 1) (j := 1) rfl rfl).2.2⟩, List.forall_mem_cons.2 ⟨⟨(V3.out.box_at (i := 1) (j := 2) rfl rfl).1, (V3.out.box_at (i := 1) (j := 2) rfl rfl).2.2⟩, List.forall_mem_cons.2 ⟨⟨(V3.out.box_at (i := 1) (j := 3) rfl rfl).1, (V3.out.box_at (i := 1) (j := 3) rfl rfl).2.2⟩, fun _ h => by simp at h⟩⟩⟩⟩⟩⟩⟩⟩⟩⟩
            refine wp_region_held_drew (S := Keep _) (by kernel_rfl) hKp.drew (fun hHeld => ?_)
            have V3d := Lib.hid (V3.out.go (bdrew _))
            refine tk 0 ?_ rfl ?_ ?_; rotate_left; focus (intro w hSw; clear hSw; go_simp; try (with_reducible rfl))
            try simp only [Act.put, sA, sZ, sS]
            refine tk 1 ?_ rfl ?_ ?_; rotate_left
            · intro wl hSw
              have hSw : Keep _ wl := hSw
              have k0 : wl.cell? ⟨wi.heap.size, 0, none⟩ = some (.int .i64 (-1)) := (hSw _ (.head _)).1
              clear hSw
              go_simp
              try (with_reducible rfl)
            try simp only [Act.put, sA, sZ, sS]
            refine tk 2 ?_ rfl ?_ ?_; rotate_left; focus (intro w hSw; clear hSw; go_simp; try (with_reducible rfl))
            try simp only [Act.put, sA, sZ, sS]
            refine tk 3 ?_ rfl ?_ ?_; rotate_left; focus (intro w hSw; clear hSw; go_simp; try (with_reducible rfl))
            try simp only [Act.put, sA, sZ, sS]
            refine tu 4 rfl ?_
            try simp only [Act.put, sA, sZ, sS]
            refine tu 5 rfl ?_
            try simp only [Act.put, sA, sZ, sS]
            refine tu 6 rfl ?_
            try simp only [Act.put, sA, sZ, sS]
            refine tu 7 rfl ?_
            try simp only [Act.put, sA, sZ, sS]
            refine tu 8 rfl ?_
            try simp only [Act.put, sA, sZ, sS]
            refine tk 9 ?_ rfl ?_ ?_; rotate_left; focus (intro w hSw; clear hSw; go_simp; try (with_reducible rfl))
            try simp only [Act.put, sA, sZ, sS]
            refine tk 10 ?_ rfl ?_ ?_; rotate_left; focus (intro w hSw; clear hSw; go_simp; try (with_reducible rfl))
            try simp only [Act.put, sA, sZ, sS]
            refine tk 11 ?_ rfl ?_ ?_; rotate_left; focus (intro w hSw; clear hSw; go_simp; try (with_reducible rfl))
            try simp only [Act.put, sA, sZ, sS]
            refine tk 12 ?_ rfl ?_ ?_; rotate_left
            · intro wl hSw
              have hSw : Keep _ wl := hSw
              have k0 : wl.cell? ⟨wi.heap.size, 1, none⟩ = some (.int .i64 (-1)) := (hSw _ (.tail _ (.head _))).1
              clear hSw
              go_simp
              try (with_reducible rfl)
            try simp only [Act.put, sA, sZ, sS]
            refine tk 13 ?_ rfl ?_ ?_; rotate_left; focus (intro w hSw; clear hSw; go_simp; try (with_reducible rfl))
            try simp only [Act.put, sA, sZ, sS]
            refine tk 14 ?_ rfl ?_ ?_; rotate_left; focus (intro w hSw; clear hSw; go_simp; try (with_reducible rfl))
            try simp only [Act.put, sA, sZ, sS]
            refine tu 15 rfl ?_
            try simp only [Act.put, sA, sZ, sS]
            refine tu 16 rfl ?_
            try simp only [Act.put, sA, sZ, sS]
            refine tu 17 rfl ?_
            try simp only [Act.put, sA, sZ, sS]
            refine tu 18 rfl ?_
            try simp only [Act.put, sA, sZ, sS]
            refine tu 19 rfl ?_
            try simp only [Act.put, sA, sZ, sS]
            refine tk 20 ?_ rfl ?_ ?_; rotate_left; focus (intro w hSw; clear hSw; go_simp; try (with_reducible rfl))
            try simp only [Act.put, sA, sZ, sS]
            refine tk 21 ?_ rfl ?_ ?_; rotate_left; focus (intro w hSw; clear hSw; go_simp; try (with_reducible rfl))
            try simp only [Act.put, sA, sZ, sS]
            refine tk 22 ?_ rfl ?_ ?_; rotate_left; focus (intro w hSw; clear hSw; go_simp; try (with_reducible rfl))
            try simp only [Act.put, sA, sZ, sS]
            refine tk 23 ?_ rfl ?_ ?_; rotate_left
            · intro wl hSw
              have hSw : Keep _ wl := hSw
              have k0 : wl.cell? ⟨wi.heap.size, 0, none⟩ = some (.int .i64 (-1)) := (hSw _ (.head _)).1
              have k1 : wl.cell? ⟨wi.heap.size, 1, none⟩ = some (.int .i64 (-1)) := (hSw _ (.tail _ (.head _))).1
              clear hSw
              go_simp
              try (with_reducible rfl)
            try simp only [Act.put, sA, sZ, sS]
            refine wpAnyH_ready (rs := [24]) (by kernel_rfl) (by simp) ?_
            refine AllReadyH.cons (List.getElem?_toArray.trans rfl) (fun K hK => ?_) AllReadyH.nil
            go_simp
            refine (nowhere_any _).mono ?_
            rintro e w_24 ⟨rfl, b_24⟩
            try go_wp2_with fail
            have V_24 := Lib.hid (V3d.out.go b_24)
            refine hK.out _ _ (hHeld.go b_24) (fun hHeld => ?_)
            clear hK K
            try simp only [Act.put, sA, sZ, sS]
            refine tk 25 ?_ rfl ?_ ?_; rotate_left; focus (intro w hSw; clear hSw; go_simp; try (with_reducible rfl))
            try simp only [Act.put, sA, sZ, sS]
            refine tk 26 ?_ rfl ?_ ?_; rotate_left; focus (intro w hSw; clear hSw; go_simp; try (with_reducible rfl))
            try simp only [Act.put, sA, sZ, sS]
            refine wpAnyH_done (by kernel_rfl) ?_ _
            go_wp2_with fail
            go_meet
            exact ⟨by rw [HV.out]; rfl, V_24.out⟩
          · have f1 : (p2 != -1) = true := bne_yes h2
            have f2 : (p2 == -1) = false := beq_no h2
            by_cases t2 : 0 ≤ p2 ∧ p2 < (y.n : Int)
            · have S2 := Lib.hid (show stB y.n p2 = true from decide_eq_true t2)
              have HV := Lib.hid (show ok = true by rw [HOK.out]; exact okP_mk ⟨by have := HAN.out; constructor <;> omega, by have := HBN.out; constructor <;> omega⟩ (fun e => h2 (congrArg Prod.snd e)))
              clear t2
              have hKp : Keep [(⟨wi.heap.size, 0, none⟩, .int .i64 (-1)), (⟨wi.heap.size, 1, none⟩, .int .i64 p2), (⟨w.heap.size, 0, none⟩, .int .i64 A.lt), (⟨w.heap.size, 1, none⟩, .int .i64 A.st), (⟨w.heap.size, 2, none⟩, .slice x.A x.n x.c), (⟨w.heap.size, 3, none⟩, .slice x.B x.m x.d), (⟨w.heap.size + 1, 0, none⟩, .int .i64 B.lt), (⟨w.heap.size + 1, 1, none⟩, .int .i64 B.st), (⟨w.heap.size + 1, 2, none⟩, .slice y.A y.n y.c), (⟨w.heap.size + 1, 3, none⟩, .slice y.B y.m y.d)] wx := List.forall_mem_cons.2 ⟨⟨(V3.out.box_at (i := 0) (j := 0) rfl rfl).1, (V3.out.box_at (i := 0) (j := 0) rfl rfl).2.2⟩, List.forall_mem_cons.2 ⟨⟨(V3.out.box_at (i := 0) (j := 1) rfl rfl).1, (V3.out.box_at (i := 0) (j := 1) rfl rfl).2.2⟩, List.forall_mem_cons.2 ⟨⟨(V3.out.box_at (i := 2) (j := 0) rfl rfl).1, (V3.out.box_at (i := 2) (j := 0) rfl rfl).2.2⟩, List.forall_mem_cons.2 ⟨⟨(V3.out.box_at (i := 2) (j := 1) rfl rfl).1, (V3.out.box_at (i := 2) (j := 1) rfl rfl).2.2⟩, List.forall_mem_cons.2 ⟨⟨(V3.out.box_at (i := 2) (j := 2) rfl rfl).1, (V3.out.box_at (i := 2) (j := 2) rfl rfl).2.2⟩, List.forall_mem_cons.2 ⟨⟨(V3.out.box_at (i := 2) (j := 3) rfl rfl).1, (V3.out.box_at (i := 2) (j := 3) rfl rfl).2.2⟩, List.forall_mem_cons.2 ⟨⟨(V3.out.box_at (i := 1) (j := 0) rfl rfl).1, (V3.out.box_at (i := 1) (j := 0) rfl rfl).2.2⟩, List.forall_mem_cons.2 ⟨⟨(V3.out.box_at (i := 1) (j := 1) rfl rfl).1, (V3.out.box_at (i := 1) (j := 1) rfl rfl).2.2⟩, List.forall_mem_cons.2 ⟨⟨(V3.out.box_at (i := 1) (j := 2) rfl rfl).1, (V3.out.box_at (i := 1) (j := 2) rfl rfl).2.2⟩, List.forall_mem_cons.2 ⟨⟨(V3.out.box_at (i := 1) (j := 3) rfl rfl).1, (V3.out.box_at (i := 1) (j := 3) rfl rfl).2.2⟩, fun _ h => by simp at h⟩⟩⟩⟩⟩⟩⟩⟩⟩⟩
              refine wp_region_held_drew (S := Keep _) (by kernel_rfl) hKp.drew (fun hHeld => ?_)
              have V3d := Lib.hid (V3.out.go (bdrew _))
              refine tk 0 ?_ rfl ?_ ?_; rotate_left; focus (intro w hSw; clear hSw; go_simp; try (with_reducible rfl))
              try simp only [Act.put, sA, sZ, sS]
              refine tk 1 ?_ rfl ?_ ?_; rotate_left
              · intro wl hSw
                have hSw : Keep _ wl := hSw
                have k0 : wl.cell? ⟨wi.heap.size, 0, none⟩ = some (.int .i64 (-1)) := (hSw _ (.head _)).1
                clear hSw
                go_simp
                try (with_reducible rfl)
              try simp only [Act.put, sA, sZ, sS]
              refine tk 2 ?_ rfl ?_ ?_; rotate_left; focus (intro w hSw; clear hSw; go_simp; try (with_reducible rfl))
              try simp only [Act.put, sA, sZ, sS]
              refine tk 3 ?_ rfl ?_ ?_; rotate_left; focus (intro w hSw; clear hSw; go_simp; try (with_reducible rfl))
              try simp only [Act.put, sA, sZ, sS]
              refine tu 4 rfl ?_
              try simp only [Act.put, sA, sZ, sS]
              refine tu 5 rfl ?_
              try simp only [Act.put, sA, sZ, sS]
              refine tu 6 rfl ?_
              try simp only [Act.put, sA, sZ, sS]
              refine tu 7 rfl ?_
              try simp only [Act.put, sA, sZ, sS]
              refine tu 8 rfl ?_
              try simp only [Act.put, sA, sZ, sS]
              refine tk 9 ?_ rfl ?_ ?_; rotate_left; focus (intro w hSw; clear hSw; go_simp; try (with_reducible rfl))
              try simp only [Act.put, sA, sZ, sS]
              refine tk 10 ?_ rfl ?_ ?_; rotate_left; focus (intro w hSw; clear hSw; go_simp; try (with_reducible rfl))
              try simp only [Act.put, sA, sZ, sS]
              refine tk 11 ?_ rfl ?_ ?_; rotate_left; focus (intro w hSw; clear hSw; go_simp; try (with_reducible rfl))
              try simp only [Act.put, sA, sZ, sS]
              refine tk 12 ?_ rfl ?_ ?_; rotate_left
              · intro wl hSw
                have hSw : Keep _ wl := hSw
                have k0 : wl.cell? ⟨wi.heap.size, 1, none⟩ = some (.int .i64 p2) := (hSw _ (.tail _ (.head _))).1
                clear hSw
                go_simp
                try (with_reducible rfl)
              try simp only [Act.put, sA, sZ, sS]
              refine tk 13 ?_ rfl ?_ ?_; rotate_left; focus (intro w hSw; clear hSw; go_simp; try (with_reducible rfl))
              try simp only [Act.put, sA, sZ, sS]
              refine tk 14 ?_ rfl ?_ ?_; rotate_left; focus (intro w hSw; clear hSw; go_simp; try (with_reducible rfl))
              try simp only [Act.put, sA, sZ, sS]
              refine tk 15 ?_ rfl ?_ ?_; rotate_left
              · intro wl hSw
                have hSw : Keep _ wl := hSw
                have k0 : wl.cell? ⟨w.heap.size + 1, 0, none⟩ = some (.int .i64 B.lt) := (hSw _ (.tail _ (.tail _ (.tail _ (.tail _ (.tail _ (.tail _ (.head _)))))))).1
                have k1 : wl.cell? ⟨w.heap.size + 1, 1, none⟩ = some (.int .i64 B.st) := (hSw _ (.tail _ (.tail _ (.tail _ (.tail _ (.tail _ (.tail _ (.tail _ (.head _))))))))).1
                have k2 : wl.cell? ⟨w.heap.size + 1, 2, none⟩ = some (.slice y.A y.n y.c) := (hSw _ (.tail _ (.tail _ (.tail _ (.tail _ (.tail _ (.tail _ (.tail _ (.tail _ (.head _)))))))))).1
                have k3 : wl.cell? ⟨w.heap.size + 1, 3, none⟩ = some (.slice y.B y.m y.d) := (hSw _ (.tail _ (.tail _ (.tail _ (.tail _ (.tail _ (.tail _ (.tail _ (.tail _ (.tail _ (.head _))))))))))).1
                clear hSw
                go_simp
                try (with_reducible rfl)
              try simp only [Act.put, sA, sZ, sS]
              refine tk 16 ?_ rfl ?_ ?_; rotate_left; focus (intro w hSw; clear hSw; go_simp; try (with_reducible rfl))
              try simp only [Act.put, sA, sZ, sS]
              refine tk 17 ?_ rfl ?_ ?_; rotate_left
              · intro wl hSw
                have hSw : Keep _ wl := hSw
                have k0 : wl.cell? ⟨wi.heap.size, 1, none⟩ = some (.int .i64 p2) := (hSw _ (.tail _ (.head _))).1
                clear hSw
                go_simp
                try (with_reducible rfl)
              try simp only [Act.put, sA, sZ, sS]
              refine wpAnyH_ready (rs := [18]) (by kernel_rfl) (by simp) ?_
              refine AllReadyH.cons (List.getElem?_toArray.trans rfl) (fun K hK => ?_) AllReadyH.nil
              go_simp
              refine (isState_any _ _ y.A y.n y.c y.B y.m y.d p2 _ hyb).mono ?_
              rintro e w_18 ⟨rfl, b_18⟩
              try go_wp2_with fail
              rw [S2.out]
              have V_18 := Lib.hid (V3d.out.go b_18)
              refine hK.out _ _ (hHeld.go b_18) (fun hHeld => ?_)
              clear hK K
              try simp only [Act.put, sA, sZ, sS]
              refine tk 19 ?_ rfl ?_ ?_; rotate_left; focus (intro w hSw; clear hSw; go_simp; try (with_reducible rfl))
              try simp only [Act.put, sA, sZ, sS]
              refine tk 20 ?_ rfl ?_ ?_; rotate_left; focus (intro w hSw; clear hSw; go_simp; try (with_reducible rfl))
              try simp only [Act.put, sA, sZ, sS]
              refine tk 21 ?_ rfl ?_ ?_; rotate_left; focus (intro w hSw; clear hSw; go_simp; try (with_reducible rfl))
              try simp only [Act.put, sA, sZ, sS]
              refine tk 22 ?_ rfl ?_ ?_; rotate_left; focus (intro w hSw; clear hSw; go_simp; try (with_reducible rfl))
              try simp only [Act.put, sA, sZ, sS]
              refine tk 23 ?_ rfl ?_ ?_; rotate_left
              · intro wl hSw
                have hSw : Keep _ wl := hSw
                have k0 : wl.cell? ⟨wi.heap.size, 0, none⟩ = some (.int .i64 (-1)) := (hSw _ (.head _)).1
                have k1 : wl.cell? ⟨wi.heap.size, 1, none⟩ = some (.int .i64 p2) := (hSw _ (.tail _ (.head _))).1
                clear hSw
                go_simp
                try (with_reducible rfl)
              try simp only [Act.put, sA, sZ, sS]
              refine wpAnyH_ready (rs := [24]) (by kernel_rfl) (by simp) ?_
              refine AllReadyH.cons (List.getElem?_toArray.trans rfl) (fun K hK => ?_) AllReadyH.nil
              go_simp
              refine (nowhere_any _).mono ?_
              rintro e w_18_24 ⟨rfl, b_18_24⟩
              try go_wp2_with fail
              have V_18_24 := Lib.hid (V_18.out.go b_18_24)
              refine hK.out _ _ (hHeld.go b_18_24) (fun hHeld => ?_)
              clear hK K
              try simp only [Act.put, sA, sZ, sS]
              refine tk 25 ?_ rfl ?_ ?_; rotate_left; focus (intro w hSw; clear hSw; go_simp; try (with_reducible rfl))
              try simp only [Act.put, sA, sZ, sS]
              refine tk 26 ?_ rfl ?_ ?_; rotate_left; focus (intro w hSw; clear hSw; go_simp; try (with_reducible rfl))
              try simp only [Act.put, sA, sZ, sS]
              refine wpAnyH_done (by kernel_rfl) ?_ _
              go_wp2_with fail
              go_meet
              exact ⟨by rw [HV.out]; rfl, V_18_24.out⟩
            · have S2 := Lib.hid (show stB y.n p2 = false from decide_eq_false t2)
              have HV := Lib.hid (show ok = false by rw [HOK.out]; exact okP_no (fun h => t2 (by have := h.2; have := HBN.out; dsimp only at *; omega)))
              clear t2
              have hKp : Keep [(⟨wi.heap.size, 0, none⟩, .int .i64 (-1)), (⟨wi.heap.size, 1, none⟩, .int .i64 p2), (⟨w.heap.size, 0, none⟩, .int .i64 A.lt), (⟨w.heap.size, 1, none⟩, .int .i64 A.st), (⟨w.heap.size, 2, none⟩, .slice x.A x.n x.c), (⟨w.heap.size, 3, none⟩, .slice x.B x.m x.d), (⟨w.heap.size + 1, 0, none⟩, .int .i64 B.lt), (⟨w.heap.size + 1, 1, none⟩, .int .i64 B.st), (⟨w.heap.size + 1, 2, none⟩, .slice y.A y.n y.c), (⟨w.heap.size + 1, 3, none⟩, .slice y.B y.m y.d)] wx := List.forall_mem_cons.2 ⟨⟨(V3.out.box_at (i := 0) (j := 0) rfl rfl).1, (V3.out.box_at (i := 0) (j := 0) rfl rfl).2.2⟩, List.forall_mem_cons.2 ⟨⟨(V3.out.box_at (i := 0) (j := 1) rfl rfl).1, (V3.out.box_at (i := 0) (j := 1) rfl rfl).2.2⟩, List.forall_mem_cons.2 ⟨⟨(V3.out.box_at (i := 2) (j := 0) rfl rfl).1, (V3.out.box_at (i := 2) (j := 0) rfl rfl).2.2⟩, List.forall_mem_cons.2 ⟨⟨(V3.out.box_at (i := 2) (j := 1) rfl rfl).1, (V3.out.box_at (i := 2) (j := 1) rfl rfl).2.2⟩, List.forall_mem_cons.2 ⟨⟨(V3.out.box_at (i := 2) (j := 2) rfl rfl).1, (V3.out.box_at (i := 2) (j := 2) rfl rfl).2.2⟩, List.forall_mem_cons.2 ⟨⟨(V3.out.box_at (i := 2) (j := 3) rfl rfl).1, (V3.out.box_at (i := 2) (j := 3) rfl rfl).2.2⟩, List.forall_mem_cons.2 ⟨⟨(V3.out.box_at (i := 1) (j := 0) rfl rfl).1, (V3.out.box_at (i := 1) (j := 0) rfl rfl).2.2⟩, List.forall_mem_cons.2 ⟨⟨(V3.out.box_at (i := 1) (j := 1) rfl rfl).1, (V3.out.box_at (i := 1) (j := 1) rfl rfl).2.2⟩, List.forall_mem_cons.2 ⟨⟨(V3.out.box_at (i := 1) (j := 2) rfl rfl).1, (V3.out.box_at (i := 1) (j := 2) rfl rfl).2.2⟩, List.forall_mem_cons.2 ⟨⟨(V3.out.box_at (i := 1) (j := 3) rfl rfl).1, (V3.out.box_at (i := 1) (j := 3) rfl rfl).2.2⟩, fun _ h => by simp at h⟩⟩⟩⟩⟩⟩⟩⟩⟩⟩
              refine wp_region_held_drew (S := Keep _) (by kernel_rfl) hKp.drew (fun hHeld => ?_)
              have V3d := Lib.hid (V3.out.go (bdrew _))
              refine tk 0 ?_ rfl ?_ ?_; rotate_left; focus (intro w hSw; clear hSw; go_simp; try (with_reducible rfl))
              try simp only [Act.put, sA, sZ, sS]
              refine tk 1 ?_ rfl ?_ ?_; rotate_left
              · intro wl hSw
                have hSw : Keep _ wl := hSw
                have k0 : wl.cell? ⟨wi.heap.size, 0, none⟩ = some (.int .i64 (-1)) := (hSw _ (.head _)).1
                clear hSw
                go_simp
                try (with_reducible rfl)
              try simp only [Act.put, sA, sZ, sS]
              refine tk 2 ?_ rfl ?_ ?_; rotate_left; focus (intro w hSw; clear hSw; go_simp; try (with_reducible rfl))
              try simp only [Act.put, sA, sZ, sS]
              refine tk 3 ?_ rfl ?_ ?_; rotate_left; focus (intro w hSw; clear hSw; go_simp; try (with_reducible rfl))
              try simp only [Act.put, sA, sZ, sS]
              refine tu 4 rfl ?_
              try simp only [Act.put, sA, sZ, sS]
              refine tu 5 rfl ?_
              try simp only [Act.put, sA, sZ, sS]
              refine tu 6 rfl ?_
              try simp only [Act.put, sA, sZ, sS]
              refine tu 7 rfl ?_
              try simp only [Act.put, sA, sZ, sS]
              refine tu 8 rfl ?_
              try simp only [Act.put, sA, sZ, sS]
              refine tk 9 ?_ rfl ?_ ?_; rotate_left; focus (intro w hSw; clear hSw; go_simp; try (with_reducible rfl))
              try simp only [Act.put, sA, sZ, sS]
              refine tk 10 ?_ rfl ?_ ?_; rotate_left; focus (intro w hSw; clear hSw; go_simp; try (with_reducible rfl))
              try simp only [Act.put, sA, sZ, sS]
              refine tk 11 ?_ rfl ?_ ?_; rotate_left; focus (intro w hSw; clear hSw; go_simp; try (with_reducible rfl))
              try simp only [Act.put, sA, sZ, sS]
              refine tk 12 ?_ rfl ?_ ?_; rotate_left
              · intro wl hSw
                have hSw : Keep _ wl := hSw
                have k0 : wl.cell? ⟨wi.heap.size, 1, none⟩ = some (.int .i64 p2) := (hSw _ (.tail _ (.head _))).1
                clear hSw
                go_simp
                try (with_reducible rfl)
              try simp only [Act.put, sA, sZ, sS]
              refine tk 13 ?_ rfl ?_ ?_; rotate_left; focus (intro w hSw; clear hSw; go_simp; try (with_reducible rfl))
              try simp only [Act.put, sA, sZ, sS]
              refine tk 14 ?_ rfl ?_ ?_; rotate_left; focus (intro w hSw; clear hSw; go_simp; try (with_reducible rfl))
              try simp only [Act.put, sA, sZ, sS]
              refine tk 15 ?_ rfl ?_ ?_; rotate_left
              · intro wl hSw
                have hSw : Keep _ wl := hSw
                have k0 : wl.cell? ⟨w.heap.size + 1, 0, none⟩ = some (.int .i64 B.lt) := (hSw _ (.tail _ (.tail _ (.tail _ (.tail _ (.tail _ (.tail _ (.head _)))))))).1
                have k1 : wl.cell? ⟨w.heap.size + 1, 1, none⟩ = some (.int .i64 B.st) := (hSw _ (.tail _ (.tail _ (.tail _ (.tail _ (.tail _ (.tail _ (.tail _ (.head _))))))))).1
                have k2 : wl.cell? ⟨w.heap.size + 1, 2, none⟩ = some (.slice y.A y.n y.c) := (hSw _ (.tail _ (.tail _ (.tail _ (.tail _ (.tail _ (.tail _ (.tail _ (.tail _ (.head _)))))))))).1
                have k3 : wl.cell? ⟨w.heap.size + 1, 3, none⟩ = some (.slice y.B y.m y.d) := (hSw _ (.tail _ (.tail _ (.tail _ (.tail _ (.tail _ (.tail _ (.tail _ (.tail _ (.tail _ (.head _))))))))))).1
                clear hSw
                go_simp
                try (with_reducible rfl)
              try simp only [Act.put, sA, sZ, sS]
              refine tk 16 ?_ rfl ?_ ?_; rotate_left; focus (intro w hSw; clear hSw; go_simp; try (with_reducible rfl))
              try simp only [Act.put, sA, sZ, sS]
              refine tk 17 ?_ rfl ?_ ?_; rotate_left
              · intro wl hSw
                have hSw : Keep _ wl := hSw
                have k0 : wl.cell? ⟨wi.heap.size, 1, none⟩ = some (.int .i64 p2) := (hSw _ (.tail _ (.head _))).1
                clear hSw
                go_simp
                try (with_reducible rfl)
              try simp only [Act.put, sA, sZ, sS]
              refine wpAnyH_ready (rs := [18]) (by kernel_rfl) (by simp) ?_
              refine AllReadyH.cons (List.getElem?_toArray.trans rfl) (fun K hK => ?_) AllReadyH.nil
              go_simp
              refine (isState_any _ _ y.A y.n y.c y.B y.m y.d p2 _ hyb).mono ?_
              rintro e w_18 ⟨rfl, b_18⟩
              try go_wp2_with fail
              rw [S2.out]
              have V_18 := Lib.hid (V3d.out.go b_18)
              refine hK.out _ _ (hHeld.go b_18) (fun hHeld => ?_)
              clear hK K
              try simp only [Act.put, sA, sZ, sS]
              refine tk 19 ?_ rfl ?_ ?_; rotate_left; focus (intro w hSw; clear hSw; go_simp; try (with_reducible rfl))
              try simp only [Act.put, sA, sZ, sS]
              refine tk 20 ?_ rfl ?_ ?_; rotate_left; focus (intro w hSw; clear hSw; go_simp; try (with_reducible rfl))
              try simp only [Act.put, sA, sZ, sS]
              refine tk 21 ?_ rfl ?_ ?_; rotate_left; focus (intro w hSw; clear hSw; go_simp; try (with_reducible rfl))
              try simp only [Act.put, sA, sZ, sS]
              refine tk 22 ?_ rfl ?_ ?_; rotate_left; focus (intro w hSw; clear hSw; go_simp; try (with_reducible rfl))
              try simp only [Act.put, sA, sZ, sS]
              refine tu 23 rfl ?_
              try simp only [Act.put, sA, sZ, sS]
              refine tu 24 rfl ?_
              try simp only [Act.put, sA, sZ, sS]
              refine tu 25 rfl ?_
              try simp only [Act.put, sA, sZ, sS]
              refine tk 26 ?_ rfl ?_ ?_; rotate_left; focus (intro w hSw; clear hSw; go_simp; try (with_reducible rfl))
              try simp only [Act.put, sA, sZ, sS]
              refine wpAnyH_done (by kernel_rfl) ?_ _
              go_wp2_with fail
              go_meet
              exact ⟨by rw [HV.out]; rfl, V_18.out⟩
        · have g1 : (p1 != -1) = true := bne_yes h1
          have g2 : (p1 == -1) = false := beq_no h1
          by_cases t1 : 0 ≤ p1 ∧ p1 < (x.n : Int)
          · have S1 := Lib.hid (show stB x.n p1 = true from decide_eq_true t1)
            by_cases h2 : p2 = -1
            · subst h2
              have HV := Lib.hid (show ok = true by rw [HOK.out]; exact okP_mk ⟨by have := HAN.out; constructor <;> omega, by constructor <;> omega⟩ (fun e => h1 (congrArg Prod.fst e)))
              have hKp : Keep [(⟨wi.heap.size, 0, none⟩, .int .i64 p1), (⟨wi.heap.size, 1, none⟩, .int .i64 (-1)), (⟨w.heap.size, 0, none⟩, .int .i64 A.lt), (⟨w.heap.size, 1, none⟩, .int .i64 A.st), (⟨w.heap.size, 2, none⟩, .slice x.A x.n x.c), (⟨w.heap.size, 3, none⟩, .slice x.B x.m x.d), (⟨w.heap.size + 1, 0, none⟩, .int .i64 B.lt), (⟨w.heap.size + 1, 1, none⟩, .int .i64 B.st), (⟨w.heap.size + 1, 2, none⟩, .slice y.A y.n y.c), (⟨w.heap.size + 1, 3, none⟩, .slice y.B y.m y.d)] wx := List.forall_mem_cons.2 ⟨⟨(V3.out.box_at (i := 0) (j := 0) rfl rfl).1, (V3.out.box_at (i := 0) (j := 0) rfl rfl).2.2⟩, List.forall_mem_cons.2 ⟨⟨(V3.out.box_at (i := 0) (j := 1) rfl rfl).1, (V3.out.box_at (i := 0) (j := 1) rfl rfl).2.2⟩, List.forall_mem_cons.2 ⟨⟨(V3.out.box_at (i := 2) (j := 0) rfl rfl).1, (V3.out.box_at (i := 2) (j := 0) rfl rfl).2.2⟩, List.forall_mem_cons.2 ⟨⟨(V3.out.box_at (i := 2) (j := 1) rfl rfl).1, (V3.out.box_at (i := 2) (j := 1) rfl rfl).2.2⟩, List.forall_mem_cons.2 ⟨⟨(V3.out.box_at (i := 2) (j := 2) rfl rfl).1, (V3.out.box_at (i := 2) (j := 2) rfl rfl).2.2⟩, List.forall_mem_cons.2 ⟨⟨(V3.out.box_at (i := 2) (j := 3) rfl rfl).1, (V3.out.box_at (i := 2) (j := 3) rfl rfl).2.2⟩, List.forall_mem_cons.2 ⟨⟨(V3.out.box_at (i := 1) (j := 0) rfl rfl).1, (V3.out.box_at (i := 1) (j := 0) rfl rfl).2.2⟩, List.forall_mem_cons.2 ⟨⟨(V3.out.box_at (i := 1) (j := 1) rfl rfl).1, (V3.out.box_at (i := 1) (j := 1) rfl rfl).2.2⟩, List.forall_mem_cons.2 ⟨⟨(V3.out.box_at (i := 1) (j := 2) rfl rfl).1, (V3.out.box_at (i := 1) (j := 2) rfl rfl).2.2⟩, List.forall_mem_cons.2 ⟨⟨(V3.out.box_at (i := 1) (j := 3) rfl rfl).1, (V3.out.box_at (i := 1) (j := 3) rfl rfl).2.2⟩, fun _ h => by simp at h⟩⟩⟩⟩⟩⟩⟩⟩⟩⟩
              refine wp_region_held_drew (S := Keep _) (by kernel_rfl) hKp.drew (fun hHeld => ?_)
              have V3d := Lib.hid (V3.out.go (bdrew _))
              refine tk 0 ?_ rfl ?_ ?_; rotate_left; focus (intro w hSw; clear hSw; go_simp; try (with_reducible rfl))
              try simp only [Act.put, sA, sZ, sS]
              refine tk 1 ?_ rfl ?_ ?_; rotate_left
              · intro wl hSw
                have hSw : Keep _ wl := hSw
                have k0 : wl.cell? ⟨wi.heap.size, 0, none⟩ = some (.int .i64 p1) := (hSw _ (.head _)).1
                clear hSw
                go_simp
                try (with_reducible rfl)
              try simp only [Act.put, sA, sZ, sS]
              refine tk 2 ?_ rfl ?_ ?_; rotate_left; focus (intro w hSw; clear hSw; go_simp; try (with_reducible rfl))
              try simp only [Act.put, sA, sZ, sS]
              refine tk 3 ?_ rfl ?_ ?_; rotate_left; focus (intro w hSw; clear hSw; go_simp; try (with_reducible rfl))
              try simp only [Act.put, sA, sZ, sS]
              refine tk 4 ?_ rfl ?_ ?_; rotate_left
              · intro wl hSw
                have hSw : Keep _ wl := hSw
                have k0 : wl.cell? ⟨w.heap.size, 0, none⟩ = some (.int .i64 A.lt) := (hSw _ (.tail _ (.tail _ (.head _)))).1
                have k1 : wl.cell? ⟨w.heap.size, 1, none⟩ = some (.int .i64 A.st) := (hSw _ (.tail _ (.tail _ (.tail _ (.head _))))).1
                have k2 : wl.cell? ⟨w.heap.size, 2, none⟩ = some (.slice x.A x.n x.c) := (hSw _ (.tail _ (.tail _ (.tail _ (.tail _ (.head _)))))).1
                have k3 : wl.cell? ⟨w.heap.size, 3, none⟩ = some (.slice x.B x.m x.d) := (hSw _ (.tail _ (.tail _ (.tail _ (.tail _ (.tail _ (.head _))))))).1
                clear hSw
                go_simp
                try (with_reducible rfl)
              try simp only [Act.put, sA, sZ, sS]
              refine tk 5 ?_ rfl ?_ ?_; rotate_left; focus (intro w hSw; clear hSw; go_simp; try (with_reducible rfl))
              try simp only [Act.put, sA, sZ, sS]
              refine tk 6 ?_ rfl ?_ ?_; rotate_left
              · intro wl hSw
                have hSw : Keep _ wl := hSw
                have k0 : wl.cell? ⟨wi.heap.size, 0, none⟩ = some (.int .i64 p1) := (hSw _ (.head _)).1
                clear hSw
                go_simp
                try (with_reducible rfl)
              try simp only [Act.put, sA, sZ, sS]
              refine wpAnyH_ready (rs := [7]) (by kernel_rfl) (by simp) ?_
              refine AllReadyH.cons (List.getElem?_toArray.trans rfl) (fun K hK => ?_) AllReadyH.nil
              go_simp
              refine (isState_any _ _ x.A x.n x.c x.B x.m x.d p1 _ hxb).mono ?_
              rintro e w_7 ⟨rfl, b_7⟩
              try go_wp2_with fail
              rw [S1.out]
              have V_7 := Lib.hid (V3d.out.go b_7)
              refine hK.out _ _ (hHeld.go b_7) (fun hHeld => ?_)
              clear hK K
              try simp only [Act.put, sA, sZ, sS]
              refine tk 8 ?_ rfl ?_ ?_; rotate_left; focus (intro w hSw; clear hSw; go_simp; try (with_reducible rfl))
              try simp only [Act.put, sA, sZ, sS]
              refine tk 9 ?_ rfl ?_ ?_; rotate_left; focus (intro w hSw; clear hSw; go_simp; try (with_reducible rfl))
              try simp only [Act.put, sA, sZ, sS]
              refine tk 10 ?_ rfl ?_ ?_; rotate_left; focus (intro w hSw; clear hSw; go_simp; try (with_reducible rfl))
              try simp only [Act.put, sA, sZ, sS]
              refine tk 11 ?_ rfl ?_ ?_; rotate_left; focus (intro w hSw; clear hSw; go_simp; try (with_reducible rfl))
              try simp only [Act.put, sA, sZ, sS]
              refine tk 12 ?_ rfl ?_ ?_; rotate_left
              · intro wl hSw
                have hSw : Keep _ wl := hSw
                have k0 : wl.cell? ⟨wi.heap.size, 1, none⟩ = some (.int .i64 (-1)) := (hSw _ (.tail _ (.head _))).1
                clear hSw
                go_simp
                try (with_reducible rfl)
              try simp only [Act.put, sA, sZ, sS]
              refine tk 13 ?_ rfl ?_ ?_; rotate_left; focus (intro w hSw; clear hSw; go_simp; try (with_reducible rfl))
              try simp only [Act.put, sA, sZ, sS]
              refine tk 14 ?_ rfl ?_ ?_; rotate_left; focus (intro w hSw; clear hSw; go_simp; try (with_reducible rfl))
              try simp only [Act.put, sA, sZ, sS]
              refine tu 15 rfl ?_
              try simp only [Act.put, sA, sZ, sS]
              refine tu 16 rfl ?_
              try simp only [Act.put, sA, sZ, sS]
              refine tu 17 rfl ?_
              try simp only [Act.put, sA, sZ, sS]
              refine tu 18 rfl ?_
              try simp only [Act.put, sA, sZ, sS]
              refine tu 19 rfl ?_
              try simp only [Act.put, sA, sZ, sS]
              refine tk 20 ?_ rfl ?_ ?_; rotate_left; focus (intro w hSw; clear hSw; go_simp; try (with_reducible rfl))
              try simp only [Act.put, sA, sZ, sS]
              refine tk 21 ?_ rfl ?_ ?_; rotate_left; focus (intro w hSw; clear hSw; go_simp; try (with_reducible rfl))
              try simp only [Act.put, sA, sZ, sS]
              refine tk 22 ?_ rfl ?_ ?_; rotate_left; focus (intro w hSw; clear hSw; go_simp; try (with_reducible rfl))
              try simp only [Act.put, sA, sZ, sS]
              refine tk 23 ?_ rfl ?_ ?_; rotate_left
              · intro wl hSw
                have hSw : Keep _ wl := hSw
                have k0 : wl.cell? ⟨wi.heap.size, 0, none⟩ = some (.int .i64 p1) := (hSw _ (.head _)).1
                have k1 : wl.cell? ⟨wi.heap.size, 1, none⟩ = some (.int .i64 (-1)) := (hSw _ (.tail _ (.head _))).1
                clear hSw
                go_simp
                try (with_reducible rfl)
              try simp only [Act.put, sA, sZ, sS]
              refine wpAnyH_ready (rs := [24]) (by kernel_rfl) (by simp) ?_
              refine AllReadyH.cons (List.getElem?_toArray.trans rfl) (fun K hK => ?_) AllReadyH.nil
              go_simp
              refine (nowhere_any _).mono ?_
              rintro e w_7_24 ⟨rfl, b_7_24⟩
              try go_wp2_with fail
              have V_7_24 := Lib.hid (V_7.out.go b_7_24)
              refine hK.out _ _ (hHeld.go b_7_24) (fun hHeld => ?_)
              clear hK K
              try simp only [Act.put, sA, sZ, sS]
              refine tk 25 ?_ rfl ?_ ?_; rotate_left; focus (intro w hSw; clear hSw; go_simp; try (with_reducible rfl))
              try simp only [Act.put, sA, sZ, sS]
              refine tk 26 ?_ rfl ?_ ?_; rotate_left; focus (intro w hSw; clear hSw; go_simp; try (with_reducible rfl))
              try simp only [Act.put, sA, sZ, sS]
              refine wpAnyH_done (by kernel_rfl) ?_ _
              go_wp2_with fail
              go_meet
              exact ⟨by rw [HV.out]; rfl, V_7_24.out⟩
            · have f1 : (p2 != -1) = true := bne_yes h2
              have f2 : (p2 == -1) = false := beq_no h2
              by_cases t2 : 0 ≤ p2 ∧ p2 < (y.n : Int)
              · have S2 := Lib.hid (show stB y.n p2 = true from decide_eq_true t2)
                have HV := Lib.hid (show ok = true by rw [HOK.out]; exact okP_mk ⟨by have := HAN.out; constructor <;> omega, by have := HBN.out; constructor <;> omega⟩ (fun e => h2 (congrArg Prod.snd e)))
                clear t2
                have hKp : Keep [(⟨wi.heap.size, 0, none⟩, .int .i64 p1), (⟨wi.heap.size, 1, none⟩, .int .i64 p2), (⟨w.heap.size, 0, none⟩, .int .i64 A.lt), (⟨w.heap.size, 1, none⟩, .int .i64 A.st), (⟨w.heap.size, 2, none⟩, .slice x.A x.n x.c), (⟨w.heap.size, 3, none⟩, .slice x.B x.m x.d), (⟨w.heap.size + 1, 0, none⟩, .int .i64 B.lt), (⟨w.heap.size + 1, 1, none⟩, .int .i64 B.st), (⟨w.heap.size + 1, 2, none⟩, .slice y.A y.n y.c), (⟨w.heap.size + 1, 3, none⟩, .slice y.B y.m y.d)] wx := List.forall_mem_cons.2 ⟨⟨(V3.out.box_at (i := 0) (j := 0) rfl rfl).1, (V3.out.box_at (i := 0) (j := 0) rfl rfl).2.2⟩, List.forall_mem_cons.2 ⟨⟨(V3.out.box_at (i := 0) (j := 1) rfl rfl).1, (V3.out.box_at (i := 0) (j := 1) rfl rfl).2.2⟩, List.forall_mem_cons.2 ⟨⟨(V3.out.box_at (i := 2) (j := 0) rfl rfl).1, (V3.out.box_at (i := 2) (j := 0) rfl rfl).2.2⟩, List.forall_mem_cons.2 ⟨⟨(V3.out.box_at (i := 2) (j := 1) rfl rfl).1, (V3.out.box_at (i := 2) (j := 1) rfl rfl).2.2⟩, List.forall_mem_cons.2 ⟨⟨(V3.out.box_at (i := 2) (j := 2) rfl rfl).1, (V3.out.box_at (i := 2) (j := 2) rfl rfl).2.2⟩, List.forall_mem_cons.2 ⟨⟨(V3.out.box_at (i := 2) (j := 3) rfl rfl).1, (V3.out.box_at (i := 2) (j := 3) rfl rfl).2.2⟩, List.forall_mem_cons.2 ⟨⟨(V3.out.box_at (i := 1) (j := 0) rfl rfl).1, (V3.out.box_at (i := 1) (j := 0) rfl rfl).2.2⟩, List.forall_mem_cons.2 ⟨⟨(V3.out.box_at (i := 1) (j := 1) rfl rfl).1, (V3.out.box_at (i := 1) (j := 1) rfl rfl).2.2⟩, List.forall_mem_cons.2 ⟨⟨(V3.out.box_at (i := 1) (j := 2) rfl rfl).1, (V3.out.box_at (i := 1) (j := 2) rfl rfl).2.2⟩, List.forall_mem_cons.2 ⟨⟨(V3.out.box_at (i := 1) (j := 3) rfl rfl).1, (V3.out.box_at (i := 1) (j := 3) rfl rfl).2.2⟩, fun _ h => by simp at h⟩⟩⟩⟩⟩⟩⟩⟩⟩⟩
                refine wp_region_held_drew (S := Keep _) (by kernel_rfl) hKp.drew (fun hHeld => ?_)
                have V3d := Lib.hid (V3.out.go (bdrew _))
                refine tk 0 ?_ rfl ?_ ?_; rotate_left; focus (intro w hSw; clear hSw; go_simp; try (with_reducible rfl))
                try simp only [Act.put, sA, sZ, sS]
                refine tk 1 ?_ rfl ?_ ?_; rotate_left
                · intro wl hSw
                  have hSw : Keep _ wl := hSw
                  have k0 : wl.cell? ⟨wi.heap.size, 0, none⟩ = some (.int .i64 p1) := (hSw _ (.head _)).1
                  clear hSw
                  go_simp
                  try (with_reducible rfl)
                try simp only [Act.put, sA, sZ, sS]
                refine tk 2 ?_ rfl ?_ ?_; rotate_left; focus (intro w hSw; clear hSw; go_simp; try (with_reducible rfl))
                try simp only [Act.put, sA, sZ, sS]
                refine tk 3 ?_ rfl ?_ ?_; rotate_left; focus (intro w hSw; clear hSw; go_simp; try (with_reducible rfl))
                try simp only [Act.put, sA, sZ, sS]
                refine tk 4 ?_ rfl ?_ ?_; rotate_left
                · intro wl hSw
                  have hSw : Keep _ wl := hSw
                  have k0 : wl.cell? ⟨w.heap.size, 0, none⟩ = some (.int .i64 A.lt) := (hSw _ (.tail _ (.tail _ (.head _)))).1
                  have k1 : wl.cell? ⟨w.heap.size, 1, none⟩ = some (.int .i64 A.st) := (hSw _ (.tail _ (.tail _ (.tail _ (.head _))))).1
                  have k2 : wl.cell? ⟨w.heap.size, 2, none⟩ = some (.slice x.A x.n x.c) := (hSw _ (.tail _ (.tail _ (.tail _ (.tail _ (.head _)))))).1
                  have k3 : wl.cell? ⟨w.heap.size, 3, none⟩ = some (.slice x.B x.m x.d) := (hSw _ (.tail _ (.tail _ (.tail _ (.tail _ (.tail _ (.head _))))))).1
                  clear hSw
                  go_simp
                  try (with_reducible rfl)
                try simp only [Act.put, sA, sZ, sS]
                refine tk 5 ?_ rfl ?_ ?_; rotate_left; focus (intro w hSw; clear hSw; go_simp; try (with_reducible rfl))
                try simp only [Act.put, sA, sZ, sS]
                refine tk 6 ?_ rfl ?_ ?_; rotate_left
                · intro wl hSw
                  have hSw : Keep _ wl := hSw
                  have k0 : wl.cell? ⟨wi.heap.size, 0, none⟩ = some (.int .i64 p1) := (hSw _ (.head _)).1
                  clear hSw
                  go_simp
                  try (with_reducible rfl)
                try simp only [Act.put, sA, sZ, sS]
                refine wpAnyH_ready (rs := [7]) (by kernel_rfl) (by simp) ?_
                refine AllReadyH.cons (List.getElem?_toArray.trans rfl) (fun K hK => ?_) AllReadyH.nil
                go_simp
                refine (isState_any _ _ x.A x.n x.c x.B x.m x.d p1 _ hxb).mono ?_
                rintro e w_7 ⟨rfl, b_7⟩
                try go_wp2_with fail
                rw [S1.out]
                have V_7 := Lib.hid (V3d.out.go b_7)
                refine hK.out _ _ (hHeld.go b_7) (fun hHeld => ?_)
                clear hK K
                try simp only [Act.put, sA, sZ, sS]
                refine tk 8 ?_ rfl ?_ ?_; rotate_left; focus (intro w hSw; clear hSw; go_simp; try (with_reducible rfl))
                try simp only [Act.put, sA, sZ, sS]
                refine tk 9 ?_ rfl ?_ ?_; rotate_left; focus (intro w hSw; clear hSw; go_simp; try (with_reducible rfl))
                try simp only [Act.put, sA, sZ, sS]
                refine tk 10 ?_ rfl ?_ ?_; rotate_left; focus (intro w hSw; clear hSw; go_simp; try (with_reducible rfl))
                try simp only [Act.put, sA, sZ, sS]
                refine tk 11 ?_ rfl ?_ ?_; rotate_left; focus (intro w hSw; clear hSw; go_simp; try (with_reducible rfl))
                try simp only [Act.put, sA, sZ, sS]
                refine tk 12 ?_ rfl ?_ ?_; rotate_left
                · intro wl hSw
                  have hSw : Keep _ wl := hSw
                  have k0 : wl.cell? ⟨wi.heap.size, 1, none⟩ = some (.int .i64 p2) := (hSw _ (.tail _ (.head _))).1
                  clear hSw
                  go_simp
                  try (with_reducible rfl)
                try simp only [Act.put, sA, sZ, sS]
                refine tk 13 ?_ rfl ?_ ?_; rotate_left; focus (intro w hSw; clear hSw; go_simp; try (with_reducible rfl))
                try simp only [Act.put, sA, sZ, sS]
                refine tk 14 ?_ rfl ?_ ?_; rotate_left; focus (intro w hSw; clear hSw; go_simp; try (with_reducible rfl))
                try simp only [Act.put, sA, sZ, sS]
                refine tk 15 ?_ rfl ?_ ?_; rotate_left
                · intro wl hSw
                  have hSw : Keep _ wl := hSw
                  have k0 : wl.cell? ⟨w.heap.size + 1, 0, none⟩ = some (.int .i64 B.lt) := (hSw _ (.tail _ (.tail _ (.tail _ (.tail _ (.tail _ (.tail _ (.head _)))))))).1
                  have k1 : wl.cell? ⟨w.heap.size + 1, 1, none⟩ = some (.int .i64 B.st) := (hSw _ (.tail _ (.tail _ (.tail _ (.tail _ (.tail _ (.tail _ (.tail _ (.head _))))))))).1
                  have k2 : wl.cell? ⟨w.heap.size + 1, 2, none⟩ = some (.slice y.A y.n y.c) := (hSw _ (.tail _ (.tail _ (.tail _ (.tail _ (.tail _ (.tail _ (.tail _ (.tail _ (.head _)))))))))).1
                  have k3 : wl.cell? ⟨w.heap.size + 1, 3, none⟩ = some (.slice y.B y.m y.d) := (hSw _ (.tail _ (.tail _ (.tail _ (.tail _ (.tail _ (.tail _ (.tail _ (.tail _ (.tail _ (.head _))))))))))).1
                  clear hSw
                  go_simp
                  try (with_reducible rfl)
                try simp only [Act.put, sA, sZ, sS]
                refine tk 16 ?_ rfl ?_ ?_; rotate_left; focus (intro w hSw; clear hSw; go_simp; try (with_reducible rfl))
                try simp only [Act.put, sA, sZ, sS]
                refine tk 17 ?_ rfl ?_ ?_; rotate_left
                · intro wl hSw
                  have hSw : Keep _ wl := hSw
                  have k0 : wl.cell? ⟨wi.heap.size, 1, none⟩ = some (.int .i64 p2) := (hSw _ (.tail _ (.head _))).1
                  clear hSw
                  go_simp
                  try (with_reducible rfl)
                try simp only [Act.put, sA, sZ, sS]
                refine wpAnyH_ready (rs := [18]) (by kernel_rfl) (by simp) ?_
                refine AllReadyH.cons (List.getElem?_toArray.trans rfl) (fun K hK => ?_) AllReadyH.nil
                go_simp
                refine (isState_any _ _ y.A y.n y.c y.B y.m y.d p2 _ hyb).mono ?_
                rintro e w_7_18 ⟨rfl, b_7_18⟩
                try go_wp2_with fail
                rw [S2.out]
                have V_7_18 := Lib.hid (V_7.out.go b_7_18)
                refine hK.out _ _ (hHeld.go b_7_18) (fun hHeld => ?_)
                clear hK K
                try simp only [Act.put, sA, sZ, sS]
                refine tk 19 ?_ rfl ?_ ?_; rotate_left; focus (intro w hSw; clear hSw; go_simp; try (with_reducible rfl))
                try simp only [Act.put, sA, sZ, sS]
                refine tk 20 ?_ rfl ?_ ?_; rotate_left; focus (intro w hSw; clear hSw; go_simp; try (with_reducible rfl))
                try simp only [Act.put, sA, sZ, sS]
                refine tk 21 ?_ rfl ?_ ?_; rotate_left; focus (intro w hSw; clear hSw; go_simp; try (with_reducible rfl))
                try simp only [Act.put, sA, sZ, sS]
                refine tk 22 ?_ rfl ?_ ?_; rotate_left; focus (intro w hSw; clear hSw; go_simp; try (with_reducible rfl))
                try simp only [Act.put, sA, sZ, sS]
                refine tk 23 ?_ rfl ?_ ?_; rotate_left
                · intro wl hSw
                  have hSw : Keep _ wl := hSw
                  have k0 : wl.cell? ⟨wi.heap.size, 0, none⟩ = some (.int .i64 p1) := (hSw _ (.head _)).1
                  have k1 : wl.cell? ⟨wi.heap.size, 1, none⟩ = some (.int .i64 p2) := (hSw _ (.tail _ (.head _))).1
                  clear hSw
                  go_simp
                  try (with_reducible rfl)
                try simp only [Act.put, sA, sZ, sS]
                refine wpAnyH_ready (rs := [24]) (by kernel_rfl) (by simp) ?_
                refine AllReadyH.cons (List.getElem?_toArray.trans rfl) (fun K hK => ?_) AllReadyH.nil
                go_simp
                refine (nowhere_any _).mono ?_
                rintro e w_7_18_24 ⟨rfl, b_7_18_24⟩
                try go_wp2_with fail
                have V_7_18_24 := Lib.hid (V_7_18.out.go b_7_18_24)
                refine hK.out _ _ (hHeld.go b_7_18_24) (fun hHeld => ?_)
                clear hK K
                try simp only [Act.put, sA, sZ, sS]
                refine tk 25 ?_ rfl ?_ ?_; rotate_left; focus (intro w hSw; clear hSw; go_simp; try (with_reducible rfl))
                try simp only [Act.put, sA, sZ, sS]
                refine tk 26 ?_ rfl ?_ ?_; rotate_left; focus (intro w hSw; clear hSw; go_simp; try (with_reducible rfl))
                try simp only [Act.put, sA, sZ, sS]
                refine wpAnyH_done (by kernel_rfl) ?_ _
                go_wp2_with fail
                go_meet
                exact ⟨by rw [HV.out]; rfl, V_7_18_24.out⟩
              · have S2 := Lib.hid (show stB y.n p2 = false from decide_eq_false t2)
                have HV := Lib.hid (show ok = false by rw [HOK.out]; exact okP_no (fun h => t2 (by have := h.2; have := HBN.out; dsimp only at *; omega)))
                clear t2
                have hKp : Keep [(⟨wi.heap.size, 0, none⟩, .int .i64 p1), (⟨wi.heap.size, 1, none⟩, .int .i64 p2), (⟨w.heap.size, 0, none⟩, .int .i64 A.lt), (⟨w.heap.size, 1, none⟩, .int .i64 A.st), (⟨w.heap.size, 2, none⟩, .slice x.A x.n x.c), (⟨w.heap.size, 3, none⟩, .slice x.B x.m x.d), (⟨w.heap.size + 1, 0, none⟩, .int .i64 B.lt), (⟨w.heap.size + 1, 1, none⟩, .int .i64 B.st), (⟨w.heap.size + 1, 2, none⟩, .slice y.A y.n y.c), (⟨w.heap.size + 1, 3, none⟩, .slice y.B y.m y.d)] wx := List.forall_mem_cons.2 ⟨⟨(V3.out.box_at (i := 0) (j := 0) rfl rfl).1, (V3.out.box_at (i := 0) (j := 0) rfl rfl).2.2⟩, List.forall_mem_cons.2 ⟨⟨(V3.out.box_at (i := 0) (j := 1) rfl rfl).1, (V3.out.box_at (i := 0) (j := 1) rfl rfl).2.2⟩, List.forall_mem_cons.2 ⟨⟨(V3.out.box_at (i := 2) (j := 0) rfl rfl).1, (V3.out.box_at (i := 2) (j := 0) rfl rfl).2.2⟩, List.forall_mem_cons.2 ⟨⟨(V3.out.box_at (i := 2) (j := 1) rfl rfl).1, (V3.out.box_at (i := 2) (j := 1) rfl rfl).2.2⟩, List.forall_mem_cons.2 ⟨⟨(V3.out.box_at (i := 2) (j := 2) rfl rfl).1, (V3.out.box_at (i := 2) (j := 2) rfl rfl).2.2⟩, List.forall_mem_cons.2 ⟨⟨(V3.out.box_at (i := 2) (j := 3) rfl rfl).1, (V3.out.box_at (i := 2) (j := 3) rfl rfl).2.2⟩, List.forall_mem_cons.2 ⟨⟨(V3.out.box_at (i := 1) (j := 0) rfl rfl).1, (V3.out.box_at (i := 1) (j := 0) rfl rfl).2.2⟩, List.forall_mem_cons.2 ⟨⟨(V3.out.box_at (i := 1) (j := 1) rfl rfl).1, (V3.out.box_at (i := 1) (j := 1) rfl rfl).2.2⟩, List.forall_mem_cons.2 ⟨⟨(V3.out.box_at (i := 1) (j := 2) rfl rfl).1, (V3.out.box_at (i := 1) (j := 2) rfl rfl).2.2⟩, List.forall_mem_cons.2 ⟨⟨(V3.out.box_at (i := 1) (j := 3) rfl rfl).1, (V3.out.box_at (i := 1) (j := 3) rfl rfl).2.2⟩, fun _ h => by simp at h⟩⟩⟩⟩⟩⟩⟩⟩⟩⟩
                refine wp_region_held_drew (S := Keep _) (by kernel_rfl) hKp.drew (fun hHeld => ?_)
                have V3d := Lib.hid (V3.out.go (bdrew _))
                refine tk 0 ?_ rfl ?_ ?_; rotate_left; focus (intro w hSw; clear hSw; go_simp; try (with_reducible rfl))
                try simp only [Act.put, sA, sZ, sS]
                refine tk 1 ?_ rfl ?_ ?_; rotate_left
                · intro wl hSw
                  have hSw : Keep _ wl := hSw
                  have k0 : wl.cell? ⟨wi.heap.size, 0, none⟩ = some (.int .i64 p1) := (hSw _ (.head _)).1
                  clear hSw
                  go_simp
                  try (with_reducible rfl)
                try simp only [Act.put, sA, sZ, sS]
                refine tk 2 ?_ rfl ?_ ?_; rotate_left; focus (intro w hSw; clear hSw; go_simp; try (with_reducible rfl))
                try simp only [Act.put, sA, sZ, sS]
                refine tk 3 ?_ rfl ?_ ?_; rotate_left; focus (intro w hSw; clear hSw; go_simp; try (with_reducible rfl))
                try simp only [Act.put, sA, sZ, sS]
                refine tk 4 ?_ rfl ?_ ?_; rotate_left
                · intro wl hSw
                  have hSw : Keep _ wl := hSw
                  have k0 : wl.cell? ⟨w.heap.size, 0, none⟩ = some (.int .i64 A.lt) := (hSw _ (.tail _ (.tail _ (.head _)))).1
                  have k1 : wl.cell? ⟨w.heap.size, 1, none⟩ = some (.int .i64 A.st) := (hSw _ (.tail _ (.tail _ (.tail _ (.head _))))).1
                  have k2 : wl.cell? ⟨w.heap.size, 2, none⟩ = some (.slice x.A x.n x.c) := (hSw _ (.tail _ (.tail _ (.tail _ (.tail _ (.head _)))))).1
                  have k3 : wl.cell? ⟨w.heap.size, 3, none⟩ = some (.slice x.B x.m x.d) := (hSw _ (.tail _ (.tail _ (.tail _ (.tail _ (.tail _ (.head _))))))).1
                  clear hSw
                  go_simp
                  try (with_reducible rfl)
                try simp only [Act.put, sA, sZ, sS]
                refine tk 5 ?_ rfl ?_ ?_; rotate_left; focus (intro w hSw; clear hSw; go_simp; try (with_reducible rfl))
                try simp only [Act.put, sA, sZ, sS]
                refine tk 6 ?_ rfl ?_ ?_; rotate_left
                · intro wl hSw
                  have hSw : Keep _ wl := hSw
                  have k0 : wl.cell? ⟨wi.heap.size, 0, none⟩ = some (.int .i64 p1) := (hSw _ (.head _)).1
                  clear hSw
                  go_simp
                  try (with_reducible rfl)
                try simp only [Act.put, sA, sZ, sS]
                refine wpAnyH_ready (rs := [7]) (by kernel_rfl) (by simp) ?_
                refine AllReadyH.cons (List.getElem?_toArray.trans rfl) (fun K hK => ?_) AllReadyH.nil
                go_simp
                refine (isState_any _ _ x.A x.n x.c x.B x.m x.d p1 _ hxb).mono ?_
                rintro e w_7 ⟨rfl, b_7⟩
                try go_wp2_with fail
                rw [S1.out]
                have V_7 := Lib.hid (V3d.out.go b_7)
                refine hK.out _ _ (hHeld.go b_7) (fun hHeld => ?_)
                clear hK K
                try simp only [Act.put, sA, sZ, sS]
                refine tk 8 ?_ rfl ?_ ?_; rotate_left; focus (intro w hSw; clear hSw; go_simp; try (with_reducible rfl))
                try simp only [Act.put, sA, sZ, sS]
                refine tk 9 ?_ rfl ?_ ?_; rotate_left; focus (intro w hSw; clear hSw; go_simp; try (with_reducible rfl))
                try simp only [Act.put, sA, sZ, sS]
                refine tk 10 ?_ rfl ?_ ?_; rotate_left; focus (intro w hSw; clear hSw; go_simp; try (with_reducible rfl))
                try simp only [Act.put, sA, sZ, sS]
                refine tk 11 ?_ rfl ?_ ?_; rotate_left; focus (intro w hSw; clear hSw; go_simp; try (with_reducible rfl))
                try simp only [Act.put, sA, sZ, sS]
                refine tk 12 ?_ rfl ?_ ?_; rotate_left
                · intro wl hSw
                  have hSw : Keep _ wl := hSw
                  have k0 : wl.cell? ⟨wi.heap.size, 1, none⟩ = some (.int .i64 p2) := (hSw _ (.tail _ (.head _))).1
                  clear hSw
                  go_simp
                  try (with_reducible rfl)
                try simp only [Act.put, sA, sZ, sS]
                refine tk 13 ?_ rfl ?_ ?_; rotate_left; focus (intro w hSw; clear hSw; go_simp; try (with_reducible rfl))
                try simp only [Act.put, sA, sZ, sS]
                refine tk 14 ?_ rfl ?_ ?_; rotate_left; focus (intro w hSw; clear hSw; go_simp; try (with_reducible rfl))
                try simp only [Act.put, sA, sZ, sS]
                refine tk 15 ?_ rfl ?_ ?_; rotate_left
                · intro wl hSw
                  have hSw : Keep _ wl := hSw
                  have k0 : wl.cell? ⟨w.heap.size + 1, 0, none⟩ = some (.int .i64 B.lt) := (hSw _ (.tail _ (.tail _ (.tail _ (.tail _ (.tail _ (.tail _ (.head _)))))))).1
                  have k1 : wl.cell? ⟨w.heap.size + 1, 1, none⟩ = some (.int .i64 B.st) := (hSw _ (.tail _ (.tail _ (.tail _ (.tail _ (.tail _ (.tail _ (.tail _ (.head _))))))))).1
                  have k2 : wl.cell? ⟨w.heap.size + 1, 2, none⟩ = some (.slice y.A y.n y.c) := (hSw _ (.tail _ (.tail _ (.tail _ (.tail _ (.tail _ (.tail _ (.tail _ (.tail _ (.head _)))))))))).1
                  have k3 : wl.cell? ⟨w.heap.size + 1, 3, none⟩ = some (.slice y.B y.m y.d) := (hSw _ (.tail _ (.tail _ (.tail _ (.tail _ (.tail _ (.tail _ (.tail _ (.tail _ (.tail _ (.head _))))))))))).1
                  clear hSw
                  go_simp
                  try (with_reducible rfl)
                try simp only [Act.put, sA, sZ, sS]
                refine tk 16 ?_ rfl ?_ ?_; rotate_left; focus (intro w hSw; clear hSw; go_simp; try (with_reducible rfl))
                try simp only [Act.put, sA, sZ, sS]
                refine tk 17 ?_ rfl ?_ ?_; rotate_left
                · intro wl hSw
                  have hSw : Keep _ wl := hSw
                  have k0 : wl.cell? ⟨wi.heap.size, 1, none⟩ = some (.int .i64 p2) := (hSw _ (.tail _ (.head _))).1
                  clear hSw
                  go_simp
                  try (with_reducible rfl)
                try simp only [Act.put, sA, sZ, sS]
                refine wpAnyH_ready (rs := [18]) (by kernel_rfl) (by simp) ?_
                refine AllReadyH.cons (List.getElem?_toArray.trans rfl) (fun K hK => ?_) AllReadyH.nil
                go_simp
                refine (isState_any _ _ y.A y.n y.c y.B y.m y.d p2 _ hyb).mono ?_
                rintro e w_7_18 ⟨rfl, b_7_18⟩
                try go_wp2_with fail
                rw [S2.out]
                have V_7_18 := Lib.hid (V_7.out.go b_7_18)
                refine hK.out _ _ (hHeld.go b_7_18) (fun hHeld => ?_)
                clear hK K
                try simp only [Act.put, sA, sZ, sS]
                refine tk 19 ?_ rfl ?_ ?_; rotate_left; focus (intro w hSw; clear hSw; go_simp; try (with_reducible rfl))
                try simp only [Act.put, sA, sZ, sS]
                refine tk 20 ?_ rfl ?_ ?_; rotate_left; focus (intro w hSw; clear hSw; go_simp; try (with_reducible rfl))
                try simp only [Act.put, sA, sZ, sS]
                refine tk 21 ?_ rfl ?_ ?_; rotate_left; focus (intro w hSw; clear hSw; go_simp; try (with_reducible rfl))
                try simp only [Act.put, sA, sZ, sS]
                refine tk 22 ?_ rfl ?_ ?_; rotate_left; focus (intro w hSw; clear hSw; go_simp; try (with_reducible rfl))
                try simp only [Act.put, sA, sZ, sS]
                refine tu 23 rfl ?_
                try simp only [Act.put, sA, sZ, sS]
                refine tu 24 rfl ?_
                try simp only [Act.put, sA, sZ, sS]
                refine tu 25 rfl ?_
                try simp only [Act.put, sA, sZ, sS]
                refine tk 26 ?_ rfl ?_ ?_; rotate_left; focus (intro w hSw; clear hSw; go_simp; try (with_reducible rfl))
                try simp only [Act.put, sA, sZ, sS]
                refine wpAnyH_done (by kernel_rfl) ?_ _
                go_wp2_with fail
                go_meet
                exact ⟨by rw [HV.out]; rfl, V_7_18.out⟩
          · have S1 := Lib.hid (show stB x.n p1 = false from decide_eq_false t1)
            have HV := Lib.hid (show ok = false by rw [HOK.out]; exact okP_no (fun h => t1 (by have := h.1; have := HAN.out; dsimp only at *; omega)))
            clear t1
            have hKp : Keep [(⟨wi.heap.size, 0, none⟩, .int .i64 p1), (⟨wi.heap.size, 1, none⟩, .int .i64 p2), (⟨w.heap.size, 0, none⟩, .int .i64 A.lt), (⟨w.heap.size, 1, none⟩, .int .i64 A.st), (⟨w.heap.size, 2, none⟩, .slice x.A x.n x.c), (⟨w.heap.size, 3, none⟩, .slice x.B x.m x.d), (⟨w.heap.size + 1, 0, none⟩, .int .i64 B.lt), (⟨w.heap.size + 1, 1, none⟩, .int .i64 B.st), (⟨w.heap.size + 1, 2, none⟩, .slice y.A y.n y.c), (⟨w.heap.size + 1, 3, none⟩, .slice y.B y.m y.d)] wx := List.forall_mem_cons.2 ⟨⟨(V3.out.box_at (i := 0) (j := 0) rfl rfl).1, (V3.out.box_at (i := 0) (j := 0) rfl rfl).2.2⟩, List.forall_mem_cons.2 ⟨⟨(V3.out.box_at (i := 0) (j := 1) rfl rfl).1, (V3.out.box_at (i := 0) (j := 1) rfl rfl).2.2⟩, List.forall_mem_cons.2 ⟨⟨(V3.out.box_at (i := 2) (j := 0) rfl rfl).1, (V3.out.box_at (i := 2) (j := 0) rfl rfl).2.2⟩, List.forall_mem_cons.2 ⟨⟨(V3.out.box_at (i := 2) (j := 1) rfl rfl).1, (V3.out.box_at (i := 2) (j := 1) rfl rfl).2.2⟩, List.forall_mem_cons.2 ⟨⟨(V3.out.box_at (i := 2) (j := 2) rfl rfl).1, (V3.out.box_at (i := 2) (j := 2) rfl rfl).2.2⟩, List.forall_mem_cons.2 ⟨⟨(V3.out.box_at (i := 2) (j := 3) rfl rfl).1, (V3.out.box_at (i := 2) (j := 3) rfl rfl).2.2⟩, List.forall_mem_cons.2 ⟨⟨(V3.out.box_at (i := 1) (j := 0) rfl rfl).1, (V3.out.box_at (i := 1) (j := 0) rfl rfl).2.2⟩, List.forall_mem_cons.2 ⟨⟨(V3.out.box_at (i := 1) (j := 1) rfl rfl).1, (V3.out.box_at (i := 1) (j := 1) rfl rfl).2.2⟩, List.forall_mem_cons.2 ⟨⟨(V3.out.box_at (i := 1) (j := 2) rfl rfl).1, (V3.out.box_at (i := 1) (j := 2) rfl rfl).2.2⟩, List.forall_mem_cons.2 ⟨⟨(V3.out.box_at (i := 1) (j := 3) rfl rfl).1, (V3.out.box_at (i := 1) (j := 3) rfl rfl).2.2⟩, fun _ h => by simp at h⟩⟩⟩⟩⟩⟩⟩⟩⟩⟩
            refine wp_region_held_drew (S := Keep _) (by kernel_rfl) hKp.drew (fun hHeld => ?_)
            have V3d := Lib.hid (V3.out.go (bdrew _))
            refine tk 0 ?_ rfl ?_ ?_; rotate_left; focus (intro w hSw; clear hSw; go_simp; try (with_reducible rfl))
            try simp only [Act.put, sA, sZ, sS]
            refine tk 1 ?_ rfl ?_ ?_; rotate_left
            · intro wl hSw
              have hSw : Keep _ wl := hSw
              have k0 : wl.cell? ⟨wi.heap.size, 0, none⟩ = some (.int .i64 p1) := (hSw _ (.head _)).1
              clear hSw
              go_simp
              try (with_reducible rfl)
            try simp only [Act.put, sA, sZ, sS]
            refine tk 2 ?_ rfl ?_ ?_; rotate_left; focus (intro w hSw; clear hSw; go_simp; try (with_reducible rfl))
            try simp only [Act.put, sA, sZ, sS]
            refine tk 3 ?_ rfl ?_ ?_; rotate_left; focus (intro w hSw; clear hSw; go_simp; try (with_reducible rfl))
            try simp only [Act.put, sA, sZ, sS]
            refine tk 4 ?_ rfl ?_ ?_; rotate_left
            · intro wl hSw
              have hSw : Keep _ wl := hSw
              have k0 : wl.cell? ⟨w.heap.size, 0, none⟩ = some (.int .i64 A.lt) := (hSw _ (.tail _ (.tail _ (.head _)))).1
              have k1 : wl.cell? ⟨w.heap.size, 1, none⟩ = some (.int .i64 A.st) := (hSw _ (.tail _ (.tail _ (.tail _ (.head _))))).1
              have k2 : wl.cell? ⟨w.heap.size, 2, none⟩ = some (.slice x.A x.n x.c) := (hSw _ (.tail _ (.tail _ (.tail _ (.tail _ (.head _)))))).1
              have k3 : wl.cell? ⟨w.heap.size, 3, none⟩ = some (.slice x.B x.m x.d) := (hSw _ (.tail _ (.tail _ (.tail _ (.tail _ (.tail _ (.head _))))))).1
              clear hSw
              go_simp
              try (with_reducible rfl)
            try simp only [Act.put, sA, sZ, sS]
            refine tk 5 ?_ rfl ?_ ?_; rotate_left; focus (intro w hSw; clear hSw; go_simp; try (with_reducible rfl))
            try simp only [Act.put, sA, sZ, sS]
            refine tk 6 ?_ rfl ?_ ?_; rotate_left
            · intro wl hSw
              have hSw : Keep _ wl := hSw
              have k0 : wl.cell? ⟨wi.heap.size, 0, none⟩ = some (.int .i64 p1) := (hSw _ (.head _)).1
              clear hSw
              go_simp
              try (with_reducible rfl)
            try simp only [Act.put, sA, sZ, sS]
            refine wpAnyH_ready (rs := [7]) (by kernel_rfl) (by simp) ?_
            refine AllReadyH.cons (List.getElem?_toArray.trans rfl) (fun K hK => ?_) AllReadyH.nil
            go_simp
            refine (isState_any _ _ x.A x.n x.c x.B x.m x.d p1 _ hxb).mono ?_
            rintro e w_7 ⟨rfl, b_7⟩
            try go_wp2_with fail
            rw [S1.out]
            have V_7 := Lib.hid (V3d.out.go b_7)
            refine hK.out _ _ (hHeld.go b_7) (fun hHeld => ?_)
            clear hK K
            try simp only [Act.put, sA, sZ, sS]
            refine tk 8 ?_ rfl ?_ ?_; rotate_left; focus (intro w hSw; clear hSw; go_simp; try (with_reducible rfl))
            try simp only [Act.put, sA, sZ, sS]
            refine tk 9 ?_ rfl ?_ ?_; rotate_left; focus (intro w hSw; clear hSw; go_simp; try (with_reducible rfl))
            try simp only [Act.put, sA, sZ, sS]
            refine tk 10 ?_ rfl ?_ ?_; rotate_left; focus (intro w hSw; clear hSw; go_simp; try (with_reducible rfl))
            try simp only [Act.put, sA, sZ, sS]
            refine tu 11 rfl ?_
            try simp only [Act.put, sA, sZ, sS]
            refine tu 12 rfl ?_
            try simp only [Act.put, sA, sZ, sS]
            refine tu 13 rfl ?_
            try simp only [Act.put, sA, sZ, sS]
            refine tu 14 rfl ?_
            try simp only [Act.put, sA, sZ, sS]
            refine tu 15 rfl ?_
            try simp only [Act.put, sA, sZ, sS]
            refine tu 16 rfl ?_
            try simp only [Act.put, sA, sZ, sS]
            refine tu 17 rfl ?_
            try simp only [Act.put, sA, sZ, sS]
            refine tu 18 rfl ?_
            try simp only [Act.put, sA, sZ, sS]
            refine tu 19 rfl ?_
            try simp only [Act.put, sA, sZ, sS]
            refine tu 20 rfl ?_
            try simp only [Act.put, sA, sZ, sS]
            refine tk 21 ?_ rfl ?_ ?_; rotate_left; focus (intro w hSw; clear hSw; go_simp; try (with_reducible rfl))
            try simp only [Act.put, sA, sZ, sS]
            refine tk 22 ?_ rfl ?_ ?_; rotate_left; focus (intro w hSw; clear hSw; go_simp; try (with_reducible rfl))
            try simp only [Act.put, sA, sZ, sS]
            refine tu 23 rfl ?_
            try simp only [Act.put, sA, sZ, sS]
            refine tu 24 rfl ?_
            try simp only [Act.put, sA, sZ, sS]
            refine tu 25 rfl ?_
            try simp only [Act.put, sA, sZ, sS]
            refine tk 26 ?_ rfl ?_ ?_; rotate_left; focus (intro w hSw; clear hSw; go_simp; try (with_reducible rfl))
            try simp only [Act.put, sA, sZ, sS]
            refine wpAnyH_done (by kernel_rfl) ?_ _
            go_wp2_with fail
            go_meet
            exact ⟨by rw [HV.out]; rfl, V_7.out⟩
      case rest =>
        obtain ⟨rfl, hv⟩ := hcut
        have V4 := Lib.hid hv
        clear hv V3
        cases hk : ok
        · have HE := Lib.hid (isRelB_bad HP.out (by rw [← HOK.out]; exact hk))
          subst hk
          go_wp2_with fail
          go_ret
          exact ⟨ret_bool HE.out.symm, V4.out.below⟩
        · have HOK2 := Lib.hid (show okP A B (p1, p2) = true by rw [← HOK.out]; exact hk)
          have H1b := Lib.hid (show ∀ (i : Nat) p, i < j + 1 → l[i]? = some p → okP A B p = true from fun i p hi hp => by
            by_cases e : i = j
            · subst e; rw [HP.out] at hp; injection hp with hp; subst hp; exact HOK2.out
            · exact H1.out i p (by omega) hp)
          clear HOK
          subst hk
          by_cases hj0 : j = 0
          · subst hj0
            have H2b := Lib.hid (show ∀ (i : Nat) p q, i + 1 < 0 + 1 → l[i]? = some p → l[i + 1]? = some q → ltP p q = true from fun i p q h => by omega)
            go_upto_region 6 with fail
            have hKp : Keep [] wc := fun _ h => by simp at h
            refine wp_region_held_drew (S := Keep _) (by kernel_rfl) hKp.drew (fun hHeld => ?_)
            have V4d := Lib.hid (V4.out.go (bdrew _))
            refine tk 0 ?_ rfl ?_ ?_; rotate_left; focus (intro w hSw; clear hSw; go_simp; try (with_reducible rfl))
            try simp only [Act.put, sA, sZ, sS]
            refine tk 1 ?_ rfl ?_ ?_; rotate_left; focus (intro w hSw; clear hSw; go_simp; try (with_reducible rfl))
            try simp only [Act.put, sA, sZ, sS]
            refine tk 2 ?_ rfl ?_ ?_; rotate_left; focus (intro w hSw; clear hSw; go_simp; try (with_reducible rfl))
            try simp only [Act.put, sA, sZ, sS]
            refine tu 3 rfl ?_
            try simp only [Act.put, sA, sZ, sS]
            refine tu 4 rfl ?_
            try simp only [Act.put, sA, sZ, sS]
            refine tu 5 rfl ?_
            try simp only [Act.put, sA, sZ, sS]
            refine tu 6 rfl ?_
            try simp only [Act.put, sA, sZ, sS]
            refine tu 7 rfl ?_
            try simp only [Act.put, sA, sZ, sS]
            refine tu 8 rfl ?_
            try simp only [Act.put, sA, sZ, sS]
            refine tu 9 rfl ?_
            try simp only [Act.put, sA, sZ, sS]
            refine tu 10 rfl ?_
            try simp only [Act.put, sA, sZ, sS]
            refine tk 11 ?_ rfl ?_ ?_; rotate_left; focus (intro w hSw; clear hSw; go_simp; try (with_reducible rfl))
            try simp only [Act.put, sA, sZ, sS]
            refine wpAnyH_done (by kernel_rfl) ?_ _
            have V5 := Lib.hid V4d.out.tail
            go_wp2_with fail
            go_roundw
            case rel => exact ⟨0 + 1, by go_num, by omega, H1b.out, H2b.out, V5.out⟩
            case measure => simp [intOf]; omega
          · obtain ⟨⟨q1, q2⟩, hq⟩ : ∃ p, l[j - 1]? = some p := ⟨_, List.getElem?_eq_getElem (by have := HL.out; omega)⟩
            obtain ⟨b2, off2, e2, hb2, hc1, hc2⟩ := (HC.out.below V4.out.below).pair hq
            injection e2 with e2
            injection e2 with e2 e3
            subst e2 e3
            have hcq1 := hc1
            have hcq2 := hc2
            have g1 : 0 < (j : Int) := by omega
            have g1b : 0 < j := by omega
            have g2 : IntKind.i64.wrap ((j : Int) - 1) = (j : Int) - 1 := IntWalk.i64_in _ (by omega)
            have g3 : ((j : Int) - 1).toNat = j - 1 := by omega
            have g4 : 0 ≤ (j : Int) - 1 := by omega
            have g5 : (j : Int) - 1 < (n : Int) := by omega
            have g6 : j - 1 < n := by omega
            have g7 : 1 ≤ (j : Int) := by omega
            obtain ⟨v, hv⟩ : ∃ v, v = cmpP (q1, q2) (p1, p2) := ⟨_, rfl⟩
            have HV := Lib.hid hv
            have HQ := Lib.hid hq
            clear hv hq hc1 hc2
            by_cases hvv : v < 0
            · have H2b := Lib.hid (show ∀ (i : Nat) p q, i + 1 < j + 1 → l[i]? = some p → l[i + 1]? = some q → ltP p q = true from fun i p q hi hp hq => by
                by_cases e : i + 1 = j
                · rw [show j - 1 = i by omega] at HQ
                  rw [e] at hq
                  have e1 := HQ.out.symm.trans hp
                  have e2 := HP.out.symm.trans hq
                  injection e1 with e1; injection e2 with e2
                  subst e1 e2
                  exact (cmpP_lt _ _).1 (by rw [← HV.out]; exact hvv)
                · exact H2.out i p q (by omega) hp hq)
              have hv2 : ¬ 0 ≤ v := by omega
              go_upto_region 6 with fail
              have hKp : Keep [(⟨b, off + (j - 1) * 2, none⟩, .int .i64 q1), (⟨b, off + (j - 1) * 2 + 1, none⟩, .int .i64 q2), (⟨wi.heap.size, 0, none⟩, .int .i64 p1), (⟨wi.heap.size, 1, none⟩, .int .i64 p2)] wc := List.forall_mem_cons.2 ⟨⟨hcq1, hb2⟩, List.forall_mem_cons.2 ⟨⟨hcq2, hb2⟩, List.forall_mem_cons.2 ⟨⟨(V4.out.box_at (i := 0) (j := 0) rfl rfl).1, (V4.out.box_at (i := 0) (j := 0) rfl rfl).2.2⟩, List.forall_mem_cons.2 ⟨⟨(V4.out.box_at (i := 0) (j := 1) rfl rfl).1, (V4.out.box_at (i := 0) (j := 1) rfl rfl).2.2⟩, fun _ h => by simp at h⟩⟩⟩⟩
              refine wp_region_held_drew (S := Keep _) (by kernel_rfl) hKp.drew (fun hHeld => ?_)
              have V4d := Lib.hid (V4.out.go (bdrew _))
              refine tk 0 ?_ rfl ?_ ?_; rotate_left; focus (intro w hSw; clear hSw; go_simp; try (with_reducible rfl))
              try simp only [Act.put, sA, sZ, sS]
              refine tk 1 ?_ rfl ?_ ?_; rotate_left; focus (intro w hSw; clear hSw; go_simp; try (with_reducible rfl))
              try simp only [Act.put, sA, sZ, sS]
              refine tk 2 ?_ rfl ?_ ?_; rotate_left; focus (intro w hSw; clear hSw; go_simp; try (with_reducible rfl))
              try simp only [Act.put, sA, sZ, sS]
              refine tk 3 ?_ rfl ?_ ?_; rotate_left; focus (intro w hSw; clear hSw; go_simp; try (with_reducible rfl))
              try simp only [Act.put, sA, sZ, sS]
              refine tk 4 ?_ rfl ?_ ?_; rotate_left; focus (intro w hSw; clear hSw; go_simp; try (with_reducible rfl))
              try simp only [Act.put, sA, sZ, sS]
              refine tk 5 ?_ rfl ?_ ?_; rotate_left; focus (intro w hSw; clear hSw; go_simp; try (with_reducible rfl))
              try simp only [Act.put, sA, sZ, sS]
              refine tk 6 ?_ rfl ?_ ?_; rotate_left; focus (intro w hSw; clear hSw; go_simp; try (with_reducible rfl))
              try simp only [Act.put, sA, sZ, sS]
              refine tk 7 ?_ rfl ?_ ?_; rotate_left
              · intro wl hSw
                have hSw : Keep _ wl := hSw
                have k0 : wl.cell? ⟨b, off + (j - 1) * 2, none⟩ = some (.int .i64 q1) := (hSw _ (.head _)).1
                have k1 : wl.cell? ⟨b, off + (j - 1) * 2 + 1, none⟩ = some (.int .i64 q2) := (hSw _ (.tail _ (.head _))).1
                clear hSw
                go_simp
                try (with_reducible rfl)
              try simp only [Act.put, sA, sZ, sS]
              refine tk 8 ?_ rfl ?_ ?_; rotate_left
              · intro wl hSw
                have hSw : Keep _ wl := hSw
                have k0 : wl.cell? ⟨wi.heap.size, 0, none⟩ = some (.int .i64 p1) := (hSw _ (.tail _ (.tail _ (.head _)))).1
                have k1 : wl.cell? ⟨wi.heap.size, 1, none⟩ = some (.int .i64 p2) := (hSw _ (.tail _ (.tail _ (.tail _ (.head _))))).1
                clear hSw
                go_simp
                try (with_reducible rfl)
              try simp only [Act.put, sA, sZ, sS]
              refine wpAnyH_ready (rs := [9]) (by kernel_rfl) (by simp) ?_
              refine AllReadyH.cons (List.getElem?_toArray.trans rfl) (fun K hK => ?_) AllReadyH.nil
              go_simp
              refine (cmpPairs_any q1 q2 p1 p2 _).mono ?_
              rintro e w_9 ⟨rfl, b_9⟩
              try go_wp2_with fail
              rw [← HV.out]
              have V_9 := Lib.hid (V4d.out.go b_9)
              refine hK.out _ _ (hHeld.go b_9) (fun hHeld => ?_)
              clear hK K
              try simp only [Act.put, sA, sZ, sS]
              refine tk 10 ?_ rfl ?_ ?_; rotate_left; focus (intro w hSw; clear hSw; go_simp; try (with_reducible rfl))
              try simp only [Act.put, sA, sZ, sS]
              refine tk 11 ?_ rfl ?_ ?_; rotate_left; focus (intro w hSw; clear hSw; go_simp; try (with_reducible rfl))
              try simp only [Act.put, sA, sZ, sS]
              refine wpAnyH_done (by kernel_rfl) ?_ _
              have V5 := Lib.hid V_9.out.tail
              go_wp2_with fail
              go_roundw
              case rel => exact ⟨j + 1, by go_num, by omega, H1b.out, H2b.out, V5.out⟩
              case measure => simp [intOf]; omega
            · have HE := Lib.hid (isRelB_ord (A := A) (B := B) HQ.out (show l[j - 1 + 1]? = some (p1, p2) by rw [show j - 1 + 1 = j by omega]; exact HP.out) (by
                cases e : ltP (q1, q2) (p1, p2)
                · rfl
                · exact absurd (by rw [HV.out]; exact (cmpP_lt _ _).2 e) hvv))
              have hv2 : 0 ≤ v := by omega
              go_upto_region 6 with fail
              have hKp : Keep [(⟨b, off + (j - 1) * 2, none⟩, .int .i64 q1), (⟨b, off + (j - 1) * 2 + 1, none⟩, .int .i64 q2), (⟨wi.heap.size, 0, none⟩, .int .i64 p1), (⟨wi.heap.size, 1, none⟩, .int .i64 p2)] wc := List.forall_mem_cons.2 ⟨⟨hcq1, hb2⟩, List.forall_mem_cons.2 ⟨⟨hcq2, hb2⟩, List.forall_mem_cons.2 ⟨⟨(V4.out.box_at (i := 0) (j := 0) rfl rfl).1, (V4.out.box_at (i := 0) (j := 0) rfl rfl).2.2⟩, List.forall_mem_cons.2 ⟨⟨(V4.out.box_at (i := 0) (j := 1) rfl rfl).1, (V4.out.box_at (i := 0) (j := 1) rfl rfl).2.2⟩, fun _ h => by simp at h⟩⟩⟩⟩
              refine wp_region_held_drew (S := Keep _) (by kernel_rfl) hKp.drew (fun hHeld => ?_)
              have V4d := Lib.hid (V4.out.go (bdrew _))
              refine tk 0 ?_ rfl ?_ ?_; rotate_left; focus (intro w hSw; clear hSw; go_simp; try (with_reducible rfl))
              try simp only [Act.put, sA, sZ, sS]
              refine tk 1 ?_ rfl ?_ ?_; rotate_left; focus (intro w hSw; clear hSw; go_simp; try (with_reducible rfl))
              try simp only [Act.put, sA, sZ, sS]
              refine tk 2 ?_ rfl ?_ ?_; rotate_left; focus (intro w hSw; clear hSw; go_simp; try (with_reducible rfl))
              try simp only [Act.put, sA, sZ, sS]
              refine tk 3 ?_ rfl ?_ ?_; rotate_left; focus (intro w hSw; clear hSw; go_simp; try (with_reducible rfl))
              try simp only [Act.put, sA, sZ, sS]
              refine tk 4 ?_ rfl ?_ ?_; rotate_left; focus (intro w hSw; clear hSw; go_simp; try (with_reducible rfl))
              try simp only [Act.put, sA, sZ, sS]
              refine tk 5 ?_ rfl ?_ ?_; rotate_left; focus (intro w hSw; clear hSw; go_simp; try (with_reducible rfl))
              try simp only [Act.put, sA, sZ, sS]
              refine tk 6 ?_ rfl ?_ ?_; rotate_left; focus (intro w hSw; clear hSw; go_simp; try (with_reducible rfl))
              try simp only [Act.put, sA, sZ, sS]
              refine tk 7 ?_ rfl ?_ ?_; rotate_left
              · intro wl hSw
                have hSw : Keep _ wl := hSw
                have k0 : wl.cell? ⟨b, off + (j - 1) * 2, none⟩ = some (.int .i64 q1) := (hSw _ (.head _)).1
                have k1 : wl.cell? ⟨b, off + (j - 1) * 2 + 1, none⟩ = some (.int .i64 q2) := (hSw _ (.tail _ (.head _))).1
                clear hSw
                go_simp
                try (with_reducible rfl)
              try simp only [Act.put, sA, sZ, sS]
              refine tk 8 ?_ rfl ?_ ?_; rotate_left
              · intro wl hSw
                have hSw : Keep _ wl := hSw
                have k0 : wl.cell? ⟨wi.heap.size, 0, none⟩ = some (.int .i64 p1) := (hSw _ (.tail _ (.tail _ (.head _)))).1
                have k1 : wl.cell? ⟨wi.heap.size, 1, none⟩ = some (.int .i64 p2) := (hSw _ (.tail _ (.tail _ (.tail _ (.head _))))).1
                clear hSw
                go_simp
                try (with_reducible rfl)
              try simp only [Act.put, sA, sZ, sS]
              refine wpAnyH_ready (rs := [9]) (by kernel_rfl) (by simp) ?_
              refine AllReadyH.cons (List.getElem?_toArray.trans rfl) (fun K hK => ?_) AllReadyH.nil
              go_simp
              refine (cmpPairs_any q1 q2 p1 p2 _).mono ?_
              rintro e w_9 ⟨rfl, b_9⟩
              try go_wp2_with fail
              rw [← HV.out]
              have V_9 := Lib.hid (V4d.out.go b_9)
              refine hK.out _ _ (hHeld.go b_9) (fun hHeld => ?_)
              clear hK K
              try simp only [Act.put, sA, sZ, sS]
              refine tk 10 ?_ rfl ?_ ?_; rotate_left; focus (intro w hSw; clear hSw; go_simp; try (with_reducible rfl))
              try simp only [Act.put, sA, sZ, sS]
              refine tk 11 ?_ rfl ?_ ?_; rotate_left; focus (intro w hSw; clear hSw; go_simp; try (with_reducible rfl))
              try simp only [Act.put, sA, sZ, sS]
              refine wpAnyH_done (by kernel_rfl) ?_ _
              go_wp2_with fail
              go_ret
              exact ⟨ret_bool HE.out.symm, V_9.out.below⟩
    · obtain rfl : j = n := by omega
      have HE := Lib.hid (isRelB_all (A := A) (B := B) (fun i p hp => H1.out i p (by have := (List.getElem?_eq_some_iff.1 hp).1; have := HL.out; omega) hp) (fun i p q hp hq => H2.out i p q (by have := (List.getElem?_eq_some_iff.1 hq).1; have := HL.out; omega) hp hq))
      go_wp2_with fail
      go_ret
      exact ⟨ret_bool HE.out.symm, V.out.below⟩
end Go.Proofs.Ytdkdfmflghbhiaa
