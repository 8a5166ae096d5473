/- Contracts of the program: pairs are sorted; the relation of two automata. -/
import Derived.Test.YtdkdfmflghbhiaaRd
import Derived.Test.YtdkdfmflghbhiaaQr
import Derived.Test.YtdkdfmflghbhiaaShelfS
import Derived.Shelf.SlSortCmp.WholeK
namespace Go.Proofs.Ytdkdfmflghbhiaa
open Go.RowKit
set_option linter.unusedVariables false
set_option linter.unusedSimpArgs false
set_option maxRecDepth 100000

/-- The pairs ascend strictly. -/
def Asc (l : List (Int × Int)) : Prop := l.Pairwise fun p q => ltP p q = true
theorem ltP_iff (p q : Int × Int) : ltP p q = true ↔ p.1 < q.1 ∨ p.1 = q.1 ∧ p.2 < q.2 := by unfold ltP; exact decide_eq_true_iff
theorem ltP_irr (p : Int × Int) : ¬ ltP p p = true := by rw [ltP_iff]; omega
theorem ltP_as {p q : Int × Int} (h : ltP p q = true) (g : ltP q p = true) : False := by rw [ltP_iff] at h g; omega
theorem ltP_tri {p q : Int × Int} (h : ¬ ltP p q = true) (h2 : p ≠ q) : ltP q p = true := by
  rw [ltP_iff] at h ⊢
  have : ¬ (p.1 = q.1 ∧ p.2 = q.2) := fun e => h2 (Prod.ext e.1 e.2)
  omega
/-- Lists that ascend strictly and hold the same pairs are equal. -/
theorem Asc.uniq : ∀ {l m : List (Int × Int)}, Asc l → Asc m → (∀ p, p ∈ l ↔ p ∈ m) → l = m
  | [], [], _, _, _ => rfl
  | [], b :: m, _, _, h => absurd ((h b).2 List.mem_cons_self) (by simp)
  | a :: l, [], _, _, h => absurd ((h a).1 List.mem_cons_self) (by simp)
  | a :: l, b :: m, hl, hm, h => by
    have hl2 := List.pairwise_cons.1 hl
    have hm2 := List.pairwise_cons.1 hm
    have e : a = b := by
      apply Classical.byContradiction
      intro hne
      have h1 : ltP b a = true := by
        rcases List.mem_cons.1 ((h a).1 List.mem_cons_self) with e | e
        · exact absurd e hne
        · exact hm2.1 a e
      have h2 : ltP a b = true := by
        rcases List.mem_cons.1 ((h b).2 List.mem_cons_self) with e | e
        · exact absurd e.symm hne
        · exact hl2.1 b e
      exact ltP_as h1 h2
    subst e
    congr 1
    refine Asc.uniq hl2.2 hm2.2 fun p => ?_
    constructor
    · intro hp
      rcases List.mem_cons.1 ((h p).1 (List.mem_cons_of_mem _ hp)) with e | e
      · subst e; exact absurd (hl2.1 p hp) (ltP_irr p)
      · exact e
    · intro hp
      rcases List.mem_cons.1 ((h p).2 (List.mem_cons_of_mem _ hp)) with e | e
      · subst e; exact absurd (hm2.1 p hp) (ltP_irr p)
      · exact e
open Go.Sort in
theorem ltOf_P (p q : Int × Int) : Go.Proofs.ltOf cmpP p q = ltP p q := by
  unfold Go.Proofs.ltOf
  by_cases h : ltP p q = true
  · rw [h]; exact decide_eq_true ((cmpP_lt p q).2 h)
  · have h2 : ltP p q = false := by cases e : ltP p q; rfl; exact absurd e h
    rw [h2]; exact decide_eq_false (fun e => h ((cmpP_lt p q).1 e))
open Go.Sort in
theorem swo_P : SWO (Go.Proofs.ltOf cmpP) where
  irrefl x := by rw [ltOf_P]; cases e : ltP x x; rfl; exact absurd e (ltP_irr x)
  trans x y z h1 h2 := by rw [ltOf_P, ltP_iff] at *; omega
  ntrans x y z h1 h2 := by
    rw [ltOf_P] at *
    rw [Bool.eq_false_iff, ne_eq, ltP_iff] at *
    omega
theorem cmpE (x y : Int) (w : World) : Calls Try.prog 50 #[.int .i64 x, .int .i64 y] w fun e w' => e = .returned (.int .i64 (Lib.compareInt x y)) ∧ Below w.heap.size w w' ∧ Hid (w' = w) := by
  refine (Try.cmp_Compare_int x y w).mono ?_
  rintro e w' ⟨rfl, rfl⟩
  exact ⟨rfl, Below.refl _ _, Lib.hid rfl⟩
set_option maxHeartbeats 1000000 in
theorem orE_two (v : Int) (b : Nat) (x y : Int) (w : World) (hv : (if x = 0 then y else x) = v) (h0 : w.cell? ⟨b, 0, none⟩ = some (.int .i64 x)) (h1 : w.cell? ⟨b, 1, none⟩ = some (.int .i64 y)) (hb : b < w.heap.size) :
    Calls Try.prog 49 #[.slice (some ⟨b, 0, none⟩) 2 2] w fun e w' => e = .returned (.int .i64 v) ∧ Below w.heap.size w w' ∧ Hid (w' = w) := by
  subst hv
  have H0 := Lib.hid h0
  have H1 := Lib.hid h1
  clear h0 h1
  go_enter Try.func49, Try.ntmps49
  go_wp2_with fail
  go_loopw [8] (fun cv wr => (cv = .int .i64 0 ∨ (cv = .int .i64 1 ∧ x = 0) ∨ (cv = .int .i64 2 ∧ x = 0 ∧ y = 0)) ∧ wr = w) (fun cv _ => 2 - (intOf cv).toNat)
  case atStart => exact ⟨.inl rfl, rfl⟩
  case round =>
    obtain ⟨hc, hwr⟩ := hrel
    subst hwr
    have k0 := H0.out
    have k1 := H1.out
    rcases hc with rfl | ⟨rfl, hx⟩ | ⟨rfl, hx, hy⟩
    · by_cases hx : x = 0
      · subst hx
        go_wp2_with fail
        go_roundw
        case rel => exact ⟨.inr (.inl ⟨rfl, by first | trivial | rfl⟩), by first | trivial | rfl⟩
        case measure => simp [intOf]
      · have HE := Lib.hid (show (if x = 0 then y else x) = x from if_neg hx)
        have e1 : (x != 0) = true := bne_yes hx
        have e2 : (x == 0) = false := beq_no hx
        go_wp2_with fail
        go_ret
        refine ⟨by first | rfl | exact ret_int HE.out.symm | simp, Below.refl _ _, Lib.hid rfl⟩
    · subst hx
      by_cases hy : y = 0
      · subst hy
        go_wp2_with fail
        go_roundw
        case rel => exact ⟨.inr (.inr ⟨rfl, by first | trivial | rfl, by first | trivial | rfl⟩), by first | trivial | rfl⟩
        case measure => simp [intOf]
      · have e1 : (y != 0) = true := bne_yes hy
        have e2 : (y == 0) = false := beq_no hy
        go_wp2_with fail
        go_ret
        exact ⟨by simp, Below.refl _ _, Lib.hid rfl⟩
    · subst hx hy
      go_wp2_with fail
      go_ret
      exact ⟨by simp, Below.refl _ _, Lib.hid rfl⟩
theorem grow3 (w : World) (A B C : Obj) : ((w.alloc A).alloc B).drew.alloc C = Go.Sort.grow (w.drewN 1) (#[A] ++ (#[B] ++ #[C])) := by
  simp only [Go.Sort.alloc_eq_grow]
  rw [show (Go.Sort.grow (Go.Sort.grow w #[A]) #[B]).drew = Go.Sort.grow (Go.Sort.grow (w.drewN 1) #[A]) #[B] from rfl, Go.Sort.grow_grow, Go.Sort.grow_grow]
set_option maxHeartbeats 4000000 in
theorem cmpPairs_grow (p1 p2 q1 q2 : Int) (w : World) :
    Calls Try.prog 24 #[.agg #[.int .i64 p1, .int .i64 p2], .agg #[.int .i64 q1, .int .i64 q2]] w fun e w' => e = .returned (.int .i64 (cmpP (p1, p2) (q1, q2))) ∧ ∃ q os', w' = Go.Sort.grow (w.drewN q) os' := by
  obtain ⟨wz, hwz⟩ : ∃ z, z = ((w.alloc (.cells #[.int .i64 p1, .int .i64 p2] 35)).alloc (.cells #[.int .i64 q1, .int .i64 q2] 35)) := ⟨_, rfl⟩
  have V := Lib.hid (show Hp w [box 35 (w.heap.size + 1) [.int .i64 q1, .int .i64 q2], box 35 w.heap.size [.int .i64 p1, .int .i64 p2]] wz by
    have := (((Hp.start w).box_new 35 [.int .i64 p1, .int .i64 p2]).box_new 35 [.int .i64 q1, .int .i64 q2])
    rw [hwz]; simpa using this)
  have HZ := Lib.hid hwz
  have HZ2 := Lib.hid hwz
  clear hwz
  go_enter Try.func24, Try.ntmps24
  go_upto_region 1 with fail
  rw [← HZ.out]
  clear HZ
  obtain ⟨x, hx⟩ : ∃ x, x = Lib.compareInt p1 q1 := ⟨_, rfl⟩
  obtain ⟨y, hy⟩ : ∃ y, y = Lib.compareInt p2 q2 := ⟨_, rfl⟩
  obtain ⟨v, hv⟩ : ∃ v, v = cmpP (p1, p2) (q1, q2) := ⟨_, rfl⟩
  have HE := Lib.hid (show (if x = 0 then y else x) = v by rw [hx, hy, hv]; rfl)
  have HVV := Lib.hid hv
  have HX := Lib.hid hx
  have HY := Lib.hid hy
  clear hx hy hv
  have hKp : Keep [(⟨w.heap.size, 0, none⟩, .int .i64 p1), (⟨w.heap.size, 1, none⟩, .int .i64 p2), (⟨w.heap.size + 1, 0, none⟩, .int .i64 q1), (⟨w.heap.size + 1, 1, none⟩, .int .i64 q2)] wz := List.forall_mem_cons.2 ⟨⟨(V.out.box_at (i := 1) (j := 0) rfl rfl).1, (V.out.box_at (i := 1) (j := 0) rfl rfl).2.2⟩, List.forall_mem_cons.2 ⟨⟨(V.out.box_at (i := 1) (j := 1) rfl rfl).1, (V.out.box_at (i := 1) (j := 1) rfl rfl).2.2⟩, List.forall_mem_cons.2 ⟨⟨(V.out.box_at (i := 0) (j := 0) rfl rfl).1, (V.out.box_at (i := 0) (j := 0) rfl rfl).2.2⟩, List.forall_mem_cons.2 ⟨⟨(V.out.box_at (i := 0) (j := 1) rfl rfl).1, (V.out.box_at (i := 0) (j := 1) rfl rfl).2.2⟩, fun _ h => by simp at h⟩⟩⟩⟩
  refine wp_region_held_drew (S := Keep _) (by kernel_rfl) hKp.drew (fun hHeld => ?_)
  have Vd := Lib.hid (V.out.go (bdrew _))
  refine tk 0 ?_ rfl ?_ ?_; rotate_left; focus (intro w hSw; clear hSw; go_simp; try (with_reducible rfl))
  try simp only [Act.put, sA, sZ, sS]
  refine tk 1 ?_ rfl ?_ ?_; rotate_left
  · intro wl hSw
    have hSw : Keep _ wl := hSw
    have k0 : wl.cell? ⟨w.heap.size, 0, none⟩ = some (.int .i64 p1) := (hSw _ (.head _)).1
    clear hSw
    go_simp
    try (with_reducible rfl)
  try simp only [Act.put, sA, sZ, sS]
  refine tk 2 ?_ rfl ?_ ?_; rotate_left; focus (intro w hSw; clear hSw; go_simp; try (with_reducible rfl))
  try simp only [Act.put, sA, sZ, sS]
  refine tk 3 ?_ rfl ?_ ?_; rotate_left
  · intro wl hSw
    have hSw : Keep _ wl := hSw
    have k0 : wl.cell? ⟨w.heap.size + 1, 0, none⟩ = some (.int .i64 q1) := (hSw _ (.tail _ (.tail _ (.head _)))).1
    clear hSw
    go_simp
    try (with_reducible rfl)
  try simp only [Act.put, sA, sZ, sS]
  refine tk 5 ?_ rfl ?_ ?_; rotate_left; focus (intro w hSw; clear hSw; go_simp; try (with_reducible rfl))
  try simp only [Act.put, sA, sZ, sS]
  refine tk 6 ?_ rfl ?_ ?_; rotate_left
  · intro wl hSw
    have hSw : Keep _ wl := hSw
    have k0 : wl.cell? ⟨w.heap.size, 1, none⟩ = some (.int .i64 p2) := (hSw _ (.tail _ (.head _))).1
    clear hSw
    go_simp
    try (with_reducible rfl)
  try simp only [Act.put, sA, sZ, sS]
  refine tk 7 ?_ rfl ?_ ?_; rotate_left; focus (intro w hSw; clear hSw; go_simp; try (with_reducible rfl))
  try simp only [Act.put, sA, sZ, sS]
  refine tk 8 ?_ rfl ?_ ?_; rotate_left
  · intro wl hSw
    have hSw : Keep _ wl := hSw
    have k0 : wl.cell? ⟨w.heap.size + 1, 1, none⟩ = some (.int .i64 q2) := (hSw _ (.tail _ (.tail _ (.tail _ (.head _))))).1
    clear hSw
    go_simp
    try (with_reducible rfl)
  try simp only [Act.put, sA, sZ, sS]
  refine wpAnyH_ready (rs := [4]) (by kernel_rfl) (by simp) ?_
  refine AllReadyH.cons (List.getElem?_toArray.trans rfl) (fun K hK => ?_) AllReadyH.nil
  go_simp
  refine (cmpE p1 q1 _).mono ?_
  rintro e w_4 ⟨rfl, b_4, E4⟩
  try go_wp2_with fail
  rw [← HX.out]
  try rw [← HX.out]
  have V_4 := Lib.hid (Vd.out.go b_4)
  refine hK.out _ _ (hHeld.go b_4) (fun hHeld => ?_)
  clear hK K
  try simp only [Act.put, sA, sZ, sS]
  refine wpAnyH_ready (rs := [9]) (by kernel_rfl) (by simp) ?_
  refine AllReadyH.cons (List.getElem?_toArray.trans rfl) (fun K hK => ?_) AllReadyH.nil
  go_simp
  refine (cmpE p2 q2 _).mono ?_
  rintro e w_4_9 ⟨rfl, b_4_9, E9⟩
  try go_wp2_with fail
  rw [← HY.out]
  try rw [← HY.out]
  have V_4_9 := Lib.hid (V_4.out.go b_4_9)
  refine hK.out _ _ (hHeld.go b_4_9) (fun hHeld => ?_)
  clear hK K
  try simp only [Act.put, sA, sZ, sS]
  refine wpAnyH_ready (rs := [10]) (by kernel_rfl) (by simp) ?_
  refine AllReadyH.cons (List.getElem?_toArray.trans rfl) (fun K hK => ?_) AllReadyH.nil
  obtain ⟨w_4_9_10, hw_4_9_10⟩ : ∃ z, z = (w_4_9.alloc (.cells #[.int .i64 x, .int .i64 y] 3)) := ⟨_, rfl⟩
  have V_4_9_10 := Lib.hid (show Hp _ (box 3 w_4_9.heap.size [.int .i64 x, .int .i64 y] :: _) w_4_9_10 by rw [hw_4_9_10]; exact V_4_9.out.box_new 3 [.int .i64 x, .int .i64 y])
  have Bw_4_9_10 := Lib.hid (show Below w_4_9.heap.size w_4_9 w_4_9_10 by rw [hw_4_9_10]; exact bnew _ _)
  go_simp
  rw [← hw_4_9_10]
  have E10 := Lib.hid hw_4_9_10
  clear hw_4_9_10
  refine hK.out _ _ (hHeld.go Bw_4_9_10.out) (fun hHeld => ?_)
  clear hK K
  try simp only [Act.put, sA, sZ, sS]
  refine wpAnyH_ready (rs := [11]) (by kernel_rfl) (by simp) ?_
  refine AllReadyH.cons (List.getElem?_toArray.trans rfl) (fun K hK => ?_) AllReadyH.nil
  have y0 := V_4_9_10.out.box_at (i := 0) (j := 0) rfl rfl
  have y1 := V_4_9_10.out.box_at (i := 0) (j := 1) rfl rfl
  go_simp
  refine (orE_two v _ x y _ HE.out y0.1 y1.1 y0.2.2).mono ?_
  rintro e w_4_9_10_11 ⟨rfl, b_4_9_10_11, E11⟩
  try go_wp2_with fail
  have V_4_9_10_11 := Lib.hid (V_4_9_10.out.go b_4_9_10_11)
  refine hK.out _ _ (hHeld.go b_4_9_10_11) (fun hHeld => ?_)
  clear hK K
  try simp only [Act.put, sA, sZ, sS]
  refine tk 12 ?_ rfl ?_ ?_; rotate_left; focus (intro w hSw; clear hSw; go_simp; try (with_reducible rfl))
  try simp only [Act.put, sA, sZ, sS]
  refine wpAnyH_done (by kernel_rfl) ?_ _
  go_wp2_with fail
  go_ret
  refine ⟨ret_int HVV.out, 1, _, (by rw [E11.out, E10.out, E9.out, E4.out, HZ2.out] : _ = ((w.alloc _).alloc _).drew.alloc _).trans (grow3 w _ _ _)⟩
/-! ### Sorting -/
section
open Go.Sort
theorem pcells_flat (ps : List (Int × Int)) : pcells ps = (flatK (fun p : Int × Int => [Value.int .i64 p.1, Value.int .i64 p.2]) 2 ps.toArray).toList := by
  apply List.ext_getElem?
  intro t
  by_cases ht : t < ps.length * 2
  · have hq : t / 2 < ps.length := by omega
    obtain ⟨p, hp⟩ : ∃ p, ps[t / 2]? = some p := ⟨_, List.getElem?_eq_getElem hq⟩
    obtain ⟨h1, h2⟩ := pcells_at hp
    have hs : t < (flatK (fun p : Int × Int => [Value.int .i64 p.1, Value.int .i64 p.2]) 2 ps.toArray).size := by rw [size_flatK]; simpa using ht
    have hd : ps.toArray[t / 2]! = p := by
      rw [getElem!_pos _ _ (by simpa using hq)]
      have := (List.getElem?_eq_some_iff.1 hp).2
      simpa using this
    have hg := get_flatK (fun p : Int × Int => [Value.int .i64 p.1, Value.int .i64 p.2]) 2 ps.toArray t (by simpa using ht)
    rw [getElem!_pos _ t hs, hd] at hg
    have hgt : (flatK (fun p : Int × Int => [Value.int .i64 p.1, Value.int .i64 p.2]) 2 ps.toArray).toList[t]? = some ((flatK (fun p : Int × Int => [Value.int .i64 p.1, Value.int .i64 p.2]) 2 ps.toArray)[t]'hs) := by
      rw [Array.getElem?_toList, Array.getElem?_eq_getElem hs]
    rw [hgt, hg]
    rcases Nat.mod_two_eq_zero_or_one t with e | e
    · rw [show t = t / 2 * 2 by omega, h1, show (t / 2 * 2) % 2 = 0 by omega]; rfl
    · rw [show t = t / 2 * 2 + 1 by omega, h2, show (t / 2 * 2 + 1) % 2 = 1 by omega]; rfl
  · rw [List.getElem?_eq_none (by rw [pcells_len]; omega), List.getElem?_eq_none (by rw [Array.length_toList, size_flatK]; simpa using ht)]
theorem putCells_at (F c : Array Value) (j : Nat) (h : j < c.size) (hs : F.size ≤ c.size) : (putCells (α := Value) id 0 F c)[j]? = some (if j < F.size then F[j]! else c[j]!) := by
  unfold putCells
  rw [Array.getElem?_mapIdx, Array.getElem?_eq_getElem h]
  simp only [Option.map_some, Nat.zero_le, true_and, Nat.zero_add, Nat.sub_zero, id]
  rw [getElem!_pos c j h]
/-- slices.SortFunc over pairs. -/
theorem sort_pairs {W w : World} {l : List Itm} {i g n c : Nat} {ps : List (Int × Int)} (h : Hp W l w) (hi : l[i]? = some (prow 35 (some ⟨g, 0, none⟩) n c ps)) (hn : n ≤ 2000000) (hnd : ∀ (a b : Nat) p, ps[a]? = some p → ps[b]? = some p → a = b) :
    Calls Try.prog 23 #[.slice (some ⟨g, 0, none⟩) n c, .func (.func 24) #[] #[]] w fun e w' => e = .returned (.tuple #[]) ∧
      ∃ qs : List (Int × Int), Asc qs ∧ (∀ p, p ∈ qs ↔ p ∈ ps) ∧ Hp W (l.set i (prow 35 (some ⟨g, 0, none⟩) n c qs)) w' := by
  have hl := h.pair_len hi
  have ho := h.own i _ hi
  obtain ⟨cap, cur, hv, hbase, hg, h1, h2, h3, h4⟩ : ∃ cap cur, (prow 35 (some ⟨g, 0, none⟩) n c ps).v = .slice (some ⟨g, 0, none⟩) n cap ∧ W.heap.size ≤ g ∧ w.heap[g]? = some (.cells cur 35 (0, 0)) ∧ n ≤ cap ∧ cap ≤ maxLen ∧ cur.size = cap * 2 ∧ cur.toList.take (n * 2) = pcells ps := by
    rcases ho.2 with ⟨e, _⟩ | ⟨g', cap, cur, e, a, b, c1, c2, c3, c4⟩
    · cases e
    · have e2 := e
      change Value.slice (some ⟨g, 0, none⟩) n c = _ at e
      injection e with e1 _ e3
      injection e1 with e1
      injection e1 with e1
      subst e1
      subst e3
      exact ⟨_, cur, rfl, a, b, c1, c2, c3, c4⟩
  change Value.slice (some ⟨g, 0, none⟩) n c = _ at hv
  injection hv with _ _ hcap
  subst hcap
  have hglt : g < w.heap.size := (Array.getElem?_eq_some_iff.1 hg).1
  have hH : HoldsK (fun p : Int × Int => [Value.int .i64 p.1, Value.int .i64 p.2]) 2 w g 0 ps.toArray := by
    intro j hj
    rw [size_flatK] at hj
    have hj2 : j < ps.length * 2 := by simpa using hj
    have hp : (pcells ps)[j]? = some ((flatK (fun p : Int × Int => [Value.int .i64 p.1, Value.int .i64 p.2]) 2 ps.toArray)[j]!) := by
      rw [pcells_flat, Array.getElem?_toList, getElem!_pos _ j (by rw [size_flatK]; exact hj), Array.getElem?_eq_getElem]
    have := h.cell hi (cap := c) rfl hp
    rw [Nat.zero_add]
    exact ⟨this.1, this.2.1⟩
  have eg : ∀ args w, (callFunc 24 args).run Try.prog w = .ok (.enter 24 args) w := enters_of Try.func24 (by kernel_rfl) rfl
  have hcmp : Go.Proofs.CmpLays Try.prog 24 #[] (fun p : Int × Int => [Value.int .i64 p.1, Value.int .i64 p.2]) 2 cmpP g 0 ps.toArray.size w := fun m os dk _ x y => cmpPairs_grow x.1 x.2 y.1 y.2 _
  have hcon := AnyQ.slices_SortFunc Try.sortP 2 Try.isAgg35 Try.sizeOf35 (fun p : Int × Int => [Value.int .i64 p.1, Value.int .i64 p.2]) (fun _ => rfl) (fun x v hv => by simp at hv; rcases hv with rfl | rfl <;> rfl) cmpP swo_P 24 #[] g 0 c ps.toArray w eg hcmp hH hglt (by simp; omega)
  rw [show ps.toArray.size = n by simpa using hl] at hcon
  refine hcon.mono ?_
  rintro e w' ⟨rfl, d', m, os, hp, hs, rfl⟩
  obtain ⟨p1, p2, p3⟩ := hp
  have hsz : d'.size = n := by rw [p1]; simpa using hl
  have hperm : d'.toList.Perm ps := by
    have a1 : (d'.extract 0 n).toList = d'.toList := by rw [← hsz]; simp
    have a2 : (ps.toArray.extract 0 n).toList = ps := by rw [← hl]; simp
    rw [a1, a2] at p3
    exact p3
  have hnd2 : d'.toList.Nodup := hperm.nodup_iff.2 (nodup_of fun a b x h1 h2 => hnd a b x h1 h2)
  refine ⟨rfl, d'.toList, ?_, fun p => hperm.mem_iff, ?_⟩
  · refine List.pairwise_iff_getElem.2 fun a b ha hb hab => ?_
    have hb2 : b < n := by simpa [hsz] using hb
    have h5 := hs a b (Nat.zero_le _) hab hb2
    rw [ltOf_P, getElem!_pos d' b (by omega), getElem!_pos d' a (by omega)] at h5
    have hne : d'[b]'(by omega) ≠ d'[a]'(by omega) := fun e => by
      have := (List.pairwise_iff_getElem.1 hnd2) a b ha hb hab
      simp only [Array.getElem_toList] at this
      exact this e.symm
    have := ltP_tri (by rw [h5]; simp) hne
    simpa using this
  · obtain ⟨F, hF⟩ : ∃ F, F = flatK (fun p : Int × Int => [Value.int .i64 p.1, Value.int .i64 p.2]) 2 d' := ⟨_, rfl⟩
    have hFs : F.size = n * 2 := by rw [hF, size_flatK, hsz]
    have hn2 : n * 2 ≤ c * 2 := Nat.mul_le_mul_right 2 h1
    have hheap : ∀ k, k < w.heap.size → (sortWorldK (fun p : Int × Int => [Value.int .i64 p.1, Value.int .i64 p.2]) 2 w g 0 m d' os).heap[k]? = (w.heap.modify g (onCells (putCells id 0 F)))[k]? := fun k hk => by
      show ((w.heap.modify g (onCells (putCells id 0 (flatK _ 2 d')))) ++ os)[k]? = _
      rw [Array.getElem?_append_left (by simpa using hk), hF]
    have hgr : w.grownBy (sortWorldK (fun p : Int × Int => [Value.int .i64 p.1, Value.int .i64 p.2]) 2 w g 0 m d' os) (some g) := ⟨rfl, rfl, rfl, by show _ ≤ ((w.heap.modify g _) ++ os).size; simp, fun k hk hne => by rw [hheap k hk, Array.getElem?_modify, if_neg (fun e => hne (by rw [e]))]⟩
    refine h.upd hi _ hgr ⟨by show (pcells d'.toList).length = n * 2; rw [pcells_len]; simp [hsz], .inr ⟨g, c, putCells id 0 F cur, rfl, hbase, ?_, h1, h2, by show (putCells id 0 F cur).size = c * 2; unfold putCells; simpa using h3, ?_⟩⟩ (fun k hk => .inl hk)
    · rw [hheap g hglt, Array.getElem?_modify, if_pos rfl, hg]; rfl
    · show (putCells id 0 F cur).toList.take (n * 2) = pcells d'.toList
      rw [pcells_flat]
      apply List.ext_getElem?
      intro t
      rw [List.getElem?_take]
      have e0 : (flatK (fun p : Int × Int => [Value.int .i64 p.1, Value.int .i64 p.2]) 2 d'.toList.toArray) = F := by rw [hF]
      rw [e0]
      by_cases ht : t < n * 2
      · rw [if_pos ht, Array.getElem?_toList, Array.getElem?_toList, putCells_at F cur t (by omega) (by omega), if_pos (by omega), Array.getElem?_eq_getElem (by omega), getElem!_pos F t (by omega)]
      · rw [if_neg ht, List.getElem?_eq_none (by rw [Array.length_toList]; omega)]
end
end Go.Proofs.Ytdkdfmflghbhiaa
