/- What the statement about the parts of a language answers: true, whatever the input. -/
import Derived.Test.YtjobhpekclomfabRc
namespace Go.Proofs.Ytjobhpekclomfab
open Go.RowKit
set_option linter.unusedVariables false
set_option linter.unusedSimpArgs false
set_option maxRecDepth 100000

theorem joined {W w : World} {l a b : List Itm} (h : Hp W (b ++ (l ++ a)) w) : Hp W (l ++ (b ++ a)) w := by
  refine h.sub (fun i => if i < l.length then b.length + i else if i < l.length + b.length then i - l.length else i) (fun i j e => ?_) (fun i it hi => ?_)
  · try dsimp only at e
    split at e <;> split at e <;> (try split at e) <;> (try split at e) <;> omega
  · try dsimp only
    have hlen := (List.getElem?_eq_some_iff.1 hi).1
    split
    · rename_i h1
      rw [List.getElem?_append_left h1] at hi
      rw [List.getElem?_append_right (by omega), Nat.add_sub_cancel_left, List.getElem?_append_left h1]; exact hi
    · rename_i h1
      rw [List.getElem?_append_right (by omega)] at hi
      split
      · rename_i h2
        rw [List.getElem?_append_left (by omega)] at hi
        rw [List.getElem?_append_left (by omega)]; exact hi
      · rename_i h2
        rw [List.getElem?_append_right (by omega)] at hi
        rw [List.getElem?_append_right (by omega), List.getElem?_append_right (by omega)]
        rw [show i - b.length - l.length = i - l.length - b.length by omega]; exact hi
theorem box_fresh (w : World) (T : TypeId) (c : Value) (cs : List Value) : BoxAt (w.alloc (.cells (c :: cs).toArray T)) w.heap.size (c :: cs) :=
  ((Hp.start w).box_new T (c :: cs)).box_there (i := 0) rfl (by simp)
theorem prod_ok (x y : DV) (A B : Au) (kind : Int) (W : World) (k : Nat) (P : List Nat → Bool) (hA : DfaIn W x A) (hB : DfaIn W y B) (vA : A.Vld k) (vB : B.Vld k) (hk : kind = 1 ∨ kind = 2 ∨ kind = 3) (hP : ∀ u, Let k u → combF kind (A.lang u) (B.lang u) = P u) (hn : ∀ R, Canon k P R → R.n ≤ 400) :
    Calls Try.prog 7 #[dval x A, dval y B, .int .i64 kind] W fun e w' => ∃ (z : DV) (R : Au), e = .returned (.tuple #[dval z R, .int .i64 0]) ∧ DfaIn w' z R ∧ Canon k P R ∧ R.Vld k ∧ Below W.heap.size W w' := by
  refine (product_any x y A B kind W hA hB).mono ?_
  rintro e w' ⟨hb, ⟨h1, _⟩ | ⟨k', v1, _, ⟨h2, _⟩ | ⟨_, hb2, R, hc, hr⟩⟩⟩
  · rw [Au.pE_mk vA vB] at h1; cases h1
  · exact absurd hk h2
  · have e1 : k' = k := by have h1 := v1.right.lt; have h2 := vA.right.lt; omega
    subst e1
    have hc2 := hc.of_eq hP
    have hR := hn R hc2
    rcases hr with ⟨_, z, rfl, hm, ho⟩ | ⟨h3, _⟩
    · exact ⟨z, R, rfl, ho.dfa hm, hc2, hc2.vld v1.k8 hR, hb⟩
    · omega
theorem min_ok (x : DV) (A : Au) (W : World) (k : Nat) (hA : DfaIn W x A) (vA : A.Vld k) (hn : ∀ R, Canon k A.lang R → R.n ≤ 400) :
    Calls Try.prog 9 #[dval x A] W fun e w' => ∃ (z : DV) (R : Au), e = .returned (.tuple #[dval z R, .int .i64 0]) ∧ DfaIn w' z R ∧ Canon k A.lang R ∧ R.Vld k ∧ Below W.heap.size W w' := by
  refine (minimalTop_any x A W hA).mono ?_
  rintro e w' ⟨hb, ⟨h1, _⟩ | ⟨k', v1, _, ⟨h2, _⟩ | ⟨_, hb2, R, hc, hr⟩⟩⟩
  · rw [Au.pE_mk vA vA] at h1; cases h1
  · exact absurd (.inl rfl) h2
  · have e1 : k' = k := by have h1 := v1.right.lt; have h2 := vA.right.lt; omega
    subst e1
    have hc2 : Canon k' A.lang R := hc.of_eq (fun u hu => by show (A.lang u && A.lang u) = A.lang u; cases A.lang u <;> rfl)
    have hR := hn R hc2
    rcases hr with ⟨_, z, rfl, hm, ho⟩ | ⟨h3, _⟩
    · exact ⟨z, R, rfl, ho.dfa hm, hc2, hc2.vld v1.k8 hR, hb⟩
    · omega
theorem same_ok (x y : DV) (A B : Au) (W : World) (h : DfaIn W x A) (h2 : DfaIn W y B) (e : A = B) :
    Calls Try.prog 8 #[dval x A, dval y B] W fun e w' => e = .returned (.bool true) ∧ Below W.heap.size W w' := by
  refine (sameDFA_any x y A B W h h2).mono ?_
  rintro e' w' ⟨he, hb⟩
  exact ⟨by rw [he, decide_eq_true e], hb⟩
theorem count_ok (x : DV) (A : Au) (W : World) (k n cnt : Nat) (N : Int) (h : DfaIn W x A) (v : A.Vld k) (hk : k ≤ 4) (hn : n ≤ 20) (hN : N = (n : Int)) (hc : A.cw n A.st = cnt) :
    Calls Try.prog 10 #[dval x A, .int .i64 N] W fun e w' => e = .returned (.tuple #[.int .i64 (cnt : Int), .int .i64 0]) ∧ Below W.heap.size W w' := by
  subst hN
  refine (count_any x A n W h).mono ?_
  rintro e w' ⟨he, hb⟩
  rw [cnt_few v hk hn, hc] at he
  exact ⟨he, hb⟩
set_option maxHeartbeats 32000000 in
theorem lawparts_any (l1 : Int) (A1 : Option Addr) (n1 c1 : Nat) (L1 : List Nat) (b1 : Int) (l2 : Int) (A2 : Option Addr) (n2 c2 : Nat) (L2 : List Nat) (b2 : Int) (a : Int) (W : World) (h1 : DraftIn W l1 b1 A1 n1 c1 L1) (h2 : DraftIn W l2 b2 A2 n2 c2 L2) (ha : 0 ≤ a ∧ a ≤ 255) :
    Calls Try.prog 3 #[.agg #[.int .u8 l1, .slice A1 n1 c1, .int .u16 b1], .agg #[.int .u8 l2, .slice A2 n2 c2, .int .u16 b2], .int .u8 a] W fun e w' => e = .returned (.bool true) ∧ Below W.heap.size W w' := by
  have H1 := Lib.hid h1
  have H2 := Lib.hid (show DraftIn W l1 b2 A2 n2 c2 L2 from ⟨h2.len, h2.big, h1.l0, h1.l1, h2.b0, h2.b1, h2.cells, h2.small⟩)
  obtain ⟨k, hk⟩ : ∃ k, k = 1 + l1.toNat % 4 := ⟨_, rfl⟩
  have hk4 : k ≤ 4 := by omega
  have HK := Lib.hid hk
  clear h1 h2 hk
  obtain ⟨wz, hwz⟩ : ∃ z, z = ((W.alloc (.cells #[.int .u8 l1, .slice A1 n1 c1, .int .u16 b1] 25)).alloc (.cells #[.int .u8 l2, .slice A2 n2 c2, .int .u16 b2] 25)) := ⟨_, rfl⟩
  have V := Lib.hid (show Hp W [box 25 (W.heap.size + 1) [.int .u8 l2, .slice A2 n2 c2, .int .u16 b2], box 25 W.heap.size [.int .u8 l1, .slice A1 n1 c1, .int .u16 b1]] wz by
    have := (((Hp.start W).box_new 25 [.int .u8 l1, .slice A1 n1 c1, .int .u16 b1]).box_new 25 [.int .u8 l2, .slice A2 n2 c2, .int .u16 b2])
    rw [hwz]; simpa using this)
  have HZ := Lib.hid hwz
  clear hwz
  go_enter Try.func3, Try.ntmps3
  go_upto_region 1 with fail
  rw [← HZ.out]
  clear HZ
  obtain ⟨r1_0, _, r1_9⟩ := V.out.box_at (i := 1) (j := 0) rfl rfl
  obtain ⟨r1_1, _, _⟩ := V.out.box_at (i := 1) (j := 1) rfl rfl
  obtain ⟨r1_2, _, _⟩ := V.out.box_at (i := 1) (j := 2) rfl rfl
  obtain ⟨y0, y1, y9⟩ := V.out.box_at (i := 0) (j := 0) rfl rfl
  obtain ⟨wy, hwy⟩ : ∃ z, z = wz.setCell ⟨W.heap.size + 1, 0, none⟩ (.int .u8 l1) := ⟨_, rfl⟩
  have V2 := Lib.hid (show Hp W [box 25 (W.heap.size + 1) [.int .u8 l1, .slice A2 n2 c2, .int .u16 b2], box 25 W.heap.size [.int .u8 l1, .slice A1 n1 c1, .int .u16 b1]] wy by rw [hwy]; exact V.out.box_set (i := 0) rfl 0 (.int .u8 l1))
  have HWY := Lib.hid hwy
  clear hwy V
  go_upto_region 2 with fail
  rw [← HWY.out]
  clear HWY y0 y1 y9 r1_0 r1_1 r1_2 r1_9
  go_cut [7, 8] (fun s7 s8 wx => ∃ g7 g8 y1 M1 y2 M2, s7 = .pointer (some ⟨g7, 0, none⟩) ∧ s8 = .pointer (some ⟨g8, 0, none⟩) ∧ M1.Vld k ∧ M2.Vld k ∧ M1.n ≤ 12 ∧ M2.n ≤ 12 ∧ DfaIn wx y1 M1 ∧ DfaIn wx y2 M2 ∧ BoxAt wx g7 [.int .i64 M1.lt, .int .i64 M1.st, .slice y1.A y1.n y1.c, .slice y1.B y1.m y1.d] ∧ BoxAt wx g8 [.int .i64 M2.lt, .int .i64 M2.st, .slice y2.A y2.n y2.c, .slice y2.B y2.m y2.d] ∧ Below W.heap.size W wx)
  case first =>
    have hKp : Keep [(⟨W.heap.size, 0, none⟩, .int .u8 l1), (⟨W.heap.size, 1, none⟩, .slice A1 n1 c1), (⟨W.heap.size, 2, none⟩, .int .u16 b1), (⟨W.heap.size + 1, 0, none⟩, .int .u8 l1), (⟨W.heap.size + 1, 1, none⟩, .slice A2 n2 c2), (⟨W.heap.size + 1, 2, none⟩, .int .u16 b2)] wy := List.forall_mem_cons.2 ⟨⟨(V2.out.box_at (i := 1) (j := 0) rfl rfl).1, (V2.out.box_at (i := 1) (j := 0) rfl rfl).2.2⟩, List.forall_mem_cons.2 ⟨⟨(V2.out.box_at (i := 1) (j := 1) rfl rfl).1, (V2.out.box_at (i := 1) (j := 1) rfl rfl).2.2⟩, List.forall_mem_cons.2 ⟨⟨(V2.out.box_at (i := 1) (j := 2) rfl rfl).1, (V2.out.box_at (i := 1) (j := 2) rfl rfl).2.2⟩, List.forall_mem_cons.2 ⟨⟨(V2.out.box_at (i := 0) (j := 0) rfl rfl).1, (V2.out.box_at (i := 0) (j := 0) rfl rfl).2.2⟩, List.forall_mem_cons.2 ⟨⟨(V2.out.box_at (i := 0) (j := 1) rfl rfl).1, (V2.out.box_at (i := 0) (j := 1) rfl rfl).2.2⟩, List.forall_mem_cons.2 ⟨⟨(V2.out.box_at (i := 0) (j := 2) rfl rfl).1, (V2.out.box_at (i := 0) (j := 2) rfl rfl).2.2⟩, fun _ h => by simp at h⟩⟩⟩⟩⟩⟩
    refine wp_region_held_drew (S := Keep [(⟨W.heap.size, 0, none⟩, .int .u8 l1), (⟨W.heap.size, 1, none⟩, .slice A1 n1 c1), (⟨W.heap.size, 2, none⟩, .int .u16 b1), (⟨W.heap.size + 1, 0, none⟩, .int .u8 l1), (⟨W.heap.size + 1, 1, none⟩, .slice A2 n2 c2), (⟨W.heap.size + 1, 2, none⟩, .int .u16 b2)]) (by kernel_rfl) hKp.drew (fun hHeld => ?_)
    have V2d := Lib.hid (V2.out.go (bdrew _))
    refine wpAnyH_take (i := 0) (v := ?_) (List.getElem?_toArray.trans rfl) (by kernel_rfl) (by kernel_rfl) (by kernel_rfl) (fun _ _ _ h => h) (Or.inl ⟨by rfl, ?_⟩) (by assumption) ?_
    rotate_left
    · intro wl hSw
      have hSw : Keep [(⟨W.heap.size, 0, none⟩, .int .u8 l1), (⟨W.heap.size, 1, none⟩, .slice A1 n1 c1), (⟨W.heap.size, 2, none⟩, .int .u16 b1), (⟨W.heap.size + 1, 0, none⟩, .int .u8 l1), (⟨W.heap.size + 1, 1, none⟩, .slice A2 n2 c2), (⟨W.heap.size + 1, 2, none⟩, .int .u16 b2)] wl := hSw
      have k0 : wl.cell? ⟨W.heap.size, 0, none⟩ = some (.int .u8 l1) := (hSw _ (.head _)).1
      have k1 : wl.cell? ⟨W.heap.size, 1, none⟩ = some (.slice A1 n1 c1) := (hSw _ (.tail _ (.head _))).1
      have k2 : wl.cell? ⟨W.heap.size, 2, none⟩ = some (.int .u16 b1) := (hSw _ (.tail _ (.tail _ (.head _)))).1
      clear hSw
      go_simp
      try (with_reducible rfl)
    try simp only [Act.put, List.setIfInBounds_toArray, List.set_cons_zero, List.set_cons_succ]
    refine wpAnyH_take (i := 2) (v := ?_) (List.getElem?_toArray.trans rfl) (by kernel_rfl) (by kernel_rfl) (by kernel_rfl) (fun _ _ _ h => h) (Or.inl ⟨by rfl, ?_⟩) (by assumption) ?_
    rotate_left
    · intro wl hSw
      have hSw : Keep [(⟨W.heap.size, 0, none⟩, .int .u8 l1), (⟨W.heap.size, 1, none⟩, .slice A1 n1 c1), (⟨W.heap.size, 2, none⟩, .int .u16 b1), (⟨W.heap.size + 1, 0, none⟩, .int .u8 l1), (⟨W.heap.size + 1, 1, none⟩, .slice A2 n2 c2), (⟨W.heap.size + 1, 2, none⟩, .int .u16 b2)] wl := hSw
      have k0 : wl.cell? ⟨W.heap.size + 1, 0, none⟩ = some (.int .u8 l1) := (hSw _ (.tail _ (.tail _ (.tail _ (.head _))))).1
      have k1 : wl.cell? ⟨W.heap.size + 1, 1, none⟩ = some (.slice A2 n2 c2) := (hSw _ (.tail _ (.tail _ (.tail _ (.tail _ (.head _)))))).1
      have k2 : wl.cell? ⟨W.heap.size + 1, 2, none⟩ = some (.int .u16 b2) := (hSw _ (.tail _ (.tail _ (.tail _ (.tail _ (.tail _ (.head _))))))).1
      clear hSw
      go_simp
      try (with_reducible rfl)
    try simp only [Act.put, List.setIfInBounds_toArray, List.set_cons_zero, List.set_cons_succ]
    refine wpAnyH_ready (rs := [1, 4, 5]) (by kernel_rfl) (by simp) ?_
    refine AllReadyH.cons (List.getElem?_toArray.trans rfl) (fun K hK => ?_) ?_
    · go_simp
      refine (made_any l1 b1 A1 n1 c1 L1 _ (H1.out.below V2d.out.below)).mono ?_
      rintro e w_1 ⟨y1, M1, vs1, rfl, im1, hp_1⟩
      try go_wp2_with fail
      have IM1 := Lib.hid im1
      have B_1 := Lib.hid hp_1.below
      have V_1 := Lib.hid (show Hp W ([box 25 (W.heap.size + 1) [.int .u8 l1, .slice A2 n2 c2, .int .u16 b2], box 25 W.heap.size [.int .u8 l1, .slice A1 n1 c1, .int .u16 b1]] ++ XM y1 M1 vs1) w_1 from Hp.comm (l := [box 25 (W.heap.size + 1) [.int .u8 l1, .slice A2 n2 c2, .int .u16 b2], box 25 W.heap.size [.int .u8 l1, .slice A1 n1 c1, .int .u16 b1]]) (l2 := XM y1 M1 vs1) (V2d.out.join hp_1))
      clear hp_1 im1
      refine hK.out _ _ (hHeld.go B_1.out) (fun hHeld => ?_)
      clear hK K
      try simp only [Act.put, List.setIfInBounds_toArray, List.set_cons_zero, List.set_cons_succ]
      refine wpAnyH_ready (rs := [3, 4, 5]) (by kernel_rfl) (by simp) ?_
      refine AllReadyH.cons (List.getElem?_toArray.trans rfl) (fun K hK => ?_) ?_
      · go_simp
        refine (made_any l1 b2 A2 n2 c2 L2 _ (H2.out.below V_1.out.below)).mono ?_
        rintro e w_1_3 ⟨y2, M2, vs2, rfl, im2, hp_1_3⟩
        try go_wp2_with fail
        have IM2 := Lib.hid im2
        have B_1_3 := Lib.hid hp_1_3.below
        have V_1_3 := Lib.hid (show Hp W ([box 25 (W.heap.size + 1) [.int .u8 l1, .slice A2 n2 c2, .int .u16 b2], box 25 W.heap.size [.int .u8 l1, .slice A1 n1 c1, .int .u16 b1]] ++ (XM y2 M2 vs2 ++ XM y1 M1 vs1)) w_1_3 from joined (l := [box 25 (W.heap.size + 1) [.int .u8 l1, .slice A2 n2 c2, .int .u16 b2], box 25 W.heap.size [.int .u8 l1, .slice A1 n1 c1, .int .u16 b1]]) (a := XM y1 M1 vs1) (b := XM y2 M2 vs2) (V_1.out.join hp_1_3))
        clear hp_1_3 im2
        refine hK.out _ _ (hHeld.go B_1_3.out) (fun hHeld => ?_)
        clear hK K
        try simp only [Act.put, List.setIfInBounds_toArray, List.set_cons_zero, List.set_cons_succ]
        refine wpAnyH_ready (rs := [4, 5]) (by kernel_rfl) (by simp) ?_
        refine AllReadyH.cons (List.getElem?_toArray.trans rfl) (fun K hK => ?_) ?_
        · have bq4 : W.heap.size + 1 < w_1_3.heap.size := (V_1_3.out.box_at (i := 0) (j := 0) rfl rfl).2.2
          obtain ⟨w_1_3_4, hw_1_3_4⟩ : ∃ z, z = (w_1_3.alloc (.cells #[.int .i64 0, .int .i64 0, .slice none 0 0, .slice none 0 0] 29)) := ⟨_, rfl⟩
          have V_1_3_4 := Lib.hid (show Hp _ (box 29 w_1_3.heap.size [.int .i64 0, .int .i64 0, .slice none 0 0, .slice none 0 0] :: _) w_1_3_4 by rw [hw_1_3_4]; exact V_1_3.out.box_new 29 [.int .i64 0, .int .i64 0, .slice none 0 0, .slice none 0 0])
          have Bw_1_3_4 := Lib.hid (show Below w_1_3.heap.size w_1_3 w_1_3_4 by rw [hw_1_3_4]; exact bnew _ _)
          go_simp
          rw [← hw_1_3_4]
          clear hw_1_3_4
          have V_1_3_4s := Lib.hid (show Hp W ([box 29 w_1_3.heap.size [.int .i64 0, .int .i64 0, .slice none 0 0, .slice none 0 0], box 25 (W.heap.size + 1) [.int .u8 l1, .slice A2 n2 c2, .int .u16 b2], box 25 W.heap.size [.int .u8 l1, .slice A1 n1 c1, .int .u16 b1]] ++ (XM y2 M2 vs2 ++ XM y1 M1 vs1)) w_1_3_4 from V_1_3_4.out)
          refine hK.out _ _ (hHeld.go Bw_1_3_4.out) (fun hHeld => ?_)
          clear hK K
          try simp only [Act.put, List.setIfInBounds_toArray, List.set_cons_zero, List.set_cons_succ]
          refine wpAnyH_ready (rs := [5]) (by kernel_rfl) (by simp) ?_
          refine AllReadyH.cons (List.getElem?_toArray.trans rfl) (fun K hK => ?_) AllReadyH.nil
          have bq5 : W.heap.size + 1 < w_1_3_4.heap.size := (V_1_3_4s.out.box_at (i := 1) (j := 0) rfl rfl).2.2
          obtain ⟨w_1_3_4_5, hw_1_3_4_5⟩ : ∃ z, z = (w_1_3_4.alloc (.cells #[.int .i64 0, .int .i64 0, .slice none 0 0, .slice none 0 0] 29)) := ⟨_, rfl⟩
          have V_1_3_4_5 := Lib.hid (show Hp _ (box 29 w_1_3_4.heap.size [.int .i64 0, .int .i64 0, .slice none 0 0, .slice none 0 0] :: _) w_1_3_4_5 by rw [hw_1_3_4_5]; exact V_1_3_4s.out.box_new 29 [.int .i64 0, .int .i64 0, .slice none 0 0, .slice none 0 0])
          have Bw_1_3_4_5 := Lib.hid (show Below w_1_3_4.heap.size w_1_3_4 w_1_3_4_5 by rw [hw_1_3_4_5]; exact bnew _ _)
          go_simp
          rw [← hw_1_3_4_5]
          clear hw_1_3_4_5
          have V_1_3_4_5s := Lib.hid (show Hp W ([box 29 w_1_3_4.heap.size [.int .i64 0, .int .i64 0, .slice none 0 0, .slice none 0 0], box 29 w_1_3.heap.size [.int .i64 0, .int .i64 0, .slice none 0 0, .slice none 0 0], box 25 (W.heap.size + 1) [.int .u8 l1, .slice A2 n2 c2, .int .u16 b2], box 25 W.heap.size [.int .u8 l1, .slice A1 n1 c1, .int .u16 b1]] ++ (XM y2 M2 vs2 ++ XM y1 M1 vs1)) w_1_3_4_5 from V_1_3_4_5.out)
          refine hK.out _ _ (hHeld.go Bw_1_3_4_5.out) (fun hHeld => ?_)
          clear hK K
          try simp only [Act.put, List.setIfInBounds_toArray, List.set_cons_zero, List.set_cons_succ]
          refine wpAnyH_ready (rs := [6]) (by kernel_rfl) (by simp) ?_
          refine AllReadyH.cons (List.getElem?_toArray.trans rfl) (fun K hK => ?_) AllReadyH.nil
          obtain ⟨r0, o0, z0⟩ := V_1_3_4_5s.out.box_at (i := 1) (j := 0) rfl rfl
          obtain ⟨r1, o1, z1⟩ := V_1_3_4_5s.out.box_at (i := 1) (j := 1) rfl rfl
          obtain ⟨r2, o2, z2⟩ := V_1_3_4_5s.out.box_at (i := 1) (j := 2) rfl rfl
          obtain ⟨r3, o3, z3⟩ := V_1_3_4_5s.out.box_at (i := 1) (j := 3) rfl rfl
          have VS4 := Lib.hid (show Hp W ([box 29 w_1_3_4.heap.size [.int .i64 0, .int .i64 0, .slice none 0 0, .slice none 0 0], box 29 w_1_3.heap.size [.int .i64 M1.lt, .int .i64 M1.st, .slice y1.A y1.n y1.c, .slice y1.B y1.m y1.d], box 25 (W.heap.size + 1) [.int .u8 l1, .slice A2 n2 c2, .int .u16 b2], box 25 W.heap.size [.int .u8 l1, .slice A1 n1 c1, .int .u16 b1]] ++ (XM y2 M2 vs2 ++ XM y1 M1 vs1)) _ from ((((V_1_3_4_5s.out.box_set (i := 1) rfl 0 (.int .i64 M1.lt)).box_set (i := 1) rfl 1 (.int .i64 M1.st)).box_set (i := 1) rfl 2 (.slice y1.A y1.n y1.c)).box_set (i := 1) rfl 3 (.slice y1.B y1.m y1.d)))
          go_simp
          refine hK.out _ _ (((((hHeld.set _ _ _ (List.forall_mem_cons.2 ⟨(by show ¬ W.heap.size = w_1_3.heap.size; omega), List.forall_mem_cons.2 ⟨(by show ¬ W.heap.size = w_1_3.heap.size; omega), List.forall_mem_cons.2 ⟨(by show ¬ W.heap.size = w_1_3.heap.size; omega), List.forall_mem_cons.2 ⟨(by show ¬ W.heap.size + 1 = w_1_3.heap.size; omega), List.forall_mem_cons.2 ⟨(by show ¬ W.heap.size + 1 = w_1_3.heap.size; omega), List.forall_mem_cons.2 ⟨(by show ¬ W.heap.size + 1 = w_1_3.heap.size; omega), fun _ h => by simp at h⟩⟩⟩⟩⟩⟩)).set _ _ _ (List.forall_mem_cons.2 ⟨(by show ¬ W.heap.size = w_1_3.heap.size; omega), List.forall_mem_cons.2 ⟨(by show ¬ W.heap.size = w_1_3.heap.size; omega), List.forall_mem_cons.2 ⟨(by show ¬ W.heap.size = w_1_3.heap.size; omega), List.forall_mem_cons.2 ⟨(by show ¬ W.heap.size + 1 = w_1_3.heap.size; omega), List.forall_mem_cons.2 ⟨(by show ¬ W.heap.size + 1 = w_1_3.heap.size; omega), List.forall_mem_cons.2 ⟨(by show ¬ W.heap.size + 1 = w_1_3.heap.size; omega), fun _ h => by simp at h⟩⟩⟩⟩⟩⟩)).set _ _ _ (List.forall_mem_cons.2 ⟨(by show ¬ W.heap.size = w_1_3.heap.size; omega), List.forall_mem_cons.2 ⟨(by show ¬ W.heap.size = w_1_3.heap.size; omega), List.forall_mem_cons.2 ⟨(by show ¬ W.heap.size = w_1_3.heap.size; omega), List.forall_mem_cons.2 ⟨(by show ¬ W.heap.size + 1 = w_1_3.heap.size; omega), List.forall_mem_cons.2 ⟨(by show ¬ W.heap.size + 1 = w_1_3.heap.size; omega), List.forall_mem_cons.2 ⟨(by show ¬ W.heap.size + 1 = w_1_3.heap.size; omega), fun _ h => by simp at h⟩⟩⟩⟩⟩⟩)).set _ _ _ (List.forall_mem_cons.2 ⟨(by show ¬ W.heap.size = w_1_3.heap.size; omega), List.forall_mem_cons.2 ⟨(by show ¬ W.heap.size = w_1_3.heap.size; omega), List.forall_mem_cons.2 ⟨(by show ¬ W.heap.size = w_1_3.heap.size; omega), List.forall_mem_cons.2 ⟨(by show ¬ W.heap.size + 1 = w_1_3.heap.size; omega), List.forall_mem_cons.2 ⟨(by show ¬ W.heap.size + 1 = w_1_3.heap.size; omega), List.forall_mem_cons.2 ⟨(by show ¬ W.heap.size + 1 = w_1_3.heap.size; omega), fun _ h => by simp at h⟩⟩⟩⟩⟩⟩))) (fun hHeld => ?_)
          clear hK K
          try simp only [Act.put, List.setIfInBounds_toArray, List.set_cons_zero, List.set_cons_succ]
          refine wpAnyH_ready (rs := [7]) (by kernel_rfl) (by simp) ?_
          refine AllReadyH.cons (List.getElem?_toArray.trans rfl) (fun K hK => ?_) AllReadyH.nil
          obtain ⟨r0, o0, z0⟩ := VS4.out.box_at (i := 0) (j := 0) rfl rfl
          obtain ⟨r1, o1, z1⟩ := VS4.out.box_at (i := 0) (j := 1) rfl rfl
          obtain ⟨r2, o2, z2⟩ := VS4.out.box_at (i := 0) (j := 2) rfl rfl
          obtain ⟨r3, o3, z3⟩ := VS4.out.box_at (i := 0) (j := 3) rfl rfl
          have VS5 := Lib.hid (show Hp W ([box 29 w_1_3_4.heap.size [.int .i64 M2.lt, .int .i64 M2.st, .slice y2.A y2.n y2.c, .slice y2.B y2.m y2.d], box 29 w_1_3.heap.size [.int .i64 M1.lt, .int .i64 M1.st, .slice y1.A y1.n y1.c, .slice y1.B y1.m y1.d], box 25 (W.heap.size + 1) [.int .u8 l1, .slice A2 n2 c2, .int .u16 b2], box 25 W.heap.size [.int .u8 l1, .slice A1 n1 c1, .int .u16 b1]] ++ (XM y2 M2 vs2 ++ XM y1 M1 vs1)) _ from ((((VS4.out.box_set (i := 0) rfl 0 (.int .i64 M2.lt)).box_set (i := 0) rfl 1 (.int .i64 M2.st)).box_set (i := 0) rfl 2 (.slice y2.A y2.n y2.c)).box_set (i := 0) rfl 3 (.slice y2.B y2.m y2.d)))
          go_simp
          refine hK.out _ _ (((((hHeld.set _ _ _ (List.forall_mem_cons.2 ⟨(by show ¬ W.heap.size = w_1_3_4.heap.size; omega), List.forall_mem_cons.2 ⟨(by show ¬ W.heap.size = w_1_3_4.heap.size; omega), List.forall_mem_cons.2 ⟨(by show ¬ W.heap.size = w_1_3_4.heap.size; omega), List.forall_mem_cons.2 ⟨(by show ¬ W.heap.size + 1 = w_1_3_4.heap.size; omega), List.forall_mem_cons.2 ⟨(by show ¬ W.heap.size + 1 = w_1_3_4.heap.size; omega), List.forall_mem_cons.2 ⟨(by show ¬ W.heap.size + 1 = w_1_3_4.heap.size; omega), fun _ h => by simp at h⟩⟩⟩⟩⟩⟩)).set _ _ _ (List.forall_mem_cons.2 ⟨(by show ¬ W.heap.size = w_1_3_4.heap.size; omega), List.forall_mem_cons.2 ⟨(by show ¬ W.heap.size = w_1_3_4.heap.size; omega), List.forall_mem_cons.2 ⟨(by show ¬ W.heap.size = w_1_3_4.heap.size; omega), List.forall_mem_cons.2 ⟨(by show ¬ W.heap.size + 1 = w_1_3_4.heap.size; omega), List.forall_mem_cons.2 ⟨(by show ¬ W.heap.size + 1 = w_1_3_4.heap.size; omega), List.forall_mem_cons.2 ⟨(by show ¬ W.heap.size + 1 = w_1_3_4.heap.size; omega), fun _ h => by simp at h⟩⟩⟩⟩⟩⟩)).set _ _ _ (List.forall_mem_cons.2 ⟨(by show ¬ W.heap.size = w_1_3_4.heap.size; omega), List.forall_mem_cons.2 ⟨(by show ¬ W.heap.size = w_1_3_4.heap.size; omega), List.forall_mem_cons.2 ⟨(by show ¬ W.heap.size = w_1_3_4.heap.size; omega), List.forall_mem_cons.2 ⟨(by show ¬ W.heap.size + 1 = w_1_3_4.heap.size; omega), List.forall_mem_cons.2 ⟨(by show ¬ W.heap.size + 1 = w_1_3_4.heap.size; omega), List.forall_mem_cons.2 ⟨(by show ¬ W.heap.size + 1 = w_1_3_4.heap.size; omega), fun _ h => by simp at h⟩⟩⟩⟩⟩⟩)).set _ _ _ (List.forall_mem_cons.2 ⟨(by show ¬ W.heap.size = w_1_3_4.heap.size; omega), List.forall_mem_cons.2 ⟨(by show ¬ W.heap.size = w_1_3_4.heap.size; omega), List.forall_mem_cons.2 ⟨(by show ¬ W.heap.size = w_1_3_4.heap.size; omega), List.forall_mem_cons.2 ⟨(by show ¬ W.heap.size + 1 = w_1_3_4.heap.size; omega), List.forall_mem_cons.2 ⟨(by show ¬ W.heap.size + 1 = w_1_3_4.heap.size; omega), List.forall_mem_cons.2 ⟨(by show ¬ W.heap.size + 1 = w_1_3_4.heap.size; omega), fun _ h => by simp at h⟩⟩⟩⟩⟩⟩))) (fun hHeld => ?_)
          clear hK K
          try simp only [Act.put, List.setIfInBounds_toArray, List.set_cons_zero, List.set_cons_succ]
          refine wpAnyH_done (by kernel_rfl) ?_ _
          go_wp2_with fail
          go_meet
          exact ⟨_, _, y1, M1, y2, M2, rfl, rfl, by rw [HK.out]; exact IM1.out.vld, by rw [HK.out]; exact IM2.out.vld, IM1.out.few, IM2.out.few, IM1.out.dfa (a := [box 29 w_1_3_4.heap.size [.int .i64 M2.lt, .int .i64 M2.st, .slice y2.A y2.n y2.c, .slice y2.B y2.m y2.d], box 29 w_1_3.heap.size [.int .i64 M1.lt, .int .i64 M1.st, .slice y1.A y1.n y1.c, .slice y1.B y1.m y1.d], box 25 (W.heap.size + 1) [.int .u8 l1, .slice A2 n2 c2, .int .u16 b2], box 25 W.heap.size [.int .u8 l1, .slice A1 n1 c1, .int .u16 b1]] ++ XM y2 M2 vs2) (b := []) (by rw [List.append_nil, List.append_assoc]; exact VS5.out), IM2.out.dfa (a := [box 29 w_1_3_4.heap.size [.int .i64 M2.lt, .int .i64 M2.st, .slice y2.A y2.n y2.c, .slice y2.B y2.m y2.d], box 29 w_1_3.heap.size [.int .i64 M1.lt, .int .i64 M1.st, .slice y1.A y1.n y1.c, .slice y1.B y1.m y1.d], box 25 (W.heap.size + 1) [.int .u8 l1, .slice A2 n2 c2, .int .u16 b2], box 25 W.heap.size [.int .u8 l1, .slice A1 n1 c1, .int .u16 b1]]) (b := XM y1 M1 vs1) VS5.out, VS5.out.box_there (i := 1) rfl (by simp), VS5.out.box_there (i := 0) rfl (by simp), VS5.out.below⟩
        refine AllReadyH.cons (List.getElem?_toArray.trans rfl) (fun K hK => ?_) ?_
        · have bq5 : W.heap.size + 1 < w_1_3.heap.size := (V_1_3.out.box_at (i := 0) (j := 0) rfl rfl).2.2
          obtain ⟨w_1_3_5, hw_1_3_5⟩ : ∃ z, z = (w_1_3.alloc (.cells #[.int .i64 0, .int .i64 0, .slice none 0 0, .slice none 0 0] 29)) := ⟨_, rfl⟩
          have V_1_3_5 := Lib.hid (show Hp _ (box 29 w_1_3.heap.size [.int .i64 0, .int .i64 0, .slice none 0 0, .slice none 0 0] :: _) w_1_3_5 by rw [hw_1_3_5]; exact V_1_3.out.box_new 29 [.int .i64 0, .int .i64 0, .slice none 0 0, .slice none 0 0])
          have Bw_1_3_5 := Lib.hid (show Below w_1_3.heap.size w_1_3 w_1_3_5 by rw [hw_1_3_5]; exact bnew _ _)
          go_simp
          rw [← hw_1_3_5]
          clear hw_1_3_5
          have V_1_3_5s := Lib.hid (show Hp W ([box 29 w_1_3.heap.size [.int .i64 0, .int .i64 0, .slice none 0 0, .slice none 0 0], box 25 (W.heap.size + 1) [.int .u8 l1, .slice A2 n2 c2, .int .u16 b2], box 25 W.heap.size [.int .u8 l1, .slice A1 n1 c1, .int .u16 b1]] ++ (XM y2 M2 vs2 ++ XM y1 M1 vs1)) w_1_3_5 from V_1_3_5.out)
          refine hK.out _ _ (hHeld.go Bw_1_3_5.out) (fun hHeld => ?_)
          clear hK K
          try simp only [Act.put, List.setIfInBounds_toArray, List.set_cons_zero, List.set_cons_succ]
          refine wpAnyH_ready (rs := [4]) (by kernel_rfl) (by simp) ?_
          refine AllReadyH.cons (List.getElem?_toArray.trans rfl) (fun K hK => ?_) AllReadyH.nil
          have bq4 : W.heap.size + 1 < w_1_3_5.heap.size := (V_1_3_5s.out.box_at (i := 1) (j := 0) rfl rfl).2.2
          obtain ⟨w_1_3_5_4, hw_1_3_5_4⟩ : ∃ z, z = (w_1_3_5.alloc (.cells #[.int .i64 0, .int .i64 0, .slice none 0 0, .slice none 0 0] 29)) := ⟨_, rfl⟩
          have V_1_3_5_4 := Lib.hid (show Hp _ (box 29 w_1_3_5.heap.size [.int .i64 0, .int .i64 0, .slice none 0 0, .slice none 0 0] :: _) w_1_3_5_4 by rw [hw_1_3_5_4]; exact V_1_3_5s.out.box_new 29 [.int .i64 0, .int .i64 0, .slice none 0 0, .slice none 0 0])
          have Bw_1_3_5_4 := Lib.hid (show Below w_1_3_5.heap.size w_1_3_5 w_1_3_5_4 by rw [hw_1_3_5_4]; exact bnew _ _)
          go_simp
          rw [← hw_1_3_5_4]
          clear hw_1_3_5_4
          have V_1_3_5_4s := Lib.hid (show Hp W ([box 29 w_1_3_5.heap.size [.int .i64 0, .int .i64 0, .slice none 0 0, .slice none 0 0], box 29 w_1_3.heap.size [.int .i64 0, .int .i64 0, .slice none 0 0, .slice none 0 0], box 25 (W.heap.size + 1) [.int .u8 l1, .slice A2 n2 c2, .int .u16 b2], box 25 W.heap.size [.int .u8 l1, .slice A1 n1 c1, .int .u16 b1]] ++ (XM y2 M2 vs2 ++ XM y1 M1 vs1)) w_1_3_5_4 from V_1_3_5_4.out)
          refine hK.out _ _ (hHeld.go Bw_1_3_5_4.out) (fun hHeld => ?_)
          clear hK K
          try simp only [Act.put, List.setIfInBounds_toArray, List.set_cons_zero, List.set_cons_succ]
          refine wpAnyH_ready (rs := [6]) (by kernel_rfl) (by simp) ?_
          refine AllReadyH.cons (List.getElem?_toArray.trans rfl) (fun K hK => ?_) AllReadyH.nil
          obtain ⟨r0, o0, z0⟩ := V_1_3_5_4s.out.box_at (i := 0) (j := 0) rfl rfl
          obtain ⟨r1, o1, z1⟩ := V_1_3_5_4s.out.box_at (i := 0) (j := 1) rfl rfl
          obtain ⟨r2, o2, z2⟩ := V_1_3_5_4s.out.box_at (i := 0) (j := 2) rfl rfl
          obtain ⟨r3, o3, z3⟩ := V_1_3_5_4s.out.box_at (i := 0) (j := 3) rfl rfl
          have VS4 := Lib.hid (show Hp W ([box 29 w_1_3_5.heap.size [.int .i64 M1.lt, .int .i64 M1.st, .slice y1.A y1.n y1.c, .slice y1.B y1.m y1.d], box 29 w_1_3.heap.size [.int .i64 0, .int .i64 0, .slice none 0 0, .slice none 0 0], box 25 (W.heap.size + 1) [.int .u8 l1, .slice A2 n2 c2, .int .u16 b2], box 25 W.heap.size [.int .u8 l1, .slice A1 n1 c1, .int .u16 b1]] ++ (XM y2 M2 vs2 ++ XM y1 M1 vs1)) _ from ((((V_1_3_5_4s.out.box_set (i := 0) rfl 0 (.int .i64 M1.lt)).box_set (i := 0) rfl 1 (.int .i64 M1.st)).box_set (i := 0) rfl 2 (.slice y1.A y1.n y1.c)).box_set (i := 0) rfl 3 (.slice y1.B y1.m y1.d)))
          go_simp
          refine hK.out _ _ (((((hHeld.set _ _ _ (List.forall_mem_cons.2 ⟨(by show ¬ W.heap.size = w_1_3_5.heap.size; omega), List.forall_mem_cons.2 ⟨(by show ¬ W.heap.size = w_1_3_5.heap.size; omega), List.forall_mem_cons.2 ⟨(by show ¬ W.heap.size = w_1_3_5.heap.size; omega), List.forall_mem_cons.2 ⟨(by show ¬ W.heap.size + 1 = w_1_3_5.heap.size; omega), List.forall_mem_cons.2 ⟨(by show ¬ W.heap.size + 1 = w_1_3_5.heap.size; omega), List.forall_mem_cons.2 ⟨(by show ¬ W.heap.size + 1 = w_1_3_5.heap.size; omega), fun _ h => by simp at h⟩⟩⟩⟩⟩⟩)).set _ _ _ (List.forall_mem_cons.2 ⟨(by show ¬ W.heap.size = w_1_3_5.heap.size; omega), List.forall_mem_cons.2 ⟨(by show ¬ W.heap.size = w_1_3_5.heap.size; omega), List.forall_mem_cons.2 ⟨(by show ¬ W.heap.size = w_1_3_5.heap.size; omega), List.forall_mem_cons.2 ⟨(by show ¬ W.heap.size + 1 = w_1_3_5.heap.size; omega), List.forall_mem_cons.2 ⟨(by show ¬ W.heap.size + 1 = w_1_3_5.heap.size; omega), List.forall_mem_cons.2 ⟨(by show ¬ W.heap.size + 1 = w_1_3_5.heap.size; omega), fun _ h => by simp at h⟩⟩⟩⟩⟩⟩)).set _ _ _ (List.forall_mem_cons.2 ⟨(by show ¬ W.heap.size = w_1_3_5.heap.size; omega), List.forall_mem_cons.2 ⟨(by show ¬ W.heap.size = w_1_3_5.heap.size; omega), List.forall_mem_cons.2 ⟨(by show ¬ W.heap.size = w_1_3_5.heap.size; omega), List.forall_mem_cons.2 ⟨(by show ¬ W.heap.size + 1 = w_1_3_5.heap.size; omega), List.forall_mem_cons.2 ⟨(by show ¬ W.heap.size + 1 = w_1_3_5.heap.size; omega), List.forall_mem_cons.2 ⟨(by show ¬ W.heap.size + 1 = w_1_3_5.heap.size; omega), fun _ h => by simp at h⟩⟩⟩⟩⟩⟩)).set _ _ _ (List.forall_mem_cons.2 ⟨(by show ¬ W.heap.size = w_1_3_5.heap.size; omega), List.forall_mem_cons.2 ⟨(by show ¬ W.heap.size = w_1_3_5.heap.size; omega), List.forall_mem_cons.2 ⟨(by show ¬ W.heap.size = w_1_3_5.heap.size; omega), List.forall_mem_cons.2 ⟨(by show ¬ W.heap.size + 1 = w_1_3_5.heap.size; omega), List.forall_mem_cons.2 ⟨(by show ¬ W.heap.size + 1 = w_1_3_5.heap.size; omega), List.forall_mem_cons.2 ⟨(by show ¬ W.heap.size + 1 = w_1_3_5.heap.size; omega), fun _ h => by simp at h⟩⟩⟩⟩⟩⟩))) (fun hHeld => ?_)
          clear hK K
          try simp only [Act.put, List.setIfInBounds_toArray, List.set_cons_zero, List.set_cons_succ]
          refine wpAnyH_ready (rs := [7]) (by kernel_rfl) (by simp) ?_
          refine AllReadyH.cons (List.getElem?_toArray.trans rfl) (fun K hK => ?_) AllReadyH.nil
          obtain ⟨r0, o0, z0⟩ := VS4.out.box_at (i := 1) (j := 0) rfl rfl
          obtain ⟨r1, o1, z1⟩ := VS4.out.box_at (i := 1) (j := 1) rfl rfl
          obtain ⟨r2, o2, z2⟩ := VS4.out.box_at (i := 1) (j := 2) rfl rfl
          obtain ⟨r3, o3, z3⟩ := VS4.out.box_at (i := 1) (j := 3) rfl rfl
          have VS5 := Lib.hid (show Hp W ([box 29 w_1_3_5.heap.size [.int .i64 M1.lt, .int .i64 M1.st, .slice y1.A y1.n y1.c, .slice y1.B y1.m y1.d], box 29 w_1_3.heap.size [.int .i64 M2.lt, .int .i64 M2.st, .slice y2.A y2.n y2.c, .slice y2.B y2.m y2.d], box 25 (W.heap.size + 1) [.int .u8 l1, .slice A2 n2 c2, .int .u16 b2], box 25 W.heap.size [.int .u8 l1, .slice A1 n1 c1, .int .u16 b1]] ++ (XM y2 M2 vs2 ++ XM y1 M1 vs1)) _ from ((((VS4.out.box_set (i := 1) rfl 0 (.int .i64 M2.lt)).box_set (i := 1) rfl 1 (.int .i64 M2.st)).box_set (i := 1) rfl 2 (.slice y2.A y2.n y2.c)).box_set (i := 1) rfl 3 (.slice y2.B y2.m y2.d)))
          go_simp
          refine hK.out _ _ (((((hHeld.set _ _ _ (List.forall_mem_cons.2 ⟨(by show ¬ W.heap.size = w_1_3.heap.size; omega), List.forall_mem_cons.2 ⟨(by show ¬ W.heap.size = w_1_3.heap.size; omega), List.forall_mem_cons.2 ⟨(by show ¬ W.heap.size = w_1_3.heap.size; omega), List.forall_mem_cons.2 ⟨(by show ¬ W.heap.size + 1 = w_1_3.heap.size; omega), List.forall_mem_cons.2 ⟨(by show ¬ W.heap.size + 1 = w_1_3.heap.size; omega), List.forall_mem_cons.2 ⟨(by show ¬ W.heap.size + 1 = w_1_3.heap.size; omega), fun _ h => by simp at h⟩⟩⟩⟩⟩⟩)).set _ _ _ (List.forall_mem_cons.2 ⟨(by show ¬ W.heap.size = w_1_3.heap.size; omega), List.forall_mem_cons.2 ⟨(by show ¬ W.heap.size = w_1_3.heap.size; omega), List.forall_mem_cons.2 ⟨(by show ¬ W.heap.size = w_1_3.heap.size; omega), List.forall_mem_cons.2 ⟨(by show ¬ W.heap.size + 1 = w_1_3.heap.size; omega), List.forall_mem_cons.2 ⟨(by show ¬ W.heap.size + 1 = w_1_3.heap.size; omega), List.forall_mem_cons.2 ⟨(by show ¬ W.heap.size + 1 = w_1_3.heap.size; omega), fun _ h => by simp at h⟩⟩⟩⟩⟩⟩)).set _ _ _ (List.forall_mem_cons.2 ⟨(by show ¬ W.heap.size = w_1_3.heap.size; omega), List.forall_mem_cons.2 ⟨(by show ¬ W.heap.size = w_1_3.heap.size; omega), List.forall_mem_cons.2 ⟨(by show ¬ W.heap.size = w_1_3.heap.size; omega), List.forall_mem_cons.2 ⟨(by show ¬ W.heap.size + 1 = w_1_3.heap.size; omega), List.forall_mem_cons.2 ⟨(by show ¬ W.heap.size + 1 = w_1_3.heap.size; omega), List.forall_mem_cons.2 ⟨(by show ¬ W.heap.size + 1 = w_1_3.heap.size; omega), fun _ h => by simp at h⟩⟩⟩⟩⟩⟩)).set _ _ _ (List.forall_mem_cons.2 ⟨(by show ¬ W.heap.size = w_1_3.heap.size; omega), List.forall_mem_cons.2 ⟨(by show ¬ W.heap.size = w_1_3.heap.size; omega), List.forall_mem_cons.2 ⟨(by show ¬ W.heap.size = w_1_3.heap.size; omega), List.forall_mem_cons.2 ⟨(by show ¬ W.heap.size + 1 = w_1_3.heap.size; omega), List.forall_mem_cons.2 ⟨(by show ¬ W.heap.size + 1 = w_1_3.heap.size; omega), List.forall_mem_cons.2 ⟨(by show ¬ W.heap.size + 1 = w_1_3.heap.size; omega), fun _ h => by simp at h⟩⟩⟩⟩⟩⟩))) (fun hHeld => ?_)
          clear hK K
          try simp only [Act.put, List.setIfInBounds_toArray, List.set_cons_zero, List.set_cons_succ]
          refine wpAnyH_done (by kernel_rfl) ?_ _
          go_wp2_with fail
          go_meet
          exact ⟨_, _, y1, M1, y2, M2, rfl, rfl, by rw [HK.out]; exact IM1.out.vld, by rw [HK.out]; exact IM2.out.vld, IM1.out.few, IM2.out.few, IM1.out.dfa (a := [box 29 w_1_3_5.heap.size [.int .i64 M1.lt, .int .i64 M1.st, .slice y1.A y1.n y1.c, .slice y1.B y1.m y1.d], box 29 w_1_3.heap.size [.int .i64 M2.lt, .int .i64 M2.st, .slice y2.A y2.n y2.c, .slice y2.B y2.m y2.d], box 25 (W.heap.size + 1) [.int .u8 l1, .slice A2 n2 c2, .int .u16 b2], box 25 W.heap.size [.int .u8 l1, .slice A1 n1 c1, .int .u16 b1]] ++ XM y2 M2 vs2) (b := []) (by rw [List.append_nil, List.append_assoc]; exact VS5.out), IM2.out.dfa (a := [box 29 w_1_3_5.heap.size [.int .i64 M1.lt, .int .i64 M1.st, .slice y1.A y1.n y1.c, .slice y1.B y1.m y1.d], box 29 w_1_3.heap.size [.int .i64 M2.lt, .int .i64 M2.st, .slice y2.A y2.n y2.c, .slice y2.B y2.m y2.d], box 25 (W.heap.size + 1) [.int .u8 l1, .slice A2 n2 c2, .int .u16 b2], box 25 W.heap.size [.int .u8 l1, .slice A1 n1 c1, .int .u16 b1]]) (b := XM y1 M1 vs1) VS5.out, VS5.out.box_there (i := 0) rfl (by simp), VS5.out.box_there (i := 1) rfl (by simp), VS5.out.below⟩
        exact AllReadyH.nil
      refine AllReadyH.cons (List.getElem?_toArray.trans rfl) (fun K hK => ?_) ?_
      · have bq4 : W.heap.size + 1 < w_1.heap.size := (V_1.out.box_at (i := 0) (j := 0) rfl rfl).2.2
        obtain ⟨w_1_4, hw_1_4⟩ : ∃ z, z = (w_1.alloc (.cells #[.int .i64 0, .int .i64 0, .slice none 0 0, .slice none 0 0] 29)) := ⟨_, rfl⟩
        have V_1_4 := Lib.hid (show Hp _ (box 29 w_1.heap.size [.int .i64 0, .int .i64 0, .slice none 0 0, .slice none 0 0] :: _) w_1_4 by rw [hw_1_4]; exact V_1.out.box_new 29 [.int .i64 0, .int .i64 0, .slice none 0 0, .slice none 0 0])
        have Bw_1_4 := Lib.hid (show Below w_1.heap.size w_1 w_1_4 by rw [hw_1_4]; exact bnew _ _)
        go_simp
        rw [← hw_1_4]
        clear hw_1_4
        have V_1_4s := Lib.hid (show Hp W ([box 29 w_1.heap.size [.int .i64 0, .int .i64 0, .slice none 0 0, .slice none 0 0], box 25 (W.heap.size + 1) [.int .u8 l1, .slice A2 n2 c2, .int .u16 b2], box 25 W.heap.size [.int .u8 l1, .slice A1 n1 c1, .int .u16 b1]] ++ XM y1 M1 vs1) w_1_4 from V_1_4.out)
        refine hK.out _ _ (hHeld.go Bw_1_4.out) (fun hHeld => ?_)
        clear hK K
        try simp only [Act.put, List.setIfInBounds_toArray, List.set_cons_zero, List.set_cons_succ]
        refine wpAnyH_ready (rs := [3, 5]) (by kernel_rfl) (by simp) ?_
        refine AllReadyH.cons (List.getElem?_toArray.trans rfl) (fun K hK => ?_) ?_
        · go_simp
          refine (made_any l1 b2 A2 n2 c2 L2 _ (H2.out.below V_1_4s.out.below)).mono ?_
          rintro e w_1_4_3 ⟨y2, M2, vs2, rfl, im2, hp_1_4_3⟩
          try go_wp2_with fail
          have IM2 := Lib.hid im2
          have B_1_4_3 := Lib.hid hp_1_4_3.below
          have V_1_4_3 := Lib.hid (show Hp W ([box 29 w_1.heap.size [.int .i64 0, .int .i64 0, .slice none 0 0, .slice none 0 0], box 25 (W.heap.size + 1) [.int .u8 l1, .slice A2 n2 c2, .int .u16 b2], box 25 W.heap.size [.int .u8 l1, .slice A1 n1 c1, .int .u16 b1]] ++ (XM y2 M2 vs2 ++ XM y1 M1 vs1)) w_1_4_3 from joined (l := [box 29 w_1.heap.size [.int .i64 0, .int .i64 0, .slice none 0 0, .slice none 0 0], box 25 (W.heap.size + 1) [.int .u8 l1, .slice A2 n2 c2, .int .u16 b2], box 25 W.heap.size [.int .u8 l1, .slice A1 n1 c1, .int .u16 b1]]) (a := XM y1 M1 vs1) (b := XM y2 M2 vs2) (V_1_4s.out.join hp_1_4_3))
          clear hp_1_4_3 im2
          refine hK.out _ _ (hHeld.go B_1_4_3.out) (fun hHeld => ?_)
          clear hK K
          try simp only [Act.put, List.setIfInBounds_toArray, List.set_cons_zero, List.set_cons_succ]
          refine wpAnyH_ready (rs := [5]) (by kernel_rfl) (by simp) ?_
          refine AllReadyH.cons (List.getElem?_toArray.trans rfl) (fun K hK => ?_) AllReadyH.nil
          have bq5 : W.heap.size + 1 < w_1_4_3.heap.size := (V_1_4_3.out.box_at (i := 1) (j := 0) rfl rfl).2.2
          obtain ⟨w_1_4_3_5, hw_1_4_3_5⟩ : ∃ z, z = (w_1_4_3.alloc (.cells #[.int .i64 0, .int .i64 0, .slice none 0 0, .slice none 0 0] 29)) := ⟨_, rfl⟩
          have V_1_4_3_5 := Lib.hid (show Hp _ (box 29 w_1_4_3.heap.size [.int .i64 0, .int .i64 0, .slice none 0 0, .slice none 0 0] :: _) w_1_4_3_5 by rw [hw_1_4_3_5]; exact V_1_4_3.out.box_new 29 [.int .i64 0, .int .i64 0, .slice none 0 0, .slice none 0 0])
          have Bw_1_4_3_5 := Lib.hid (show Below w_1_4_3.heap.size w_1_4_3 w_1_4_3_5 by rw [hw_1_4_3_5]; exact bnew _ _)
          go_simp
          rw [← hw_1_4_3_5]
          clear hw_1_4_3_5
          have V_1_4_3_5s := Lib.hid (show Hp W ([box 29 w_1_4_3.heap.size [.int .i64 0, .int .i64 0, .slice none 0 0, .slice none 0 0], box 29 w_1.heap.size [.int .i64 0, .int .i64 0, .slice none 0 0, .slice none 0 0], box 25 (W.heap.size + 1) [.int .u8 l1, .slice A2 n2 c2, .int .u16 b2], box 25 W.heap.size [.int .u8 l1, .slice A1 n1 c1, .int .u16 b1]] ++ (XM y2 M2 vs2 ++ XM y1 M1 vs1)) w_1_4_3_5 from V_1_4_3_5.out)
          refine hK.out _ _ (hHeld.go Bw_1_4_3_5.out) (fun hHeld => ?_)
          clear hK K
          try simp only [Act.put, List.setIfInBounds_toArray, List.set_cons_zero, List.set_cons_succ]
          refine wpAnyH_ready (rs := [6]) (by kernel_rfl) (by simp) ?_
          refine AllReadyH.cons (List.getElem?_toArray.trans rfl) (fun K hK => ?_) AllReadyH.nil
          obtain ⟨r0, o0, z0⟩ := V_1_4_3_5s.out.box_at (i := 1) (j := 0) rfl rfl
          obtain ⟨r1, o1, z1⟩ := V_1_4_3_5s.out.box_at (i := 1) (j := 1) rfl rfl
          obtain ⟨r2, o2, z2⟩ := V_1_4_3_5s.out.box_at (i := 1) (j := 2) rfl rfl
          obtain ⟨r3, o3, z3⟩ := V_1_4_3_5s.out.box_at (i := 1) (j := 3) rfl rfl
          have VS4 := Lib.hid (show Hp W ([box 29 w_1_4_3.heap.size [.int .i64 0, .int .i64 0, .slice none 0 0, .slice none 0 0], box 29 w_1.heap.size [.int .i64 M1.lt, .int .i64 M1.st, .slice y1.A y1.n y1.c, .slice y1.B y1.m y1.d], box 25 (W.heap.size + 1) [.int .u8 l1, .slice A2 n2 c2, .int .u16 b2], box 25 W.heap.size [.int .u8 l1, .slice A1 n1 c1, .int .u16 b1]] ++ (XM y2 M2 vs2 ++ XM y1 M1 vs1)) _ from ((((V_1_4_3_5s.out.box_set (i := 1) rfl 0 (.int .i64 M1.lt)).box_set (i := 1) rfl 1 (.int .i64 M1.st)).box_set (i := 1) rfl 2 (.slice y1.A y1.n y1.c)).box_set (i := 1) rfl 3 (.slice y1.B y1.m y1.d)))
          go_simp
          refine hK.out _ _ (((((hHeld.set _ _ _ (List.forall_mem_cons.2 ⟨(by show ¬ W.heap.size = w_1.heap.size; omega), List.forall_mem_cons.2 ⟨(by show ¬ W.heap.size = w_1.heap.size; omega), List.forall_mem_cons.2 ⟨(by show ¬ W.heap.size = w_1.heap.size; omega), List.forall_mem_cons.2 ⟨(by show ¬ W.heap.size + 1 = w_1.heap.size; omega), List.forall_mem_cons.2 ⟨(by show ¬ W.heap.size + 1 = w_1.heap.size; omega), List.forall_mem_cons.2 ⟨(by show ¬ W.heap.size + 1 = w_1.heap.size; omega), fun _ h => by simp at h⟩⟩⟩⟩⟩⟩)).set _ _ _ (List.forall_mem_cons.2 ⟨(by show ¬ W.heap.size = w_1.heap.size; omega), List.forall_mem_cons.2 ⟨(by show ¬ W.heap.size = w_1.heap.size; omega), List.forall_mem_cons.2 ⟨(by show ¬ W.heap.size = w_1.heap.size; omega), List.forall_mem_cons.2 ⟨(by show ¬ W.heap.size + 1 = w_1.heap.size; omega), List.forall_mem_cons.2 ⟨(by show ¬ W.heap.size + 1 = w_1.heap.size; omega), List.forall_mem_cons.2 ⟨(by show ¬ W.heap.size + 1 = w_1.heap.size; omega), fun _ h => by simp at h⟩⟩⟩⟩⟩⟩)).set _ _ _ (List.forall_mem_cons.2 ⟨(by show ¬ W.heap.size = w_1.heap.size; omega), List.forall_mem_cons.2 ⟨(by show ¬ W.heap.size = w_1.heap.size; omega), List.forall_mem_cons.2 ⟨(by show ¬ W.heap.size = w_1.heap.size; omega), List.forall_mem_cons.2 ⟨(by show ¬ W.heap.size + 1 = w_1.heap.size; omega), List.forall_mem_cons.2 ⟨(by show ¬ W.heap.size + 1 = w_1.heap.size; omega), List.forall_mem_cons.2 ⟨(by show ¬ W.heap.size + 1 = w_1.heap.size; omega), fun _ h => by simp at h⟩⟩⟩⟩⟩⟩)).set _ _ _ (List.forall_mem_cons.2 ⟨(by show ¬ W.heap.size = w_1.heap.size; omega), List.forall_mem_cons.2 ⟨(by show ¬ W.heap.size = w_1.heap.size; omega), List.forall_mem_cons.2 ⟨(by show ¬ W.heap.size = w_1.heap.size; omega), List.forall_mem_cons.2 ⟨(by show ¬ W.heap.size + 1 = w_1.heap.size; omega), List.forall_mem_cons.2 ⟨(by show ¬ W.heap.size + 1 = w_1.heap.size; omega), List.forall_mem_cons.2 ⟨(by show ¬ W.heap.size + 1 = w_1.heap.size; omega), fun _ h => by simp at h⟩⟩⟩⟩⟩⟩))) (fun hHeld => ?_)
          clear hK K
          try simp only [Act.put, List.setIfInBounds_toArray, List.set_cons_zero, List.set_cons_succ]
          refine wpAnyH_ready (rs := [7]) (by kernel_rfl) (by simp) ?_
          refine AllReadyH.cons (List.getElem?_toArray.trans rfl) (fun K hK => ?_) AllReadyH.nil
          obtain ⟨r0, o0, z0⟩ := VS4.out.box_at (i := 0) (j := 0) rfl rfl
          obtain ⟨r1, o1, z1⟩ := VS4.out.box_at (i := 0) (j := 1) rfl rfl
          obtain ⟨r2, o2, z2⟩ := VS4.out.box_at (i := 0) (j := 2) rfl rfl
          obtain ⟨r3, o3, z3⟩ := VS4.out.box_at (i := 0) (j := 3) rfl rfl
          have VS5 := Lib.hid (show Hp W ([box 29 w_1_4_3.heap.size [.int .i64 M2.lt, .int .i64 M2.st, .slice y2.A y2.n y2.c, .slice y2.B y2.m y2.d], box 29 w_1.heap.size [.int .i64 M1.lt, .int .i64 M1.st, .slice y1.A y1.n y1.c, .slice y1.B y1.m y1.d], box 25 (W.heap.size + 1) [.int .u8 l1, .slice A2 n2 c2, .int .u16 b2], box 25 W.heap.size [.int .u8 l1, .slice A1 n1 c1, .int .u16 b1]] ++ (XM y2 M2 vs2 ++ XM y1 M1 vs1)) _ from ((((VS4.out.box_set (i := 0) rfl 0 (.int .i64 M2.lt)).box_set (i := 0) rfl 1 (.int .i64 M2.st)).box_set (i := 0) rfl 2 (.slice y2.A y2.n y2.c)).box_set (i := 0) rfl 3 (.slice y2.B y2.m y2.d)))
          go_simp
          refine hK.out _ _ (((((hHeld.set _ _ _ (List.forall_mem_cons.2 ⟨(by show ¬ W.heap.size = w_1_4_3.heap.size; omega), List.forall_mem_cons.2 ⟨(by show ¬ W.heap.size = w_1_4_3.heap.size; omega), List.forall_mem_cons.2 ⟨(by show ¬ W.heap.size = w_1_4_3.heap.size; omega), List.forall_mem_cons.2 ⟨(by show ¬ W.heap.size + 1 = w_1_4_3.heap.size; omega), List.forall_mem_cons.2 ⟨(by show ¬ W.heap.size + 1 = w_1_4_3.heap.size; omega), List.forall_mem_cons.2 ⟨(by show ¬ W.heap.size + 1 = w_1_4_3.heap.size; omega), fun _ h => by simp at h⟩⟩⟩⟩⟩⟩)).set _ _ _ (List.forall_mem_cons.2 ⟨(by show ¬ W.heap.size = w_1_4_3.heap.size; omega), List.forall_mem_cons.2 ⟨(by show ¬ W.heap.size = w_1_4_3.heap.size; omega), List.forall_mem_cons.2 ⟨(by show ¬ W.heap.size = w_1_4_3.heap.size; omega), List.forall_mem_cons.2 ⟨(by show ¬ W.heap.size + 1 = w_1_4_3.heap.size; omega), List.forall_mem_cons.2 ⟨(by show ¬ W.heap.size + 1 = w_1_4_3.heap.size; omega), List.forall_mem_cons.2 ⟨(by show ¬ W.heap.size + 1 = w_1_4_3.heap.size; omega), fun _ h => by simp at h⟩⟩⟩⟩⟩⟩)).set _ _ _ (List.forall_mem_cons.2 ⟨(by show ¬ W.heap.size = w_1_4_3.heap.size; omega), List.forall_mem_cons.2 ⟨(by show ¬ W.heap.size = w_1_4_3.heap.size; omega), List.forall_mem_cons.2 ⟨(by show ¬ W.heap.size = w_1_4_3.heap.size; omega), List.forall_mem_cons.2 ⟨(by show ¬ W.heap.size + 1 = w_1_4_3.heap.size; omega), List.forall_mem_cons.2 ⟨(by show ¬ W.heap.size + 1 = w_1_4_3.heap.size; omega), List.forall_mem_cons.2 ⟨(by show ¬ W.heap.size + 1 = w_1_4_3.heap.size; omega), fun _ h => by simp at h⟩⟩⟩⟩⟩⟩)).set _ _ _ (List.forall_mem_cons.2 ⟨(by show ¬ W.heap.size = w_1_4_3.heap.size; omega), List.forall_mem_cons.2 ⟨(by show ¬ W.heap.size = w_1_4_3.heap.size; omega), List.forall_mem_cons.2 ⟨(by show ¬ W.heap.size = w_1_4_3.heap.size; omega), List.forall_mem_cons.2 ⟨(by show ¬ W.heap.size + 1 = w_1_4_3.heap.size; omega), List.forall_mem_cons.2 ⟨(by show ¬ W.heap.size + 1 = w_1_4_3.heap.size; omega), List.forall_mem_cons.2 ⟨(by show ¬ W.heap.size + 1 = w_1_4_3.heap.size; omega), fun _ h => by simp at h⟩⟩⟩⟩⟩⟩))) (fun hHeld => ?_)
          clear hK K
          try simp only [Act.put, List.setIfInBounds_toArray, List.set_cons_zero, List.set_cons_succ]
          refine wpAnyH_done (by kernel_rfl) ?_ _
          go_wp2_with fail
          go_meet
          exact ⟨_, _, y1, M1, y2, M2, rfl, rfl, by rw [HK.out]; exact IM1.out.vld, by rw [HK.out]; exact IM2.out.vld, IM1.out.few, IM2.out.few, IM1.out.dfa (a := [box 29 w_1_4_3.heap.size [.int .i64 M2.lt, .int .i64 M2.st, .slice y2.A y2.n y2.c, .slice y2.B y2.m y2.d], box 29 w_1.heap.size [.int .i64 M1.lt, .int .i64 M1.st, .slice y1.A y1.n y1.c, .slice y1.B y1.m y1.d], box 25 (W.heap.size + 1) [.int .u8 l1, .slice A2 n2 c2, .int .u16 b2], box 25 W.heap.size [.int .u8 l1, .slice A1 n1 c1, .int .u16 b1]] ++ XM y2 M2 vs2) (b := []) (by rw [List.append_nil, List.append_assoc]; exact VS5.out), IM2.out.dfa (a := [box 29 w_1_4_3.heap.size [.int .i64 M2.lt, .int .i64 M2.st, .slice y2.A y2.n y2.c, .slice y2.B y2.m y2.d], box 29 w_1.heap.size [.int .i64 M1.lt, .int .i64 M1.st, .slice y1.A y1.n y1.c, .slice y1.B y1.m y1.d], box 25 (W.heap.size + 1) [.int .u8 l1, .slice A2 n2 c2, .int .u16 b2], box 25 W.heap.size [.int .u8 l1, .slice A1 n1 c1, .int .u16 b1]]) (b := XM y1 M1 vs1) VS5.out, VS5.out.box_there (i := 1) rfl (by simp), VS5.out.box_there (i := 0) rfl (by simp), VS5.out.below⟩
        refine AllReadyH.cons (List.getElem?_toArray.trans rfl) (fun K hK => ?_) ?_
        · have bq5 : W.heap.size + 1 < w_1_4.heap.size := (V_1_4s.out.box_at (i := 1) (j := 0) rfl rfl).2.2
          obtain ⟨w_1_4_5, hw_1_4_5⟩ : ∃ z, z = (w_1_4.alloc (.cells #[.int .i64 0, .int .i64 0, .slice none 0 0, .slice none 0 0] 29)) := ⟨_, rfl⟩
          have V_1_4_5 := Lib.hid (show Hp _ (box 29 w_1_4.heap.size [.int .i64 0, .int .i64 0, .slice none 0 0, .slice none 0 0] :: _) w_1_4_5 by rw [hw_1_4_5]; exact V_1_4s.out.box_new 29 [.int .i64 0, .int .i64 0, .slice none 0 0, .slice none 0 0])
          have Bw_1_4_5 := Lib.hid (show Below w_1_4.heap.size w_1_4 w_1_4_5 by rw [hw_1_4_5]; exact bnew _ _)
          go_simp
          rw [← hw_1_4_5]
          clear hw_1_4_5
          have V_1_4_5s := Lib.hid (show Hp W ([box 29 w_1_4.heap.size [.int .i64 0, .int .i64 0, .slice none 0 0, .slice none 0 0], box 29 w_1.heap.size [.int .i64 0, .int .i64 0, .slice none 0 0, .slice none 0 0], box 25 (W.heap.size + 1) [.int .u8 l1, .slice A2 n2 c2, .int .u16 b2], box 25 W.heap.size [.int .u8 l1, .slice A1 n1 c1, .int .u16 b1]] ++ XM y1 M1 vs1) w_1_4_5 from V_1_4_5.out)
          refine hK.out _ _ (hHeld.go Bw_1_4_5.out) (fun hHeld => ?_)
          clear hK K
          try simp only [Act.put, List.setIfInBounds_toArray, List.set_cons_zero, List.set_cons_succ]
          refine wpAnyH_ready (rs := [3]) (by kernel_rfl) (by simp) ?_
          refine AllReadyH.cons (List.getElem?_toArray.trans rfl) (fun K hK => ?_) AllReadyH.nil
          go_simp
          refine (made_any l1 b2 A2 n2 c2 L2 _ (H2.out.below V_1_4_5s.out.below)).mono ?_
          rintro e w_1_4_5_3 ⟨y2, M2, vs2, rfl, im2, hp_1_4_5_3⟩
          try go_wp2_with fail
          have IM2 := Lib.hid im2
          have B_1_4_5_3 := Lib.hid hp_1_4_5_3.below
          have V_1_4_5_3 := Lib.hid (show Hp W ([box 29 w_1_4.heap.size [.int .i64 0, .int .i64 0, .slice none 0 0, .slice none 0 0], box 29 w_1.heap.size [.int .i64 0, .int .i64 0, .slice none 0 0, .slice none 0 0], box 25 (W.heap.size + 1) [.int .u8 l1, .slice A2 n2 c2, .int .u16 b2], box 25 W.heap.size [.int .u8 l1, .slice A1 n1 c1, .int .u16 b1]] ++ (XM y2 M2 vs2 ++ XM y1 M1 vs1)) w_1_4_5_3 from joined (l := [box 29 w_1_4.heap.size [.int .i64 0, .int .i64 0, .slice none 0 0, .slice none 0 0], box 29 w_1.heap.size [.int .i64 0, .int .i64 0, .slice none 0 0, .slice none 0 0], box 25 (W.heap.size + 1) [.int .u8 l1, .slice A2 n2 c2, .int .u16 b2], box 25 W.heap.size [.int .u8 l1, .slice A1 n1 c1, .int .u16 b1]]) (a := XM y1 M1 vs1) (b := XM y2 M2 vs2) (V_1_4_5s.out.join hp_1_4_5_3))
          clear hp_1_4_5_3 im2
          refine hK.out _ _ (hHeld.go B_1_4_5_3.out) (fun hHeld => ?_)
          clear hK K
          try simp only [Act.put, List.setIfInBounds_toArray, List.set_cons_zero, List.set_cons_succ]
          refine wpAnyH_ready (rs := [6]) (by kernel_rfl) (by simp) ?_
          refine AllReadyH.cons (List.getElem?_toArray.trans rfl) (fun K hK => ?_) AllReadyH.nil
          obtain ⟨r0, o0, z0⟩ := V_1_4_5_3.out.box_at (i := 1) (j := 0) rfl rfl
          obtain ⟨r1, o1, z1⟩ := V_1_4_5_3.out.box_at (i := 1) (j := 1) rfl rfl
          obtain ⟨r2, o2, z2⟩ := V_1_4_5_3.out.box_at (i := 1) (j := 2) rfl rfl
          obtain ⟨r3, o3, z3⟩ := V_1_4_5_3.out.box_at (i := 1) (j := 3) rfl rfl
          have VS4 := Lib.hid (show Hp W ([box 29 w_1_4.heap.size [.int .i64 0, .int .i64 0, .slice none 0 0, .slice none 0 0], box 29 w_1.heap.size [.int .i64 M1.lt, .int .i64 M1.st, .slice y1.A y1.n y1.c, .slice y1.B y1.m y1.d], box 25 (W.heap.size + 1) [.int .u8 l1, .slice A2 n2 c2, .int .u16 b2], box 25 W.heap.size [.int .u8 l1, .slice A1 n1 c1, .int .u16 b1]] ++ (XM y2 M2 vs2 ++ XM y1 M1 vs1)) _ from ((((V_1_4_5_3.out.box_set (i := 1) rfl 0 (.int .i64 M1.lt)).box_set (i := 1) rfl 1 (.int .i64 M1.st)).box_set (i := 1) rfl 2 (.slice y1.A y1.n y1.c)).box_set (i := 1) rfl 3 (.slice y1.B y1.m y1.d)))
          go_simp
          refine hK.out _ _ (((((hHeld.set _ _ _ (List.forall_mem_cons.2 ⟨(by show ¬ W.heap.size = w_1.heap.size; omega), List.forall_mem_cons.2 ⟨(by show ¬ W.heap.size = w_1.heap.size; omega), List.forall_mem_cons.2 ⟨(by show ¬ W.heap.size = w_1.heap.size; omega), List.forall_mem_cons.2 ⟨(by show ¬ W.heap.size + 1 = w_1.heap.size; omega), List.forall_mem_cons.2 ⟨(by show ¬ W.heap.size + 1 = w_1.heap.size; omega), List.forall_mem_cons.2 ⟨(by show ¬ W.heap.size + 1 = w_1.heap.size; omega), fun _ h => by simp at h⟩⟩⟩⟩⟩⟩)).set _ _ _ (List.forall_mem_cons.2 ⟨(by show ¬ W.heap.size = w_1.heap.size; omega), List.forall_mem_cons.2 ⟨(by show ¬ W.heap.size = w_1.heap.size; omega), List.forall_mem_cons.2 ⟨(by show ¬ W.heap.size = w_1.heap.size; omega), List.forall_mem_cons.2 ⟨(by show ¬ W.heap.size + 1 = w_1.heap.size; omega), List.forall_mem_cons.2 ⟨(by show ¬ W.heap.size + 1 = w_1.heap.size; omega), List.forall_mem_cons.2 ⟨(by show ¬ W.heap.size + 1 = w_1.heap.size; omega), fun _ h => by simp at h⟩⟩⟩⟩⟩⟩)).set _ _ _ (List.forall_mem_cons.2 ⟨(by show ¬ W.heap.size = w_1.heap.size; omega), List.forall_mem_cons.2 ⟨(by show ¬ W.heap.size = w_1.heap.size; omega), List.forall_mem_cons.2 ⟨(by show ¬ W.heap.size = w_1.heap.size; omega), List.forall_mem_cons.2 ⟨(by show ¬ W.heap.size + 1 = w_1.heap.size; omega), List.forall_mem_cons.2 ⟨(by show ¬ W.heap.size + 1 = w_1.heap.size; omega), List.forall_mem_cons.2 ⟨(by show ¬ W.heap.size + 1 = w_1.heap.size; omega), fun _ h => by simp at h⟩⟩⟩⟩⟩⟩)).set _ _ _ (List.forall_mem_cons.2 ⟨(by show ¬ W.heap.size = w_1.heap.size; omega), List.forall_mem_cons.2 ⟨(by show ¬ W.heap.size = w_1.heap.size; omega), List.forall_mem_cons.2 ⟨(by show ¬ W.heap.size = w_1.heap.size; omega), List.forall_mem_cons.2 ⟨(by show ¬ W.heap.size + 1 = w_1.heap.size; omega), List.forall_mem_cons.2 ⟨(by show ¬ W.heap.size + 1 = w_1.heap.size; omega), List.forall_mem_cons.2 ⟨(by show ¬ W.heap.size + 1 = w_1.heap.size; omega), fun _ h => by simp at h⟩⟩⟩⟩⟩⟩))) (fun hHeld => ?_)
          clear hK K
          try simp only [Act.put, List.setIfInBounds_toArray, List.set_cons_zero, List.set_cons_succ]
          refine wpAnyH_ready (rs := [7]) (by kernel_rfl) (by simp) ?_
          refine AllReadyH.cons (List.getElem?_toArray.trans rfl) (fun K hK => ?_) AllReadyH.nil
          obtain ⟨r0, o0, z0⟩ := VS4.out.box_at (i := 0) (j := 0) rfl rfl
          obtain ⟨r1, o1, z1⟩ := VS4.out.box_at (i := 0) (j := 1) rfl rfl
          obtain ⟨r2, o2, z2⟩ := VS4.out.box_at (i := 0) (j := 2) rfl rfl
          obtain ⟨r3, o3, z3⟩ := VS4.out.box_at (i := 0) (j := 3) rfl rfl
          have VS5 := Lib.hid (show Hp W ([box 29 w_1_4.heap.size [.int .i64 M2.lt, .int .i64 M2.st, .slice y2.A y2.n y2.c, .slice y2.B y2.m y2.d], box 29 w_1.heap.size [.int .i64 M1.lt, .int .i64 M1.st, .slice y1.A y1.n y1.c, .slice y1.B y1.m y1.d], box 25 (W.heap.size + 1) [.int .u8 l1, .slice A2 n2 c2, .int .u16 b2], box 25 W.heap.size [.int .u8 l1, .slice A1 n1 c1, .int .u16 b1]] ++ (XM y2 M2 vs2 ++ XM y1 M1 vs1)) _ from ((((VS4.out.box_set (i := 0) rfl 0 (.int .i64 M2.lt)).box_set (i := 0) rfl 1 (.int .i64 M2.st)).box_set (i := 0) rfl 2 (.slice y2.A y2.n y2.c)).box_set (i := 0) rfl 3 (.slice y2.B y2.m y2.d)))
          go_simp
          refine hK.out _ _ (((((hHeld.set _ _ _ (List.forall_mem_cons.2 ⟨(by show ¬ W.heap.size = w_1_4.heap.size; omega), List.forall_mem_cons.2 ⟨(by show ¬ W.heap.size = w_1_4.heap.size; omega), List.forall_mem_cons.2 ⟨(by show ¬ W.heap.size = w_1_4.heap.size; omega), List.forall_mem_cons.2 ⟨(by show ¬ W.heap.size + 1 = w_1_4.heap.size; omega), List.forall_mem_cons.2 ⟨(by show ¬ W.heap.size + 1 = w_1_4.heap.size; omega), List.forall_mem_cons.2 ⟨(by show ¬ W.heap.size + 1 = w_1_4.heap.size; omega), fun _ h => by simp at h⟩⟩⟩⟩⟩⟩)).set _ _ _ (List.forall_mem_cons.2 ⟨(by show ¬ W.heap.size = w_1_4.heap.size; omega), List.forall_mem_cons.2 ⟨(by show ¬ W.heap.size = w_1_4.heap.size; omega), List.forall_mem_cons.2 ⟨(by show ¬ W.heap.size = w_1_4.heap.size; omega), List.forall_mem_cons.2 ⟨(by show ¬ W.heap.size + 1 = w_1_4.heap.size; omega), List.forall_mem_cons.2 ⟨(by show ¬ W.heap.size + 1 = w_1_4.heap.size; omega), List.forall_mem_cons.2 ⟨(by show ¬ W.heap.size + 1 = w_1_4.heap.size; omega), fun _ h => by simp at h⟩⟩⟩⟩⟩⟩)).set _ _ _ (List.forall_mem_cons.2 ⟨(by show ¬ W.heap.size = w_1_4.heap.size; omega), List.forall_mem_cons.2 ⟨(by show ¬ W.heap.size = w_1_4.heap.size; omega), List.forall_mem_cons.2 ⟨(by show ¬ W.heap.size = w_1_4.heap.size; omega), List.forall_mem_cons.2 ⟨(by show ¬ W.heap.size + 1 = w_1_4.heap.size; omega), List.forall_mem_cons.2 ⟨(by show ¬ W.heap.size + 1 = w_1_4.heap.size; omega), List.forall_mem_cons.2 ⟨(by show ¬ W.heap.size + 1 = w_1_4.heap.size; omega), fun _ h => by simp at h⟩⟩⟩⟩⟩⟩)).set _ _ _ (List.forall_mem_cons.2 ⟨(by show ¬ W.heap.size = w_1_4.heap.size; omega), List.forall_mem_cons.2 ⟨(by show ¬ W.heap.size = w_1_4.heap.size; omega), List.forall_mem_cons.2 ⟨(by show ¬ W.heap.size = w_1_4.heap.size; omega), List.forall_mem_cons.2 ⟨(by show ¬ W.heap.size + 1 = w_1_4.heap.size; omega), List.forall_mem_cons.2 ⟨(by show ¬ W.heap.size + 1 = w_1_4.heap.size; omega), List.forall_mem_cons.2 ⟨(by show ¬ W.heap.size + 1 = w_1_4.heap.size; omega), fun _ h => by simp at h⟩⟩⟩⟩⟩⟩))) (fun hHeld => ?_)
          clear hK K
          try simp only [Act.put, List.setIfInBounds_toArray, List.set_cons_zero, List.set_cons_succ]
          refine wpAnyH_done (by kernel_rfl) ?_ _
          go_wp2_with fail
          go_meet
          exact ⟨_, _, y1, M1, y2, M2, rfl, rfl, by rw [HK.out]; exact IM1.out.vld, by rw [HK.out]; exact IM2.out.vld, IM1.out.few, IM2.out.few, IM1.out.dfa (a := [box 29 w_1_4.heap.size [.int .i64 M2.lt, .int .i64 M2.st, .slice y2.A y2.n y2.c, .slice y2.B y2.m y2.d], box 29 w_1.heap.size [.int .i64 M1.lt, .int .i64 M1.st, .slice y1.A y1.n y1.c, .slice y1.B y1.m y1.d], box 25 (W.heap.size + 1) [.int .u8 l1, .slice A2 n2 c2, .int .u16 b2], box 25 W.heap.size [.int .u8 l1, .slice A1 n1 c1, .int .u16 b1]] ++ XM y2 M2 vs2) (b := []) (by rw [List.append_nil, List.append_assoc]; exact VS5.out), IM2.out.dfa (a := [box 29 w_1_4.heap.size [.int .i64 M2.lt, .int .i64 M2.st, .slice y2.A y2.n y2.c, .slice y2.B y2.m y2.d], box 29 w_1.heap.size [.int .i64 M1.lt, .int .i64 M1.st, .slice y1.A y1.n y1.c, .slice y1.B y1.m y1.d], box 25 (W.heap.size + 1) [.int .u8 l1, .slice A2 n2 c2, .int .u16 b2], box 25 W.heap.size [.int .u8 l1, .slice A1 n1 c1, .int .u16 b1]]) (b := XM y1 M1 vs1) VS5.out, VS5.out.box_there (i := 1) rfl (by simp), VS5.out.box_there (i := 0) rfl (by simp), VS5.out.below⟩
        exact AllReadyH.nil
      refine AllReadyH.cons (List.getElem?_toArray.trans rfl) (fun K hK => ?_) ?_
      · have bq5 : W.heap.size + 1 < w_1.heap.size := (V_1.out.box_at (i := 0) (j := 0) rfl rfl).2.2
        obtain ⟨w_1_5, hw_1_5⟩ : ∃ z, z = (w_1.alloc (.cells #[.int .i64 0, .int .i64 0, .slice none 0 0, .slice none 0 0] 29)) := ⟨_, rfl⟩
        have V_1_5 := Lib.hid (show Hp _ (box 29 w_1.heap.size [.int .i64 0, .int .i64 0, .slice none 0 0, .slice none 0 0] :: _) w_1_5 by rw [hw_1_5]; exact V_1.out.box_new 29 [.int .i64 0, .int .i64 0, .slice none 0 0, .slice none 0 0])
        have Bw_1_5 := Lib.hid (show Below w_1.heap.size w_1 w_1_5 by rw [hw_1_5]; exact bnew _ _)
        go_simp
        rw [← hw_1_5]
        clear hw_1_5
        have V_1_5s := Lib.hid (show Hp W ([box 29 w_1.heap.size [.int .i64 0, .int .i64 0, .slice none 0 0, .slice none 0 0], box 25 (W.heap.size + 1) [.int .u8 l1, .slice A2 n2 c2, .int .u16 b2], box 25 W.heap.size [.int .u8 l1, .slice A1 n1 c1, .int .u16 b1]] ++ XM y1 M1 vs1) w_1_5 from V_1_5.out)
        refine hK.out _ _ (hHeld.go Bw_1_5.out) (fun hHeld => ?_)
        clear hK K
        try simp only [Act.put, List.setIfInBounds_toArray, List.set_cons_zero, List.set_cons_succ]
        refine wpAnyH_ready (rs := [3, 4]) (by kernel_rfl) (by simp) ?_
        refine AllReadyH.cons (List.getElem?_toArray.trans rfl) (fun K hK => ?_) ?_
        · go_simp
          refine (made_any l1 b2 A2 n2 c2 L2 _ (H2.out.below V_1_5s.out.below)).mono ?_
          rintro e w_1_5_3 ⟨y2, M2, vs2, rfl, im2, hp_1_5_3⟩
          try go_wp2_with fail
          have IM2 := Lib.hid im2
          have B_1_5_3 := Lib.hid hp_1_5_3.below
          have V_1_5_3 := Lib.hid (show Hp W ([box 29 w_1.heap.size [.int .i64 0, .int .i64 0, .slice none 0 0, .slice none 0 0], box 25 (W.heap.size + 1) [.int .u8 l1, .slice A2 n2 c2, .int .u16 b2], box 25 W.heap.size [.int .u8 l1, .slice A1 n1 c1, .int .u16 b1]] ++ (XM y2 M2 vs2 ++ XM y1 M1 vs1)) w_1_5_3 from joined (l := [box 29 w_1.heap.size [.int .i64 0, .int .i64 0, .slice none 0 0, .slice none 0 0], box 25 (W.heap.size + 1) [.int .u8 l1, .slice A2 n2 c2, .int .u16 b2], box 25 W.heap.size [.int .u8 l1, .slice A1 n1 c1, .int .u16 b1]]) (a := XM y1 M1 vs1) (b := XM y2 M2 vs2) (V_1_5s.out.join hp_1_5_3))
          clear hp_1_5_3 im2
          refine hK.out _ _ (hHeld.go B_1_5_3.out) (fun hHeld => ?_)
          clear hK K
          try simp only [Act.put, List.setIfInBounds_toArray, List.set_cons_zero, List.set_cons_succ]
          refine wpAnyH_ready (rs := [4]) (by kernel_rfl) (by simp) ?_
          refine AllReadyH.cons (List.getElem?_toArray.trans rfl) (fun K hK => ?_) AllReadyH.nil
          have bq4 : W.heap.size + 1 < w_1_5_3.heap.size := (V_1_5_3.out.box_at (i := 1) (j := 0) rfl rfl).2.2
          obtain ⟨w_1_5_3_4, hw_1_5_3_4⟩ : ∃ z, z = (w_1_5_3.alloc (.cells #[.int .i64 0, .int .i64 0, .slice none 0 0, .slice none 0 0] 29)) := ⟨_, rfl⟩
          have V_1_5_3_4 := Lib.hid (show Hp _ (box 29 w_1_5_3.heap.size [.int .i64 0, .int .i64 0, .slice none 0 0, .slice none 0 0] :: _) w_1_5_3_4 by rw [hw_1_5_3_4]; exact V_1_5_3.out.box_new 29 [.int .i64 0, .int .i64 0, .slice none 0 0, .slice none 0 0])
          have Bw_1_5_3_4 := Lib.hid (show Below w_1_5_3.heap.size w_1_5_3 w_1_5_3_4 by rw [hw_1_5_3_4]; exact bnew _ _)
          go_simp
          rw [← hw_1_5_3_4]
          clear hw_1_5_3_4
          have V_1_5_3_4s := Lib.hid (show Hp W ([box 29 w_1_5_3.heap.size [.int .i64 0, .int .i64 0, .slice none 0 0, .slice none 0 0], box 29 w_1.heap.size [.int .i64 0, .int .i64 0, .slice none 0 0, .slice none 0 0], box 25 (W.heap.size + 1) [.int .u8 l1, .slice A2 n2 c2, .int .u16 b2], box 25 W.heap.size [.int .u8 l1, .slice A1 n1 c1, .int .u16 b1]] ++ (XM y2 M2 vs2 ++ XM y1 M1 vs1)) w_1_5_3_4 from V_1_5_3_4.out)
          refine hK.out _ _ (hHeld.go Bw_1_5_3_4.out) (fun hHeld => ?_)
          clear hK K
          try simp only [Act.put, List.setIfInBounds_toArray, List.set_cons_zero, List.set_cons_succ]
          refine wpAnyH_ready (rs := [6]) (by kernel_rfl) (by simp) ?_
          refine AllReadyH.cons (List.getElem?_toArray.trans rfl) (fun K hK => ?_) AllReadyH.nil
          obtain ⟨r0, o0, z0⟩ := V_1_5_3_4s.out.box_at (i := 0) (j := 0) rfl rfl
          obtain ⟨r1, o1, z1⟩ := V_1_5_3_4s.out.box_at (i := 0) (j := 1) rfl rfl
          obtain ⟨r2, o2, z2⟩ := V_1_5_3_4s.out.box_at (i := 0) (j := 2) rfl rfl
          obtain ⟨r3, o3, z3⟩ := V_1_5_3_4s.out.box_at (i := 0) (j := 3) rfl rfl
          have VS4 := Lib.hid (show Hp W ([box 29 w_1_5_3.heap.size [.int .i64 M1.lt, .int .i64 M1.st, .slice y1.A y1.n y1.c, .slice y1.B y1.m y1.d], box 29 w_1.heap.size [.int .i64 0, .int .i64 0, .slice none 0 0, .slice none 0 0], box 25 (W.heap.size + 1) [.int .u8 l1, .slice A2 n2 c2, .int .u16 b2], box 25 W.heap.size [.int .u8 l1, .slice A1 n1 c1, .int .u16 b1]] ++ (XM y2 M2 vs2 ++ XM y1 M1 vs1)) _ from ((((V_1_5_3_4s.out.box_set (i := 0) rfl 0 (.int .i64 M1.lt)).box_set (i := 0) rfl 1 (.int .i64 M1.st)).box_set (i := 0) rfl 2 (.slice y1.A y1.n y1.c)).box_set (i := 0) rfl 3 (.slice y1.B y1.m y1.d)))
          go_simp
          refine hK.out _ _ (((((hHeld.set _ _ _ (List.forall_mem_cons.2 ⟨(by show ¬ W.heap.size = w_1_5_3.heap.size; omega), List.forall_mem_cons.2 ⟨(by show ¬ W.heap.size = w_1_5_3.heap.size; omega), List.forall_mem_cons.2 ⟨(by show ¬ W.heap.size = w_1_5_3.heap.size; omega), List.forall_mem_cons.2 ⟨(by show ¬ W.heap.size + 1 = w_1_5_3.heap.size; omega), List.forall_mem_cons.2 ⟨(by show ¬ W.heap.size + 1 = w_1_5_3.heap.size; omega), List.forall_mem_cons.2 ⟨(by show ¬ W.heap.size + 1 = w_1_5_3.heap.size; omega), fun _ h => by simp at h⟩⟩⟩⟩⟩⟩)).set _ _ _ (List.forall_mem_cons.2 ⟨(by show ¬ W.heap.size = w_1_5_3.heap.size; omega), List.forall_mem_cons.2 ⟨(by show ¬ W.heap.size = w_1_5_3.heap.size; omega), List.forall_mem_cons.2 ⟨(by show ¬ W.heap.size = w_1_5_3.heap.size; omega), List.forall_mem_cons.2 ⟨(by show ¬ W.heap.size + 1 = w_1_5_3.heap.size; omega), List.forall_mem_cons.2 ⟨(by show ¬ W.heap.size + 1 = w_1_5_3.heap.size; omega), List.forall_mem_cons.2 ⟨(by show ¬ W.heap.size + 1 = w_1_5_3.heap.size; omega), fun _ h => by simp at h⟩⟩⟩⟩⟩⟩)).set _ _ _ (List.forall_mem_cons.2 ⟨(by show ¬ W.heap.size = w_1_5_3.heap.size; omega), List.forall_mem_cons.2 ⟨(by show ¬ W.heap.size = w_1_5_3.heap.size; omega), List.forall_mem_cons.2 ⟨(by show ¬ W.heap.size = w_1_5_3.heap.size; omega), List.forall_mem_cons.2 ⟨(by show ¬ W.heap.size + 1 = w_1_5_3.heap.size; omega), List.forall_mem_cons.2 ⟨(by show ¬ W.heap.size + 1 = w_1_5_3.heap.size; omega), List.forall_mem_cons.2 ⟨(by show ¬ W.heap.size + 1 = w_1_5_3.heap.size; omega), fun _ h => by simp at h⟩⟩⟩⟩⟩⟩)).set _ _ _ (List.forall_mem_cons.2 ⟨(by show ¬ W.heap.size = w_1_5_3.heap.size; omega), List.forall_mem_cons.2 ⟨(by show ¬ W.heap.size = w_1_5_3.heap.size; omega), List.forall_mem_cons.2 ⟨(by show ¬ W.heap.size = w_1_5_3.heap.size; omega), List.forall_mem_cons.2 ⟨(by show ¬ W.heap.size + 1 = w_1_5_3.heap.size; omega), List.forall_mem_cons.2 ⟨(by show ¬ W.heap.size + 1 = w_1_5_3.heap.size; omega), List.forall_mem_cons.2 ⟨(by show ¬ W.heap.size + 1 = w_1_5_3.heap.size; omega), fun _ h => by simp at h⟩⟩⟩⟩⟩⟩))) (fun hHeld => ?_)
          clear hK K
          try simp only [Act.put, List.setIfInBounds_toArray, List.set_cons_zero, List.set_cons_succ]
          refine wpAnyH_ready (rs := [7]) (by kernel_rfl) (by simp) ?_
          refine AllReadyH.cons (List.getElem?_toArray.trans rfl) (fun K hK => ?_) AllReadyH.nil
          obtain ⟨r0, o0, z0⟩ := VS4.out.box_at (i := 1) (j := 0) rfl rfl
          obtain ⟨r1, o1, z1⟩ := VS4.out.box_at (i := 1) (j := 1) rfl rfl
          obtain ⟨r2, o2, z2⟩ := VS4.out.box_at (i := 1) (j := 2) rfl rfl
          obtain ⟨r3, o3, z3⟩ := VS4.out.box_at (i := 1) (j := 3) rfl rfl
          have VS5 := Lib.hid (show Hp W ([box 29 w_1_5_3.heap.size [.int .i64 M1.lt, .int .i64 M1.st, .slice y1.A y1.n y1.c, .slice y1.B y1.m y1.d], box 29 w_1.heap.size [.int .i64 M2.lt, .int .i64 M2.st, .slice y2.A y2.n y2.c, .slice y2.B y2.m y2.d], box 25 (W.heap.size + 1) [.int .u8 l1, .slice A2 n2 c2, .int .u16 b2], box 25 W.heap.size [.int .u8 l1, .slice A1 n1 c1, .int .u16 b1]] ++ (XM y2 M2 vs2 ++ XM y1 M1 vs1)) _ from ((((VS4.out.box_set (i := 1) rfl 0 (.int .i64 M2.lt)).box_set (i := 1) rfl 1 (.int .i64 M2.st)).box_set (i := 1) rfl 2 (.slice y2.A y2.n y2.c)).box_set (i := 1) rfl 3 (.slice y2.B y2.m y2.d)))
          go_simp
          refine hK.out _ _ (((((hHeld.set _ _ _ (List.forall_mem_cons.2 ⟨(by show ¬ W.heap.size = w_1.heap.size; omega), List.forall_mem_cons.2 ⟨(by show ¬ W.heap.size = w_1.heap.size; omega), List.forall_mem_cons.2 ⟨(by show ¬ W.heap.size = w_1.heap.size; omega), List.forall_mem_cons.2 ⟨(by show ¬ W.heap.size + 1 = w_1.heap.size; omega), List.forall_mem_cons.2 ⟨(by show ¬ W.heap.size + 1 = w_1.heap.size; omega), List.forall_mem_cons.2 ⟨(by show ¬ W.heap.size + 1 = w_1.heap.size; omega), fun _ h => by simp at h⟩⟩⟩⟩⟩⟩)).set _ _ _ (List.forall_mem_cons.2 ⟨(by show ¬ W.heap.size = w_1.heap.size; omega), List.forall_mem_cons.2 ⟨(by show ¬ W.heap.size = w_1.heap.size; omega), List.forall_mem_cons.2 ⟨(by show ¬ W.heap.size = w_1.heap.size; omega), List.forall_mem_cons.2 ⟨(by show ¬ W.heap.size + 1 = w_1.heap.size; omega), List.forall_mem_cons.2 ⟨(by show ¬ W.heap.size + 1 = w_1.heap.size; omega), List.forall_mem_cons.2 ⟨(by show ¬ W.heap.size + 1 = w_1.heap.size; omega), fun _ h => by simp at h⟩⟩⟩⟩⟩⟩)).set _ _ _ (List.forall_mem_cons.2 ⟨(by show ¬ W.heap.size = w_1.heap.size; omega), List.forall_mem_cons.2 ⟨(by show ¬ W.heap.size = w_1.heap.size; omega), List.forall_mem_cons.2 ⟨(by show ¬ W.heap.size = w_1.heap.size; omega), List.forall_mem_cons.2 ⟨(by show ¬ W.heap.size + 1 = w_1.heap.size; omega), List.forall_mem_cons.2 ⟨(by show ¬ W.heap.size + 1 = w_1.heap.size; omega), List.forall_mem_cons.2 ⟨(by show ¬ W.heap.size + 1 = w_1.heap.size; omega), fun _ h => by simp at h⟩⟩⟩⟩⟩⟩)).set _ _ _ (List.forall_mem_cons.2 ⟨(by show ¬ W.heap.size = w_1.heap.size; omega), List.forall_mem_cons.2 ⟨(by show ¬ W.heap.size = w_1.heap.size; omega), List.forall_mem_cons.2 ⟨(by show ¬ W.heap.size = w_1.heap.size; omega), List.forall_mem_cons.2 ⟨(by show ¬ W.heap.size + 1 = w_1.heap.size; omega), List.forall_mem_cons.2 ⟨(by show ¬ W.heap.size + 1 = w_1.heap.size; omega), List.forall_mem_cons.2 ⟨(by show ¬ W.heap.size + 1 = w_1.heap.size; omega), fun _ h => by simp at h⟩⟩⟩⟩⟩⟩))) (fun hHeld => ?_)
          clear hK K
          try simp only [Act.put, List.setIfInBounds_toArray, List.set_cons_zero, List.set_cons_succ]
          refine wpAnyH_done (by kernel_rfl) ?_ _
          go_wp2_with fail
          go_meet
          exact ⟨_, _, y1, M1, y2, M2, rfl, rfl, by rw [HK.out]; exact IM1.out.vld, by rw [HK.out]; exact IM2.out.vld, IM1.out.few, IM2.out.few, IM1.out.dfa (a := [box 29 w_1_5_3.heap.size [.int .i64 M1.lt, .int .i64 M1.st, .slice y1.A y1.n y1.c, .slice y1.B y1.m y1.d], box 29 w_1.heap.size [.int .i64 M2.lt, .int .i64 M2.st, .slice y2.A y2.n y2.c, .slice y2.B y2.m y2.d], box 25 (W.heap.size + 1) [.int .u8 l1, .slice A2 n2 c2, .int .u16 b2], box 25 W.heap.size [.int .u8 l1, .slice A1 n1 c1, .int .u16 b1]] ++ XM y2 M2 vs2) (b := []) (by rw [List.append_nil, List.append_assoc]; exact VS5.out), IM2.out.dfa (a := [box 29 w_1_5_3.heap.size [.int .i64 M1.lt, .int .i64 M1.st, .slice y1.A y1.n y1.c, .slice y1.B y1.m y1.d], box 29 w_1.heap.size [.int .i64 M2.lt, .int .i64 M2.st, .slice y2.A y2.n y2.c, .slice y2.B y2.m y2.d], box 25 (W.heap.size + 1) [.int .u8 l1, .slice A2 n2 c2, .int .u16 b2], box 25 W.heap.size [.int .u8 l1, .slice A1 n1 c1, .int .u16 b1]]) (b := XM y1 M1 vs1) VS5.out, VS5.out.box_there (i := 0) rfl (by simp), VS5.out.box_there (i := 1) rfl (by simp), VS5.out.below⟩
        refine AllReadyH.cons (List.getElem?_toArray.trans rfl) (fun K hK => ?_) ?_
        · have bq4 : W.heap.size + 1 < w_1_5.heap.size := (V_1_5s.out.box_at (i := 1) (j := 0) rfl rfl).2.2
          obtain ⟨w_1_5_4, hw_1_5_4⟩ : ∃ z, z = (w_1_5.alloc (.cells #[.int .i64 0, .int .i64 0, .slice none 0 0, .slice none 0 0] 29)) := ⟨_, rfl⟩
          have V_1_5_4 := Lib.hid (show Hp _ (box 29 w_1_5.heap.size [.int .i64 0, .int .i64 0, .slice none 0 0, .slice none 0 0] :: _) w_1_5_4 by rw [hw_1_5_4]; exact V_1_5s.out.box_new 29 [.int .i64 0, .int .i64 0, .slice none 0 0, .slice none 0 0])
          have Bw_1_5_4 := Lib.hid (show Below w_1_5.heap.size w_1_5 w_1_5_4 by rw [hw_1_5_4]; exact bnew _ _)
          go_simp
          rw [← hw_1_5_4]
          clear hw_1_5_4
          have V_1_5_4s := Lib.hid (show Hp W ([box 29 w_1_5.heap.size [.int .i64 0, .int .i64 0, .slice none 0 0, .slice none 0 0], box 29 w_1.heap.size [.int .i64 0, .int .i64 0, .slice none 0 0, .slice none 0 0], box 25 (W.heap.size + 1) [.int .u8 l1, .slice A2 n2 c2, .int .u16 b2], box 25 W.heap.size [.int .u8 l1, .slice A1 n1 c1, .int .u16 b1]] ++ XM y1 M1 vs1) w_1_5_4 from V_1_5_4.out)
          refine hK.out _ _ (hHeld.go Bw_1_5_4.out) (fun hHeld => ?_)
          clear hK K
          try simp only [Act.put, List.setIfInBounds_toArray, List.set_cons_zero, List.set_cons_succ]
          refine wpAnyH_ready (rs := [3]) (by kernel_rfl) (by simp) ?_
          refine AllReadyH.cons (List.getElem?_toArray.trans rfl) (fun K hK => ?_) AllReadyH.nil
          go_simp
          refine (made_any l1 b2 A2 n2 c2 L2 _ (H2.out.below V_1_5_4s.out.below)).mono ?_
          rintro e w_1_5_4_3 ⟨y2, M2, vs2, rfl, im2, hp_1_5_4_3⟩
          try go_wp2_with fail
          have IM2 := Lib.hid im2
          have B_1_5_4_3 := Lib.hid hp_1_5_4_3.below
          have V_1_5_4_3 := Lib.hid (show Hp W ([box 29 w_1_5.heap.size [.int .i64 0, .int .i64 0, .slice none 0 0, .slice none 0 0], box 29 w_1.heap.size [.int .i64 0, .int .i64 0, .slice none 0 0, .slice none 0 0], box 25 (W.heap.size + 1) [.int .u8 l1, .slice A2 n2 c2, .int .u16 b2], box 25 W.heap.size [.int .u8 l1, .slice A1 n1 c1, .int .u16 b1]] ++ (XM y2 M2 vs2 ++ XM y1 M1 vs1)) w_1_5_4_3 from joined (l := [box 29 w_1_5.heap.size [.int .i64 0, .int .i64 0, .slice none 0 0, .slice none 0 0], box 29 w_1.heap.size [.int .i64 0, .int .i64 0, .slice none 0 0, .slice none 0 0], box 25 (W.heap.size + 1) [.int .u8 l1, .slice A2 n2 c2, .int .u16 b2], box 25 W.heap.size [.int .u8 l1, .slice A1 n1 c1, .int .u16 b1]]) (a := XM y1 M1 vs1) (b := XM y2 M2 vs2) (V_1_5_4s.out.join hp_1_5_4_3))
          clear hp_1_5_4_3 im2
          refine hK.out _ _ (hHeld.go B_1_5_4_3.out) (fun hHeld => ?_)
          clear hK K
          try simp only [Act.put, List.setIfInBounds_toArray, List.set_cons_zero, List.set_cons_succ]
          refine wpAnyH_ready (rs := [6]) (by kernel_rfl) (by simp) ?_
          refine AllReadyH.cons (List.getElem?_toArray.trans rfl) (fun K hK => ?_) AllReadyH.nil
          obtain ⟨r0, o0, z0⟩ := V_1_5_4_3.out.box_at (i := 0) (j := 0) rfl rfl
          obtain ⟨r1, o1, z1⟩ := V_1_5_4_3.out.box_at (i := 0) (j := 1) rfl rfl
          obtain ⟨r2, o2, z2⟩ := V_1_5_4_3.out.box_at (i := 0) (j := 2) rfl rfl
          obtain ⟨r3, o3, z3⟩ := V_1_5_4_3.out.box_at (i := 0) (j := 3) rfl rfl
          have VS4 := Lib.hid (show Hp W ([box 29 w_1_5.heap.size [.int .i64 M1.lt, .int .i64 M1.st, .slice y1.A y1.n y1.c, .slice y1.B y1.m y1.d], box 29 w_1.heap.size [.int .i64 0, .int .i64 0, .slice none 0 0, .slice none 0 0], box 25 (W.heap.size + 1) [.int .u8 l1, .slice A2 n2 c2, .int .u16 b2], box 25 W.heap.size [.int .u8 l1, .slice A1 n1 c1, .int .u16 b1]] ++ (XM y2 M2 vs2 ++ XM y1 M1 vs1)) _ from ((((V_1_5_4_3.out.box_set (i := 0) rfl 0 (.int .i64 M1.lt)).box_set (i := 0) rfl 1 (.int .i64 M1.st)).box_set (i := 0) rfl 2 (.slice y1.A y1.n y1.c)).box_set (i := 0) rfl 3 (.slice y1.B y1.m y1.d)))
          go_simp
          refine hK.out _ _ (((((hHeld.set _ _ _ (List.forall_mem_cons.2 ⟨(by show ¬ W.heap.size = w_1_5.heap.size; omega), List.forall_mem_cons.2 ⟨(by show ¬ W.heap.size = w_1_5.heap.size; omega), List.forall_mem_cons.2 ⟨(by show ¬ W.heap.size = w_1_5.heap.size; omega), List.forall_mem_cons.2 ⟨(by show ¬ W.heap.size + 1 = w_1_5.heap.size; omega), List.forall_mem_cons.2 ⟨(by show ¬ W.heap.size + 1 = w_1_5.heap.size; omega), List.forall_mem_cons.2 ⟨(by show ¬ W.heap.size + 1 = w_1_5.heap.size; omega), fun _ h => by simp at h⟩⟩⟩⟩⟩⟩)).set _ _ _ (List.forall_mem_cons.2 ⟨(by show ¬ W.heap.size = w_1_5.heap.size; omega), List.forall_mem_cons.2 ⟨(by show ¬ W.heap.size = w_1_5.heap.size; omega), List.forall_mem_cons.2 ⟨(by show ¬ W.heap.size = w_1_5.heap.size; omega), List.forall_mem_cons.2 ⟨(by show ¬ W.heap.size + 1 = w_1_5.heap.size; omega), List.forall_mem_cons.2 ⟨(by show ¬ W.heap.size + 1 = w_1_5.heap.size; omega), List.forall_mem_cons.2 ⟨(by show ¬ W.heap.size + 1 = w_1_5.heap.size; omega), fun _ h => by simp at h⟩⟩⟩⟩⟩⟩)).set _ _ _ (List.forall_mem_cons.2 ⟨(by show ¬ W.heap.size = w_1_5.heap.size; omega), List.forall_mem_cons.2 ⟨(by show ¬ W.heap.size = w_1_5.heap.size; omega), List.forall_mem_cons.2 ⟨(by show ¬ W.heap.size = w_1_5.heap.size; omega), List.forall_mem_cons.2 ⟨(by show ¬ W.heap.size + 1 = w_1_5.heap.size; omega), List.forall_mem_cons.2 ⟨(by show ¬ W.heap.size + 1 = w_1_5.heap.size; omega), List.forall_mem_cons.2 ⟨(by show ¬ W.heap.size + 1 = w_1_5.heap.size; omega), fun _ h => by simp at h⟩⟩⟩⟩⟩⟩)).set _ _ _ (List.forall_mem_cons.2 ⟨(by show ¬ W.heap.size = w_1_5.heap.size; omega), List.forall_mem_cons.2 ⟨(by show ¬ W.heap.size = w_1_5.heap.size; omega), List.forall_mem_cons.2 ⟨(by show ¬ W.heap.size = w_1_5.heap.size; omega), List.forall_mem_cons.2 ⟨(by show ¬ W.heap.size + 1 = w_1_5.heap.size; omega), List.forall_mem_cons.2 ⟨(by show ¬ W.heap.size + 1 = w_1_5.heap.size; omega), List.forall_mem_cons.2 ⟨(by show ¬ W.heap.size + 1 = w_1_5.heap.size; omega), fun _ h => by simp at h⟩⟩⟩⟩⟩⟩))) (fun hHeld => ?_)
          clear hK K
          try simp only [Act.put, List.setIfInBounds_toArray, List.set_cons_zero, List.set_cons_succ]
          refine wpAnyH_ready (rs := [7]) (by kernel_rfl) (by simp) ?_
          refine AllReadyH.cons (List.getElem?_toArray.trans rfl) (fun K hK => ?_) AllReadyH.nil
          obtain ⟨r0, o0, z0⟩ := VS4.out.box_at (i := 1) (j := 0) rfl rfl
          obtain ⟨r1, o1, z1⟩ := VS4.out.box_at (i := 1) (j := 1) rfl rfl
          obtain ⟨r2, o2, z2⟩ := VS4.out.box_at (i := 1) (j := 2) rfl rfl
          obtain ⟨r3, o3, z3⟩ := VS4.out.box_at (i := 1) (j := 3) rfl rfl
          have VS5 := Lib.hid (show Hp W ([box 29 w_1_5.heap.size [.int .i64 M1.lt, .int .i64 M1.st, .slice y1.A y1.n y1.c, .slice y1.B y1.m y1.d], box 29 w_1.heap.size [.int .i64 M2.lt, .int .i64 M2.st, .slice y2.A y2.n y2.c, .slice y2.B y2.m y2.d], box 25 (W.heap.size + 1) [.int .u8 l1, .slice A2 n2 c2, .int .u16 b2], box 25 W.heap.size [.int .u8 l1, .slice A1 n1 c1, .int .u16 b1]] ++ (XM y2 M2 vs2 ++ XM y1 M1 vs1)) _ from ((((VS4.out.box_set (i := 1) rfl 0 (.int .i64 M2.lt)).box_set (i := 1) rfl 1 (.int .i64 M2.st)).box_set (i := 1) rfl 2 (.slice y2.A y2.n y2.c)).box_set (i := 1) rfl 3 (.slice y2.B y2.m y2.d)))
          go_simp
          refine hK.out _ _ (((((hHeld.set _ _ _ (List.forall_mem_cons.2 ⟨(by show ¬ W.heap.size = w_1.heap.size; omega), List.forall_mem_cons.2 ⟨(by show ¬ W.heap.size = w_1.heap.size; omega), List.forall_mem_cons.2 ⟨(by show ¬ W.heap.size = w_1.heap.size; omega), List.forall_mem_cons.2 ⟨(by show ¬ W.heap.size + 1 = w_1.heap.size; omega), List.forall_mem_cons.2 ⟨(by show ¬ W.heap.size + 1 = w_1.heap.size; omega), List.forall_mem_cons.2 ⟨(by show ¬ W.heap.size + 1 = w_1.heap.size; omega), fun _ h => by simp at h⟩⟩⟩⟩⟩⟩)).set _ _ _ (List.forall_mem_cons.2 ⟨(by show ¬ W.heap.size = w_1.heap.size; omega), List.forall_mem_cons.2 ⟨(by show ¬ W.heap.size = w_1.heap.size; omega), List.forall_mem_cons.2 ⟨(by show ¬ W.heap.size = w_1.heap.size; omega), List.forall_mem_cons.2 ⟨(by show ¬ W.heap.size + 1 = w_1.heap.size; omega), List.forall_mem_cons.2 ⟨(by show ¬ W.heap.size + 1 = w_1.heap.size; omega), List.forall_mem_cons.2 ⟨(by show ¬ W.heap.size + 1 = w_1.heap.size; omega), fun _ h => by simp at h⟩⟩⟩⟩⟩⟩)).set _ _ _ (List.forall_mem_cons.2 ⟨(by show ¬ W.heap.size = w_1.heap.size; omega), List.forall_mem_cons.2 ⟨(by show ¬ W.heap.size = w_1.heap.size; omega), List.forall_mem_cons.2 ⟨(by show ¬ W.heap.size = w_1.heap.size; omega), List.forall_mem_cons.2 ⟨(by show ¬ W.heap.size + 1 = w_1.heap.size; omega), List.forall_mem_cons.2 ⟨(by show ¬ W.heap.size + 1 = w_1.heap.size; omega), List.forall_mem_cons.2 ⟨(by show ¬ W.heap.size + 1 = w_1.heap.size; omega), fun _ h => by simp at h⟩⟩⟩⟩⟩⟩)).set _ _ _ (List.forall_mem_cons.2 ⟨(by show ¬ W.heap.size = w_1.heap.size; omega), List.forall_mem_cons.2 ⟨(by show ¬ W.heap.size = w_1.heap.size; omega), List.forall_mem_cons.2 ⟨(by show ¬ W.heap.size = w_1.heap.size; omega), List.forall_mem_cons.2 ⟨(by show ¬ W.heap.size + 1 = w_1.heap.size; omega), List.forall_mem_cons.2 ⟨(by show ¬ W.heap.size + 1 = w_1.heap.size; omega), List.forall_mem_cons.2 ⟨(by show ¬ W.heap.size + 1 = w_1.heap.size; omega), fun _ h => by simp at h⟩⟩⟩⟩⟩⟩))) (fun hHeld => ?_)
          clear hK K
          try simp only [Act.put, List.setIfInBounds_toArray, List.set_cons_zero, List.set_cons_succ]
          refine wpAnyH_done (by kernel_rfl) ?_ _
          go_wp2_with fail
          go_meet
          exact ⟨_, _, y1, M1, y2, M2, rfl, rfl, by rw [HK.out]; exact IM1.out.vld, by rw [HK.out]; exact IM2.out.vld, IM1.out.few, IM2.out.few, IM1.out.dfa (a := [box 29 w_1_5.heap.size [.int .i64 M1.lt, .int .i64 M1.st, .slice y1.A y1.n y1.c, .slice y1.B y1.m y1.d], box 29 w_1.heap.size [.int .i64 M2.lt, .int .i64 M2.st, .slice y2.A y2.n y2.c, .slice y2.B y2.m y2.d], box 25 (W.heap.size + 1) [.int .u8 l1, .slice A2 n2 c2, .int .u16 b2], box 25 W.heap.size [.int .u8 l1, .slice A1 n1 c1, .int .u16 b1]] ++ XM y2 M2 vs2) (b := []) (by rw [List.append_nil, List.append_assoc]; exact VS5.out), IM2.out.dfa (a := [box 29 w_1_5.heap.size [.int .i64 M1.lt, .int .i64 M1.st, .slice y1.A y1.n y1.c, .slice y1.B y1.m y1.d], box 29 w_1.heap.size [.int .i64 M2.lt, .int .i64 M2.st, .slice y2.A y2.n y2.c, .slice y2.B y2.m y2.d], box 25 (W.heap.size + 1) [.int .u8 l1, .slice A2 n2 c2, .int .u16 b2], box 25 W.heap.size [.int .u8 l1, .slice A1 n1 c1, .int .u16 b1]]) (b := XM y1 M1 vs1) VS5.out, VS5.out.box_there (i := 0) rfl (by simp), VS5.out.box_there (i := 1) rfl (by simp), VS5.out.below⟩
        exact AllReadyH.nil
      exact AllReadyH.nil
    refine AllReadyH.cons (List.getElem?_toArray.trans rfl) (fun K hK => ?_) ?_
    · have bq4 : W.heap.size + 1 < wy.heap.size := (V2d.out.box_at (i := 0) (j := 0) rfl rfl).2.2
      obtain ⟨w_4, hw_4⟩ : ∃ z, z = (wy.alloc (.cells #[.int .i64 0, .int .i64 0, .slice none 0 0, .slice none 0 0] 29)).drew := ⟨_, rfl⟩
      have V_4 := Lib.hid (show Hp _ (box 29 wy.heap.size [.int .i64 0, .int .i64 0, .slice none 0 0, .slice none 0 0] :: _) w_4 by rw [hw_4]; exact V2d.out.box_new 29 [.int .i64 0, .int .i64 0, .slice none 0 0, .slice none 0 0])
      have Bw_4 := Lib.hid (show Below wy.drew.heap.size wy.drew w_4 by rw [hw_4]; exact bnew _ _)
      go_simp
      rw [← hw_4]
      clear hw_4
      have V_4s := Lib.hid (show Hp W [box 29 wy.heap.size [.int .i64 0, .int .i64 0, .slice none 0 0, .slice none 0 0], box 25 (W.heap.size + 1) [.int .u8 l1, .slice A2 n2 c2, .int .u16 b2], box 25 W.heap.size [.int .u8 l1, .slice A1 n1 c1, .int .u16 b1]] w_4 from V_4.out)
      refine hK.out _ _ (hHeld.go Bw_4.out) (fun hHeld => ?_)
      clear hK K
      try simp only [Act.put, List.setIfInBounds_toArray, List.set_cons_zero, List.set_cons_succ]
      refine wpAnyH_ready (rs := [1, 5]) (by kernel_rfl) (by simp) ?_
      refine AllReadyH.cons (List.getElem?_toArray.trans rfl) (fun K hK => ?_) ?_
      · go_simp
        refine (made_any l1 b1 A1 n1 c1 L1 _ (H1.out.below V_4s.out.below)).mono ?_
        rintro e w_4_1 ⟨y1, M1, vs1, rfl, im1, hp_4_1⟩
        try go_wp2_with fail
        have IM1 := Lib.hid im1
        have B_4_1 := Lib.hid hp_4_1.below
        have V_4_1 := Lib.hid (show Hp W ([box 29 wy.heap.size [.int .i64 0, .int .i64 0, .slice none 0 0, .slice none 0 0], box 25 (W.heap.size + 1) [.int .u8 l1, .slice A2 n2 c2, .int .u16 b2], box 25 W.heap.size [.int .u8 l1, .slice A1 n1 c1, .int .u16 b1]] ++ XM y1 M1 vs1) w_4_1 from Hp.comm (l := [box 29 wy.heap.size [.int .i64 0, .int .i64 0, .slice none 0 0, .slice none 0 0], box 25 (W.heap.size + 1) [.int .u8 l1, .slice A2 n2 c2, .int .u16 b2], box 25 W.heap.size [.int .u8 l1, .slice A1 n1 c1, .int .u16 b1]]) (l2 := XM y1 M1 vs1) (V_4s.out.join hp_4_1))
        clear hp_4_1 im1
        refine hK.out _ _ (hHeld.go B_4_1.out) (fun hHeld => ?_)
        clear hK K
        try simp only [Act.put, List.setIfInBounds_toArray, List.set_cons_zero, List.set_cons_succ]
        refine wpAnyH_ready (rs := [3, 5]) (by kernel_rfl) (by simp) ?_
        refine AllReadyH.cons (List.getElem?_toArray.trans rfl) (fun K hK => ?_) ?_
        · go_simp
          refine (made_any l1 b2 A2 n2 c2 L2 _ (H2.out.below V_4_1.out.below)).mono ?_
          rintro e w_4_1_3 ⟨y2, M2, vs2, rfl, im2, hp_4_1_3⟩
          try go_wp2_with fail
          have IM2 := Lib.hid im2
          have B_4_1_3 := Lib.hid hp_4_1_3.below
          have V_4_1_3 := Lib.hid (show Hp W ([box 29 wy.heap.size [.int .i64 0, .int .i64 0, .slice none 0 0, .slice none 0 0], box 25 (W.heap.size + 1) [.int .u8 l1, .slice A2 n2 c2, .int .u16 b2], box 25 W.heap.size [.int .u8 l1, .slice A1 n1 c1, .int .u16 b1]] ++ (XM y2 M2 vs2 ++ XM y1 M1 vs1)) w_4_1_3 from joined (l := [box 29 wy.heap.size [.int .i64 0, .int .i64 0, .slice none 0 0, .slice none 0 0], box 25 (W.heap.size + 1) [.int .u8 l1, .slice A2 n2 c2, .int .u16 b2], box 25 W.heap.size [.int .u8 l1, .slice A1 n1 c1, .int .u16 b1]]) (a := XM y1 M1 vs1) (b := XM y2 M2 vs2) (V_4_1.out.join hp_4_1_3))
          clear hp_4_1_3 im2
          refine hK.out _ _ (hHeld.go B_4_1_3.out) (fun hHeld => ?_)
          clear hK K
          try simp only [Act.put, List.setIfInBounds_toArray, List.set_cons_zero, List.set_cons_succ]
          refine wpAnyH_ready (rs := [5]) (by kernel_rfl) (by simp) ?_
          refine AllReadyH.cons (List.getElem?_toArray.trans rfl) (fun K hK => ?_) AllReadyH.nil
          have bq5 : W.heap.size + 1 < w_4_1_3.heap.size := (V_4_1_3.out.box_at (i := 1) (j := 0) rfl rfl).2.2
          obtain ⟨w_4_1_3_5, hw_4_1_3_5⟩ : ∃ z, z = (w_4_1_3.alloc (.cells #[.int .i64 0, .int .i64 0, .slice none 0 0, .slice none 0 0] 29)) := ⟨_, rfl⟩
          have V_4_1_3_5 := Lib.hid (show Hp _ (box 29 w_4_1_3.heap.size [.int .i64 0, .int .i64 0, .slice none 0 0, .slice none 0 0] :: _) w_4_1_3_5 by rw [hw_4_1_3_5]; exact V_4_1_3.out.box_new 29 [.int .i64 0, .int .i64 0, .slice none 0 0, .slice none 0 0])
          have Bw_4_1_3_5 := Lib.hid (show Below w_4_1_3.heap.size w_4_1_3 w_4_1_3_5 by rw [hw_4_1_3_5]; exact bnew _ _)
          go_simp
          rw [← hw_4_1_3_5]
          clear hw_4_1_3_5
          have V_4_1_3_5s := Lib.hid (show Hp W ([box 29 w_4_1_3.heap.size [.int .i64 0, .int .i64 0, .slice none 0 0, .slice none 0 0], box 29 wy.heap.size [.int .i64 0, .int .i64 0, .slice none 0 0, .slice none 0 0], box 25 (W.heap.size + 1) [.int .u8 l1, .slice A2 n2 c2, .int .u16 b2], box 25 W.heap.size [.int .u8 l1, .slice A1 n1 c1, .int .u16 b1]] ++ (XM y2 M2 vs2 ++ XM y1 M1 vs1)) w_4_1_3_5 from V_4_1_3_5.out)
          refine hK.out _ _ (hHeld.go Bw_4_1_3_5.out) (fun hHeld => ?_)
          clear hK K
          try simp only [Act.put, List.setIfInBounds_toArray, List.set_cons_zero, List.set_cons_succ]
          refine wpAnyH_ready (rs := [6]) (by kernel_rfl) (by simp) ?_
          refine AllReadyH.cons (List.getElem?_toArray.trans rfl) (fun K hK => ?_) AllReadyH.nil
          obtain ⟨r0, o0, z0⟩ := V_4_1_3_5s.out.box_at (i := 1) (j := 0) rfl rfl
          obtain ⟨r1, o1, z1⟩ := V_4_1_3_5s.out.box_at (i := 1) (j := 1) rfl rfl
          obtain ⟨r2, o2, z2⟩ := V_4_1_3_5s.out.box_at (i := 1) (j := 2) rfl rfl
          obtain ⟨r3, o3, z3⟩ := V_4_1_3_5s.out.box_at (i := 1) (j := 3) rfl rfl
          have VS4 := Lib.hid (show Hp W ([box 29 w_4_1_3.heap.size [.int .i64 0, .int .i64 0, .slice none 0 0, .slice none 0 0], box 29 wy.heap.size [.int .i64 M1.lt, .int .i64 M1.st, .slice y1.A y1.n y1.c, .slice y1.B y1.m y1.d], box 25 (W.heap.size + 1) [.int .u8 l1, .slice A2 n2 c2, .int .u16 b2], box 25 W.heap.size [.int .u8 l1, .slice A1 n1 c1, .int .u16 b1]] ++ (XM y2 M2 vs2 ++ XM y1 M1 vs1)) _ from ((((V_4_1_3_5s.out.box_set (i := 1) rfl 0 (.int .i64 M1.lt)).box_set (i := 1) rfl 1 (.int .i64 M1.st)).box_set (i := 1) rfl 2 (.slice y1.A y1.n y1.c)).box_set (i := 1) rfl 3 (.slice y1.B y1.m y1.d)))
          go_simp
          refine hK.out _ _ (((((hHeld.set _ _ _ (List.forall_mem_cons.2 ⟨(by show ¬ W.heap.size = wy.heap.size; omega), List.forall_mem_cons.2 ⟨(by show ¬ W.heap.size = wy.heap.size; omega), List.forall_mem_cons.2 ⟨(by show ¬ W.heap.size = wy.heap.size; omega), List.forall_mem_cons.2 ⟨(by show ¬ W.heap.size + 1 = wy.heap.size; omega), List.forall_mem_cons.2 ⟨(by show ¬ W.heap.size + 1 = wy.heap.size; omega), List.forall_mem_cons.2 ⟨(by show ¬ W.heap.size + 1 = wy.heap.size; omega), fun _ h => by simp at h⟩⟩⟩⟩⟩⟩)).set _ _ _ (List.forall_mem_cons.2 ⟨(by show ¬ W.heap.size = wy.heap.size; omega), List.forall_mem_cons.2 ⟨(by show ¬ W.heap.size = wy.heap.size; omega), List.forall_mem_cons.2 ⟨(by show ¬ W.heap.size = wy.heap.size; omega), List.forall_mem_cons.2 ⟨(by show ¬ W.heap.size + 1 = wy.heap.size; omega), List.forall_mem_cons.2 ⟨(by show ¬ W.heap.size + 1 = wy.heap.size; omega), List.forall_mem_cons.2 ⟨(by show ¬ W.heap.size + 1 = wy.heap.size; omega), fun _ h => by simp at h⟩⟩⟩⟩⟩⟩)).set _ _ _ (List.forall_mem_cons.2 ⟨(by show ¬ W.heap.size = wy.heap.size; omega), List.forall_mem_cons.2 ⟨(by show ¬ W.heap.size = wy.heap.size; omega), List.forall_mem_cons.2 ⟨(by show ¬ W.heap.size = wy.heap.size; omega), List.forall_mem_cons.2 ⟨(by show ¬ W.heap.size + 1 = wy.heap.size; omega), List.forall_mem_cons.2 ⟨(by show ¬ W.heap.size + 1 = wy.heap.size; omega), List.forall_mem_cons.2 ⟨(by show ¬ W.heap.size + 1 = wy.heap.size; omega), fun _ h => by simp at h⟩⟩⟩⟩⟩⟩)).set _ _ _ (List.forall_mem_cons.2 ⟨(by show ¬ W.heap.size = wy.heap.size; omega), List.forall_mem_cons.2 ⟨(by show ¬ W.heap.size = wy.heap.size; omega), List.forall_mem_cons.2 ⟨(by show ¬ W.heap.size = wy.heap.size; omega), List.forall_mem_cons.2 ⟨(by show ¬ W.heap.size + 1 = wy.heap.size; omega), List.forall_mem_cons.2 ⟨(by show ¬ W.heap.size + 1 = wy.heap.size; omega), List.forall_mem_cons.2 ⟨(by show ¬ W.heap.size + 1 = wy.heap.size; omega), fun _ h => by simp at h⟩⟩⟩⟩⟩⟩))) (fun hHeld => ?_)
          clear hK K
          try simp only [Act.put, List.setIfInBounds_toArray, List.set_cons_zero, List.set_cons_succ]
          refine wpAnyH_ready (rs := [7]) (by kernel_rfl) (by simp) ?_
          refine AllReadyH.cons (List.getElem?_toArray.trans rfl) (fun K hK => ?_) AllReadyH.nil
          obtain ⟨r0, o0, z0⟩ := VS4.out.box_at (i := 0) (j := 0) rfl rfl
          obtain ⟨r1, o1, z1⟩ := VS4.out.box_at (i := 0) (j := 1) rfl rfl
          obtain ⟨r2, o2, z2⟩ := VS4.out.box_at (i := 0) (j := 2) rfl rfl
          obtain ⟨r3, o3, z3⟩ := VS4.out.box_at (i := 0) (j := 3) rfl rfl
          have VS5 := Lib.hid (show Hp W ([box 29 w_4_1_3.heap.size [.int .i64 M2.lt, .int .i64 M2.st, .slice y2.A y2.n y2.c, .slice y2.B y2.m y2.d], box 29 wy.heap.size [.int .i64 M1.lt, .int .i64 M1.st, .slice y1.A y1.n y1.c, .slice y1.B y1.m y1.d], box 25 (W.heap.size + 1) [.int .u8 l1, .slice A2 n2 c2, .int .u16 b2], box 25 W.heap.size [.int .u8 l1, .slice A1 n1 c1, .int .u16 b1]] ++ (XM y2 M2 vs2 ++ XM y1 M1 vs1)) _ from ((((VS4.out.box_set (i := 0) rfl 0 (.int .i64 M2.lt)).box_set (i := 0) rfl 1 (.int .i64 M2.st)).box_set (i := 0) rfl 2 (.slice y2.A y2.n y2.c)).box_set (i := 0) rfl 3 (.slice y2.B y2.m y2.d)))
          go_simp
          refine hK.out _ _ (((((hHeld.set _ _ _ (List.forall_mem_cons.2 ⟨(by show ¬ W.heap.size = w_4_1_3.heap.size; omega), List.forall_mem_cons.2 ⟨(by show ¬ W.heap.size = w_4_1_3.heap.size; omega), List.forall_mem_cons.2 ⟨(by show ¬ W.heap.size = w_4_1_3.heap.size; omega), List.forall_mem_cons.2 ⟨(by show ¬ W.heap.size + 1 = w_4_1_3.heap.size; omega), List.forall_mem_cons.2 ⟨(by show ¬ W.heap.size + 1 = w_4_1_3.heap.size; omega), List.forall_mem_cons.2 ⟨(by show ¬ W.heap.size + 1 = w_4_1_3.heap.size; omega), fun _ h => by simp at h⟩⟩⟩⟩⟩⟩)).set _ _ _ (List.forall_mem_cons.2 ⟨(by show ¬ W.heap.size = w_4_1_3.heap.size; omega), List.forall_mem_cons.2 ⟨(by show ¬ W.heap.size = w_4_1_3.heap.size; omega), List.forall_mem_cons.2 ⟨(by show ¬ W.heap.size = w_4_1_3.heap.size; omega), List.forall_mem_cons.2 ⟨(by show ¬ W.heap.size + 1 = w_4_1_3.heap.size; omega), List.forall_mem_cons.2 ⟨(by show ¬ W.heap.size + 1 = w_4_1_3.heap.size; omega), List.forall_mem_cons.2 ⟨(by show ¬ W.heap.size + 1 = w_4_1_3.heap.size; omega), fun _ h => by simp at h⟩⟩⟩⟩⟩⟩)).set _ _ _ (List.forall_mem_cons.2 ⟨(by show ¬ W.heap.size = w_4_1_3.heap.size; omega), List.forall_mem_cons.2 ⟨(by show ¬ W.heap.size = w_4_1_3.heap.size; omega), List.forall_mem_cons.2 ⟨(by show ¬ W.heap.size = w_4_1_3.heap.size; omega), List.forall_mem_cons.2 ⟨(by show ¬ W.heap.size + 1 = w_4_1_3.heap.size; omega), List.forall_mem_cons.2 ⟨(by show ¬ W.heap.size + 1 = w_4_1_3.heap.size; omega), List.forall_mem_cons.2 ⟨(by show ¬ W.heap.size + 1 = w_4_1_3.heap.size; omega), fun _ h => by simp at h⟩⟩⟩⟩⟩⟩)).set _ _ _ (List.forall_mem_cons.2 ⟨(by show ¬ W.heap.size = w_4_1_3.heap.size; omega), List.forall_mem_cons.2 ⟨(by show ¬ W.heap.size = w_4_1_3.heap.size; omega), List.forall_mem_cons.2 ⟨(by show ¬ W.heap.size = w_4_1_3.heap.size; omega), List.forall_mem_cons.2 ⟨(by show ¬ W.heap.size + 1 = w_4_1_3.heap.size; omega), List.forall_mem_cons.2 ⟨(by show ¬ W.heap.size + 1 = w_4_1_3.heap.size; omega), List.forall_mem_cons.2 ⟨(by show ¬ W.heap.size + 1 = w_4_1_3.heap.size; omega), fun _ h => by simp at h⟩⟩⟩⟩⟩⟩))) (fun hHeld => ?_)
          clear hK K
          try simp only [Act.put, List.setIfInBounds_toArray, List.set_cons_zero, List.set_cons_succ]
          refine wpAnyH_done (by kernel_rfl) ?_ _
          go_wp2_with fail
          go_meet
          exact ⟨_, _, y1, M1, y2, M2, rfl, rfl, by rw [HK.out]; exact IM1.out.vld, by rw [HK.out]; exact IM2.out.vld, IM1.out.few, IM2.out.few, IM1.out.dfa (a := [box 29 w_4_1_3.heap.size [.int .i64 M2.lt, .int .i64 M2.st, .slice y2.A y2.n y2.c, .slice y2.B y2.m y2.d], box 29 wy.heap.size [.int .i64 M1.lt, .int .i64 M1.st, .slice y1.A y1.n y1.c, .slice y1.B y1.m y1.d], box 25 (W.heap.size + 1) [.int .u8 l1, .slice A2 n2 c2, .int .u16 b2], box 25 W.heap.size [.int .u8 l1, .slice A1 n1 c1, .int .u16 b1]] ++ XM y2 M2 vs2) (b := []) (by rw [List.append_nil, List.append_assoc]; exact VS5.out), IM2.out.dfa (a := [box 29 w_4_1_3.heap.size [.int .i64 M2.lt, .int .i64 M2.st, .slice y2.A y2.n y2.c, .slice y2.B y2.m y2.d], box 29 wy.heap.size [.int .i64 M1.lt, .int .i64 M1.st, .slice y1.A y1.n y1.c, .slice y1.B y1.m y1.d], box 25 (W.heap.size + 1) [.int .u8 l1, .slice A2 n2 c2, .int .u16 b2], box 25 W.heap.size [.int .u8 l1, .slice A1 n1 c1, .int .u16 b1]]) (b := XM y1 M1 vs1) VS5.out, VS5.out.box_there (i := 1) rfl (by simp), VS5.out.box_there (i := 0) rfl (by simp), VS5.out.below⟩
        refine AllReadyH.cons (List.getElem?_toArray.trans rfl) (fun K hK => ?_) ?_
        · have bq5 : W.heap.size + 1 < w_4_1.heap.size := (V_4_1.out.box_at (i := 1) (j := 0) rfl rfl).2.2
          obtain ⟨w_4_1_5, hw_4_1_5⟩ : ∃ z, z = (w_4_1.alloc (.cells #[.int .i64 0, .int .i64 0, .slice none 0 0, .slice none 0 0] 29)) := ⟨_, rfl⟩
          have V_4_1_5 := Lib.hid (show Hp _ (box 29 w_4_1.heap.size [.int .i64 0, .int .i64 0, .slice none 0 0, .slice none 0 0] :: _) w_4_1_5 by rw [hw_4_1_5]; exact V_4_1.out.box_new 29 [.int .i64 0, .int .i64 0, .slice none 0 0, .slice none 0 0])
          have Bw_4_1_5 := Lib.hid (show Below w_4_1.heap.size w_4_1 w_4_1_5 by rw [hw_4_1_5]; exact bnew _ _)
          go_simp
          rw [← hw_4_1_5]
          clear hw_4_1_5
          have V_4_1_5s := Lib.hid (show Hp W ([box 29 w_4_1.heap.size [.int .i64 0, .int .i64 0, .slice none 0 0, .slice none 0 0], box 29 wy.heap.size [.int .i64 0, .int .i64 0, .slice none 0 0, .slice none 0 0], box 25 (W.heap.size + 1) [.int .u8 l1, .slice A2 n2 c2, .int .u16 b2], box 25 W.heap.size [.int .u8 l1, .slice A1 n1 c1, .int .u16 b1]] ++ XM y1 M1 vs1) w_4_1_5 from V_4_1_5.out)
          refine hK.out _ _ (hHeld.go Bw_4_1_5.out) (fun hHeld => ?_)
          clear hK K
          try simp only [Act.put, List.setIfInBounds_toArray, List.set_cons_zero, List.set_cons_succ]
          refine wpAnyH_ready (rs := [3]) (by kernel_rfl) (by simp) ?_
          refine AllReadyH.cons (List.getElem?_toArray.trans rfl) (fun K hK => ?_) AllReadyH.nil
          go_simp
          refine (made_any l1 b2 A2 n2 c2 L2 _ (H2.out.below V_4_1_5s.out.below)).mono ?_
          rintro e w_4_1_5_3 ⟨y2, M2, vs2, rfl, im2, hp_4_1_5_3⟩
          try go_wp2_with fail
          have IM2 := Lib.hid im2
          have B_4_1_5_3 := Lib.hid hp_4_1_5_3.below
          have V_4_1_5_3 := Lib.hid (show Hp W ([box 29 w_4_1.heap.size [.int .i64 0, .int .i64 0, .slice none 0 0, .slice none 0 0], box 29 wy.heap.size [.int .i64 0, .int .i64 0, .slice none 0 0, .slice none 0 0], box 25 (W.heap.size + 1) [.int .u8 l1, .slice A2 n2 c2, .int .u16 b2], box 25 W.heap.size [.int .u8 l1, .slice A1 n1 c1, .int .u16 b1]] ++ (XM y2 M2 vs2 ++ XM y1 M1 vs1)) w_4_1_5_3 from joined (l := [box 29 w_4_1.heap.size [.int .i64 0, .int .i64 0, .slice none 0 0, .slice none 0 0], box 29 wy.heap.size [.int .i64 0, .int .i64 0, .slice none 0 0, .slice none 0 0], box 25 (W.heap.size + 1) [.int .u8 l1, .slice A2 n2 c2, .int .u16 b2], box 25 W.heap.size [.int .u8 l1, .slice A1 n1 c1, .int .u16 b1]]) (a := XM y1 M1 vs1) (b := XM y2 M2 vs2) (V_4_1_5s.out.join hp_4_1_5_3))
          clear hp_4_1_5_3 im2
          refine hK.out _ _ (hHeld.go B_4_1_5_3.out) (fun hHeld => ?_)
          clear hK K
          try simp only [Act.put, List.setIfInBounds_toArray, List.set_cons_zero, List.set_cons_succ]
          refine wpAnyH_ready (rs := [6]) (by kernel_rfl) (by simp) ?_
          refine AllReadyH.cons (List.getElem?_toArray.trans rfl) (fun K hK => ?_) AllReadyH.nil
          obtain ⟨r0, o0, z0⟩ := V_4_1_5_3.out.box_at (i := 1) (j := 0) rfl rfl
          obtain ⟨r1, o1, z1⟩ := V_4_1_5_3.out.box_at (i := 1) (j := 1) rfl rfl
          obtain ⟨r2, o2, z2⟩ := V_4_1_5_3.out.box_at (i := 1) (j := 2) rfl rfl
          obtain ⟨r3, o3, z3⟩ := V_4_1_5_3.out.box_at (i := 1) (j := 3) rfl rfl
          have VS4 := Lib.hid (show Hp W ([box 29 w_4_1.heap.size [.int .i64 0, .int .i64 0, .slice none 0 0, .slice none 0 0], box 29 wy.heap.size [.int .i64 M1.lt, .int .i64 M1.st, .slice y1.A y1.n y1.c, .slice y1.B y1.m y1.d], box 25 (W.heap.size + 1) [.int .u8 l1, .slice A2 n2 c2, .int .u16 b2], box 25 W.heap.size [.int .u8 l1, .slice A1 n1 c1, .int .u16 b1]] ++ (XM y2 M2 vs2 ++ XM y1 M1 vs1)) _ from ((((V_4_1_5_3.out.box_set (i := 1) rfl 0 (.int .i64 M1.lt)).box_set (i := 1) rfl 1 (.int .i64 M1.st)).box_set (i := 1) rfl 2 (.slice y1.A y1.n y1.c)).box_set (i := 1) rfl 3 (.slice y1.B y1.m y1.d)))
          go_simp
          refine hK.out _ _ (((((hHeld.set _ _ _ (List.forall_mem_cons.2 ⟨(by show ¬ W.heap.size = wy.heap.size; omega), List.forall_mem_cons.2 ⟨(by show ¬ W.heap.size = wy.heap.size; omega), List.forall_mem_cons.2 ⟨(by show ¬ W.heap.size = wy.heap.size; omega), List.forall_mem_cons.2 ⟨(by show ¬ W.heap.size + 1 = wy.heap.size; omega), List.forall_mem_cons.2 ⟨(by show ¬ W.heap.size + 1 = wy.heap.size; omega), List.forall_mem_cons.2 ⟨(by show ¬ W.heap.size + 1 = wy.heap.size; omega), fun _ h => by simp at h⟩⟩⟩⟩⟩⟩)).set _ _ _ (List.forall_mem_cons.2 ⟨(by show ¬ W.heap.size = wy.heap.size; omega), List.forall_mem_cons.2 ⟨(by show ¬ W.heap.size = wy.heap.size; omega), List.forall_mem_cons.2 ⟨(by show ¬ W.heap.size = wy.heap.size; omega), List.forall_mem_cons.2 ⟨(by show ¬ W.heap.size + 1 = wy.heap.size; omega), List.forall_mem_cons.2 ⟨(by show ¬ W.heap.size + 1 = wy.heap.size; omega), List.forall_mem_cons.2 ⟨(by show ¬ W.heap.size + 1 = wy.heap.size; omega), fun _ h => by simp at h⟩⟩⟩⟩⟩⟩)).set _ _ _ (List.forall_mem_cons.2 ⟨(by show ¬ W.heap.size = wy.heap.size; omega), List.forall_mem_cons.2 ⟨(by show ¬ W.heap.size = wy.heap.size; omega), List.forall_mem_cons.2 ⟨(by show ¬ W.heap.size = wy.heap.size; omega), List.forall_mem_cons.2 ⟨(by show ¬ W.heap.size + 1 = wy.heap.size; omega), List.forall_mem_cons.2 ⟨(by show ¬ W.heap.size + 1 = wy.heap.size; omega), List.forall_mem_cons.2 ⟨(by show ¬ W.heap.size + 1 = wy.heap.size; omega), fun _ h => by simp at h⟩⟩⟩⟩⟩⟩)).set _ _ _ (List.forall_mem_cons.2 ⟨(by show ¬ W.heap.size = wy.heap.size; omega), List.forall_mem_cons.2 ⟨(by show ¬ W.heap.size = wy.heap.size; omega), List.forall_mem_cons.2 ⟨(by show ¬ W.heap.size = wy.heap.size; omega), List.forall_mem_cons.2 ⟨(by show ¬ W.heap.size + 1 = wy.heap.size; omega), List.forall_mem_cons.2 ⟨(by show ¬ W.heap.size + 1 = wy.heap.size; omega), List.forall_mem_cons.2 ⟨(by show ¬ W.heap.size + 1 = wy.heap.size; omega), fun _ h => by simp at h⟩⟩⟩⟩⟩⟩))) (fun hHeld => ?_)
          clear hK K
          try simp only [Act.put, List.setIfInBounds_toArray, List.set_cons_zero, List.set_cons_succ]
          refine wpAnyH_ready (rs := [7]) (by kernel_rfl) (by simp) ?_
          refine AllReadyH.cons (List.getElem?_toArray.trans rfl) (fun K hK => ?_) AllReadyH.nil
          obtain ⟨r0, o0, z0⟩ := VS4.out.box_at (i := 0) (j := 0) rfl rfl
          obtain ⟨r1, o1, z1⟩ := VS4.out.box_at (i := 0) (j := 1) rfl rfl
          obtain ⟨r2, o2, z2⟩ := VS4.out.box_at (i := 0) (j := 2) rfl rfl
          obtain ⟨r3, o3, z3⟩ := VS4.out.box_at (i := 0) (j := 3) rfl rfl
          have VS5 := Lib.hid (show Hp W ([box 29 w_4_1.heap.size [.int .i64 M2.lt, .int .i64 M2.st, .slice y2.A y2.n y2.c, .slice y2.B y2.m y2.d], box 29 wy.heap.size [.int .i64 M1.lt, .int .i64 M1.st, .slice y1.A y1.n y1.c, .slice y1.B y1.m y1.d], box 25 (W.heap.size + 1) [.int .u8 l1, .slice A2 n2 c2, .int .u16 b2], box 25 W.heap.size [.int .u8 l1, .slice A1 n1 c1, .int .u16 b1]] ++ (XM y2 M2 vs2 ++ XM y1 M1 vs1)) _ from ((((VS4.out.box_set (i := 0) rfl 0 (.int .i64 M2.lt)).box_set (i := 0) rfl 1 (.int .i64 M2.st)).box_set (i := 0) rfl 2 (.slice y2.A y2.n y2.c)).box_set (i := 0) rfl 3 (.slice y2.B y2.m y2.d)))
          go_simp
          refine hK.out _ _ (((((hHeld.set _ _ _ (List.forall_mem_cons.2 ⟨(by show ¬ W.heap.size = w_4_1.heap.size; omega), List.forall_mem_cons.2 ⟨(by show ¬ W.heap.size = w_4_1.heap.size; omega), List.forall_mem_cons.2 ⟨(by show ¬ W.heap.size = w_4_1.heap.size; omega), List.forall_mem_cons.2 ⟨(by show ¬ W.heap.size + 1 = w_4_1.heap.size; omega), List.forall_mem_cons.2 ⟨(by show ¬ W.heap.size + 1 = w_4_1.heap.size; omega), List.forall_mem_cons.2 ⟨(by show ¬ W.heap.size + 1 = w_4_1.heap.size; omega), fun _ h => by simp at h⟩⟩⟩⟩⟩⟩)).set _ _ _ (List.forall_mem_cons.2 ⟨(by show ¬ W.heap.size = w_4_1.heap.size; omega), List.forall_mem_cons.2 ⟨(by show ¬ W.heap.size = w_4_1.heap.size; omega), List.forall_mem_cons.2 ⟨(by show ¬ W.heap.size = w_4_1.heap.size; omega), List.forall_mem_cons.2 ⟨(by show ¬ W.heap.size + 1 = w_4_1.heap.size; omega), List.forall_mem_cons.2 ⟨(by show ¬ W.heap.size + 1 = w_4_1.heap.size; omega), List.forall_mem_cons.2 ⟨(by show ¬ W.heap.size + 1 = w_4_1.heap.size; omega), fun _ h => by simp at h⟩⟩⟩⟩⟩⟩)).set _ _ _ (List.forall_mem_cons.2 ⟨(by show ¬ W.heap.size = w_4_1.heap.size; omega), List.forall_mem_cons.2 ⟨(by show ¬ W.heap.size = w_4_1.heap.size; omega), List.forall_mem_cons.2 ⟨(by show ¬ W.heap.size = w_4_1.heap.size; omega), List.forall_mem_cons.2 ⟨(by show ¬ W.heap.size + 1 = w_4_1.heap.size; omega), List.forall_mem_cons.2 ⟨(by show ¬ W.heap.size + 1 = w_4_1.heap.size; omega), List.forall_mem_cons.2 ⟨(by show ¬ W.heap.size + 1 = w_4_1.heap.size; omega), fun _ h => by simp at h⟩⟩⟩⟩⟩⟩)).set _ _ _ (List.forall_mem_cons.2 ⟨(by show ¬ W.heap.size = w_4_1.heap.size; omega), List.forall_mem_cons.2 ⟨(by show ¬ W.heap.size = w_4_1.heap.size; omega), List.forall_mem_cons.2 ⟨(by show ¬ W.heap.size = w_4_1.heap.size; omega), List.forall_mem_cons.2 ⟨(by show ¬ W.heap.size + 1 = w_4_1.heap.size; omega), List.forall_mem_cons.2 ⟨(by show ¬ W.heap.size + 1 = w_4_1.heap.size; omega), List.forall_mem_cons.2 ⟨(by show ¬ W.heap.size + 1 = w_4_1.heap.size; omega), fun _ h => by simp at h⟩⟩⟩⟩⟩⟩))) (fun hHeld => ?_)
          clear hK K
          try simp only [Act.put, List.setIfInBounds_toArray, List.set_cons_zero, List.set_cons_succ]
          refine wpAnyH_done (by kernel_rfl) ?_ _
          go_wp2_with fail
          go_meet
          exact ⟨_, _, y1, M1, y2, M2, rfl, rfl, by rw [HK.out]; exact IM1.out.vld, by rw [HK.out]; exact IM2.out.vld, IM1.out.few, IM2.out.few, IM1.out.dfa (a := [box 29 w_4_1.heap.size [.int .i64 M2.lt, .int .i64 M2.st, .slice y2.A y2.n y2.c, .slice y2.B y2.m y2.d], box 29 wy.heap.size [.int .i64 M1.lt, .int .i64 M1.st, .slice y1.A y1.n y1.c, .slice y1.B y1.m y1.d], box 25 (W.heap.size + 1) [.int .u8 l1, .slice A2 n2 c2, .int .u16 b2], box 25 W.heap.size [.int .u8 l1, .slice A1 n1 c1, .int .u16 b1]] ++ XM y2 M2 vs2) (b := []) (by rw [List.append_nil, List.append_assoc]; exact VS5.out), IM2.out.dfa (a := [box 29 w_4_1.heap.size [.int .i64 M2.lt, .int .i64 M2.st, .slice y2.A y2.n y2.c, .slice y2.B y2.m y2.d], box 29 wy.heap.size [.int .i64 M1.lt, .int .i64 M1.st, .slice y1.A y1.n y1.c, .slice y1.B y1.m y1.d], box 25 (W.heap.size + 1) [.int .u8 l1, .slice A2 n2 c2, .int .u16 b2], box 25 W.heap.size [.int .u8 l1, .slice A1 n1 c1, .int .u16 b1]]) (b := XM y1 M1 vs1) VS5.out, VS5.out.box_there (i := 1) rfl (by simp), VS5.out.box_there (i := 0) rfl (by simp), VS5.out.below⟩
        exact AllReadyH.nil
      refine AllReadyH.cons (List.getElem?_toArray.trans rfl) (fun K hK => ?_) ?_
      · have bq5 : W.heap.size + 1 < w_4.heap.size := (V_4s.out.box_at (i := 1) (j := 0) rfl rfl).2.2
        obtain ⟨w_4_5, hw_4_5⟩ : ∃ z, z = (w_4.alloc (.cells #[.int .i64 0, .int .i64 0, .slice none 0 0, .slice none 0 0] 29)) := ⟨_, rfl⟩
        have V_4_5 := Lib.hid (show Hp _ (box 29 w_4.heap.size [.int .i64 0, .int .i64 0, .slice none 0 0, .slice none 0 0] :: _) w_4_5 by rw [hw_4_5]; exact V_4s.out.box_new 29 [.int .i64 0, .int .i64 0, .slice none 0 0, .slice none 0 0])
        have Bw_4_5 := Lib.hid (show Below w_4.heap.size w_4 w_4_5 by rw [hw_4_5]; exact bnew _ _)
        go_simp
        rw [← hw_4_5]
        clear hw_4_5
        have V_4_5s := Lib.hid (show Hp W [box 29 w_4.heap.size [.int .i64 0, .int .i64 0, .slice none 0 0, .slice none 0 0], box 29 wy.heap.size [.int .i64 0, .int .i64 0, .slice none 0 0, .slice none 0 0], box 25 (W.heap.size + 1) [.int .u8 l1, .slice A2 n2 c2, .int .u16 b2], box 25 W.heap.size [.int .u8 l1, .slice A1 n1 c1, .int .u16 b1]] w_4_5 from V_4_5.out)
        refine hK.out _ _ (hHeld.go Bw_4_5.out) (fun hHeld => ?_)
        clear hK K
        try simp only [Act.put, List.setIfInBounds_toArray, List.set_cons_zero, List.set_cons_succ]
        refine wpAnyH_ready (rs := [1]) (by kernel_rfl) (by simp) ?_
        refine AllReadyH.cons (List.getElem?_toArray.trans rfl) (fun K hK => ?_) AllReadyH.nil
        go_simp
        refine (made_any l1 b1 A1 n1 c1 L1 _ (H1.out.below V_4_5s.out.below)).mono ?_
        rintro e w_4_5_1 ⟨y1, M1, vs1, rfl, im1, hp_4_5_1⟩
        try go_wp2_with fail
        have IM1 := Lib.hid im1
        have B_4_5_1 := Lib.hid hp_4_5_1.below
        have V_4_5_1 := Lib.hid (show Hp W ([box 29 w_4.heap.size [.int .i64 0, .int .i64 0, .slice none 0 0, .slice none 0 0], box 29 wy.heap.size [.int .i64 0, .int .i64 0, .slice none 0 0, .slice none 0 0], box 25 (W.heap.size + 1) [.int .u8 l1, .slice A2 n2 c2, .int .u16 b2], box 25 W.heap.size [.int .u8 l1, .slice A1 n1 c1, .int .u16 b1]] ++ XM y1 M1 vs1) w_4_5_1 from Hp.comm (l := [box 29 w_4.heap.size [.int .i64 0, .int .i64 0, .slice none 0 0, .slice none 0 0], box 29 wy.heap.size [.int .i64 0, .int .i64 0, .slice none 0 0, .slice none 0 0], box 25 (W.heap.size + 1) [.int .u8 l1, .slice A2 n2 c2, .int .u16 b2], box 25 W.heap.size [.int .u8 l1, .slice A1 n1 c1, .int .u16 b1]]) (l2 := XM y1 M1 vs1) (V_4_5s.out.join hp_4_5_1))
        clear hp_4_5_1 im1
        refine hK.out _ _ (hHeld.go B_4_5_1.out) (fun hHeld => ?_)
        clear hK K
        try simp only [Act.put, List.setIfInBounds_toArray, List.set_cons_zero, List.set_cons_succ]
        refine wpAnyH_ready (rs := [3]) (by kernel_rfl) (by simp) ?_
        refine AllReadyH.cons (List.getElem?_toArray.trans rfl) (fun K hK => ?_) AllReadyH.nil
        go_simp
        refine (made_any l1 b2 A2 n2 c2 L2 _ (H2.out.below V_4_5_1.out.below)).mono ?_
        rintro e w_4_5_1_3 ⟨y2, M2, vs2, rfl, im2, hp_4_5_1_3⟩
        try go_wp2_with fail
        have IM2 := Lib.hid im2
        have B_4_5_1_3 := Lib.hid hp_4_5_1_3.below
        have V_4_5_1_3 := Lib.hid (show Hp W ([box 29 w_4.heap.size [.int .i64 0, .int .i64 0, .slice none 0 0, .slice none 0 0], box 29 wy.heap.size [.int .i64 0, .int .i64 0, .slice none 0 0, .slice none 0 0], box 25 (W.heap.size + 1) [.int .u8 l1, .slice A2 n2 c2, .int .u16 b2], box 25 W.heap.size [.int .u8 l1, .slice A1 n1 c1, .int .u16 b1]] ++ (XM y2 M2 vs2 ++ XM y1 M1 vs1)) w_4_5_1_3 from joined (l := [box 29 w_4.heap.size [.int .i64 0, .int .i64 0, .slice none 0 0, .slice none 0 0], box 29 wy.heap.size [.int .i64 0, .int .i64 0, .slice none 0 0, .slice none 0 0], box 25 (W.heap.size + 1) [.int .u8 l1, .slice A2 n2 c2, .int .u16 b2], box 25 W.heap.size [.int .u8 l1, .slice A1 n1 c1, .int .u16 b1]]) (a := XM y1 M1 vs1) (b := XM y2 M2 vs2) (V_4_5_1.out.join hp_4_5_1_3))
        clear hp_4_5_1_3 im2
        refine hK.out _ _ (hHeld.go B_4_5_1_3.out) (fun hHeld => ?_)
        clear hK K
        try simp only [Act.put, List.setIfInBounds_toArray, List.set_cons_zero, List.set_cons_succ]
        refine wpAnyH_ready (rs := [6]) (by kernel_rfl) (by simp) ?_
        refine AllReadyH.cons (List.getElem?_toArray.trans rfl) (fun K hK => ?_) AllReadyH.nil
        obtain ⟨r0, o0, z0⟩ := V_4_5_1_3.out.box_at (i := 1) (j := 0) rfl rfl
        obtain ⟨r1, o1, z1⟩ := V_4_5_1_3.out.box_at (i := 1) (j := 1) rfl rfl
        obtain ⟨r2, o2, z2⟩ := V_4_5_1_3.out.box_at (i := 1) (j := 2) rfl rfl
        obtain ⟨r3, o3, z3⟩ := V_4_5_1_3.out.box_at (i := 1) (j := 3) rfl rfl
        have VS4 := Lib.hid (show Hp W ([box 29 w_4.heap.size [.int .i64 0, .int .i64 0, .slice none 0 0, .slice none 0 0], box 29 wy.heap.size [.int .i64 M1.lt, .int .i64 M1.st, .slice y1.A y1.n y1.c, .slice y1.B y1.m y1.d], box 25 (W.heap.size + 1) [.int .u8 l1, .slice A2 n2 c2, .int .u16 b2], box 25 W.heap.size [.int .u8 l1, .slice A1 n1 c1, .int .u16 b1]] ++ (XM y2 M2 vs2 ++ XM y1 M1 vs1)) _ from ((((V_4_5_1_3.out.box_set (i := 1) rfl 0 (.int .i64 M1.lt)).box_set (i := 1) rfl 1 (.int .i64 M1.st)).box_set (i := 1) rfl 2 (.slice y1.A y1.n y1.c)).box_set (i := 1) rfl 3 (.slice y1.B y1.m y1.d)))
        go_simp
        refine hK.out _ _ (((((hHeld.set _ _ _ (List.forall_mem_cons.2 ⟨(by show ¬ W.heap.size = wy.heap.size; omega), List.forall_mem_cons.2 ⟨(by show ¬ W.heap.size = wy.heap.size; omega), List.forall_mem_cons.2 ⟨(by show ¬ W.heap.size = wy.heap.size; omega), List.forall_mem_cons.2 ⟨(by show ¬ W.heap.size + 1 = wy.heap.size; omega), List.forall_mem_cons.2 ⟨(by show ¬ W.heap.size + 1 = wy.heap.size; omega), List.forall_mem_cons.2 ⟨(by show ¬ W.heap.size + 1 = wy.heap.size; omega), fun _ h => by simp at h⟩⟩⟩⟩⟩⟩)).set _ _ _ (List.forall_mem_cons.2 ⟨(by show ¬ W.heap.size = wy.heap.size; omega), List.forall_mem_cons.2 ⟨(by show ¬ W.heap.size = wy.heap.size; omega), List.forall_mem_cons.2 ⟨(by show ¬ W.heap.size = wy.heap.size; omega), List.forall_mem_cons.2 ⟨(by show ¬ W.heap.size + 1 = wy.heap.size; omega), List.forall_mem_cons.2 ⟨(by show ¬ W.heap.size + 1 = wy.heap.size; omega), List.forall_mem_cons.2 ⟨(by show ¬ W.heap.size + 1 = wy.heap.size; omega), fun _ h => by simp at h⟩⟩⟩⟩⟩⟩)).set _ _ _ (List.forall_mem_cons.2 ⟨(by show ¬ W.heap.size = wy.heap.size; omega), List.forall_mem_cons.2 ⟨(by show ¬ W.heap.size = wy.heap.size; omega), List.forall_mem_cons.2 ⟨(by show ¬ W.heap.size = wy.heap.size; omega), List.forall_mem_cons.2 ⟨(by show ¬ W.heap.size + 1 = wy.heap.size; omega), List.forall_mem_cons.2 ⟨(by show ¬ W.heap.size + 1 = wy.heap.size; omega), List.forall_mem_cons.2 ⟨(by show ¬ W.heap.size + 1 = wy.heap.size; omega), fun _ h => by simp at h⟩⟩⟩⟩⟩⟩)).set _ _ _ (List.forall_mem_cons.2 ⟨(by show ¬ W.heap.size = wy.heap.size; omega), List.forall_mem_cons.2 ⟨(by show ¬ W.heap.size = wy.heap.size; omega), List.forall_mem_cons.2 ⟨(by show ¬ W.heap.size = wy.heap.size; omega), List.forall_mem_cons.2 ⟨(by show ¬ W.heap.size + 1 = wy.heap.size; omega), List.forall_mem_cons.2 ⟨(by show ¬ W.heap.size + 1 = wy.heap.size; omega), List.forall_mem_cons.2 ⟨(by show ¬ W.heap.size + 1 = wy.heap.size; omega), fun _ h => by simp at h⟩⟩⟩⟩⟩⟩))) (fun hHeld => ?_)
        clear hK K
        try simp only [Act.put, List.setIfInBounds_toArray, List.set_cons_zero, List.set_cons_succ]
        refine wpAnyH_ready (rs := [7]) (by kernel_rfl) (by simp) ?_
        refine AllReadyH.cons (List.getElem?_toArray.trans rfl) (fun K hK => ?_) AllReadyH.nil
        obtain ⟨r0, o0, z0⟩ := VS4.out.box_at (i := 0) (j := 0) rfl rfl
        obtain ⟨r1, o1, z1⟩ := VS4.out.box_at (i := 0) (j := 1) rfl rfl
        obtain ⟨r2, o2, z2⟩ := VS4.out.box_at (i := 0) (j := 2) rfl rfl
        obtain ⟨r3, o3, z3⟩ := VS4.out.box_at (i := 0) (j := 3) rfl rfl
        have VS5 := Lib.hid (show Hp W ([box 29 w_4.heap.size [.int .i64 M2.lt, .int .i64 M2.st, .slice y2.A y2.n y2.c, .slice y2.B y2.m y2.d], box 29 wy.heap.size [.int .i64 M1.lt, .int .i64 M1.st, .slice y1.A y1.n y1.c, .slice y1.B y1.m y1.d], box 25 (W.heap.size + 1) [.int .u8 l1, .slice A2 n2 c2, .int .u16 b2], box 25 W.heap.size [.int .u8 l1, .slice A1 n1 c1, .int .u16 b1]] ++ (XM y2 M2 vs2 ++ XM y1 M1 vs1)) _ from ((((VS4.out.box_set (i := 0) rfl 0 (.int .i64 M2.lt)).box_set (i := 0) rfl 1 (.int .i64 M2.st)).box_set (i := 0) rfl 2 (.slice y2.A y2.n y2.c)).box_set (i := 0) rfl 3 (.slice y2.B y2.m y2.d)))
        go_simp
        refine hK.out _ _ (((((hHeld.set _ _ _ (List.forall_mem_cons.2 ⟨(by show ¬ W.heap.size = w_4.heap.size; omega), List.forall_mem_cons.2 ⟨(by show ¬ W.heap.size = w_4.heap.size; omega), List.forall_mem_cons.2 ⟨(by show ¬ W.heap.size = w_4.heap.size; omega), List.forall_mem_cons.2 ⟨(by show ¬ W.heap.size + 1 = w_4.heap.size; omega), List.forall_mem_cons.2 ⟨(by show ¬ W.heap.size + 1 = w_4.heap.size; omega), List.forall_mem_cons.2 ⟨(by show ¬ W.heap.size + 1 = w_4.heap.size; omega), fun _ h => by simp at h⟩⟩⟩⟩⟩⟩)).set _ _ _ (List.forall_mem_cons.2 ⟨(by show ¬ W.heap.size = w_4.heap.size; omega), List.forall_mem_cons.2 ⟨(by show ¬ W.heap.size = w_4.heap.size; omega), List.forall_mem_cons.2 ⟨(by show ¬ W.heap.size = w_4.heap.size; omega), List.forall_mem_cons.2 ⟨(by show ¬ W.heap.size + 1 = w_4.heap.size; omega), List.forall_mem_cons.2 ⟨(by show ¬ W.heap.size + 1 = w_4.heap.size; omega), List.forall_mem_cons.2 ⟨(by show ¬ W.heap.size + 1 = w_4.heap.size; omega), fun _ h => by simp at h⟩⟩⟩⟩⟩⟩)).set _ _ _ (List.forall_mem_cons.2 ⟨(by show ¬ W.heap.size = w_4.heap.size; omega), List.forall_mem_cons.2 ⟨(by show ¬ W.heap.size = w_4.heap.size; omega), List.forall_mem_cons.2 ⟨(by show ¬ W.heap.size = w_4.heap.size; omega), List.forall_mem_cons.2 ⟨(by show ¬ W.heap.size + 1 = w_4.heap.size; omega), List.forall_mem_cons.2 ⟨(by show ¬ W.heap.size + 1 = w_4.heap.size; omega), List.forall_mem_cons.2 ⟨(by show ¬ W.heap.size + 1 = w_4.heap.size; omega), fun _ h => by simp at h⟩⟩⟩⟩⟩⟩)).set _ _ _ (List.forall_mem_cons.2 ⟨(by show ¬ W.heap.size = w_4.heap.size; omega), List.forall_mem_cons.2 ⟨(by show ¬ W.heap.size = w_4.heap.size; omega), List.forall_mem_cons.2 ⟨(by show ¬ W.heap.size = w_4.heap.size; omega), List.forall_mem_cons.2 ⟨(by show ¬ W.heap.size + 1 = w_4.heap.size; omega), List.forall_mem_cons.2 ⟨(by show ¬ W.heap.size + 1 = w_4.heap.size; omega), List.forall_mem_cons.2 ⟨(by show ¬ W.heap.size + 1 = w_4.heap.size; omega), fun _ h => by simp at h⟩⟩⟩⟩⟩⟩))) (fun hHeld => ?_)
        clear hK K
        try simp only [Act.put, List.setIfInBounds_toArray, List.set_cons_zero, List.set_cons_succ]
        refine wpAnyH_done (by kernel_rfl) ?_ _
        go_wp2_with fail
        go_meet
        exact ⟨_, _, y1, M1, y2, M2, rfl, rfl, by rw [HK.out]; exact IM1.out.vld, by rw [HK.out]; exact IM2.out.vld, IM1.out.few, IM2.out.few, IM1.out.dfa (a := [box 29 w_4.heap.size [.int .i64 M2.lt, .int .i64 M2.st, .slice y2.A y2.n y2.c, .slice y2.B y2.m y2.d], box 29 wy.heap.size [.int .i64 M1.lt, .int .i64 M1.st, .slice y1.A y1.n y1.c, .slice y1.B y1.m y1.d], box 25 (W.heap.size + 1) [.int .u8 l1, .slice A2 n2 c2, .int .u16 b2], box 25 W.heap.size [.int .u8 l1, .slice A1 n1 c1, .int .u16 b1]] ++ XM y2 M2 vs2) (b := []) (by rw [List.append_nil, List.append_assoc]; exact VS5.out), IM2.out.dfa (a := [box 29 w_4.heap.size [.int .i64 M2.lt, .int .i64 M2.st, .slice y2.A y2.n y2.c, .slice y2.B y2.m y2.d], box 29 wy.heap.size [.int .i64 M1.lt, .int .i64 M1.st, .slice y1.A y1.n y1.c, .slice y1.B y1.m y1.d], box 25 (W.heap.size + 1) [.int .u8 l1, .slice A2 n2 c2, .int .u16 b2], box 25 W.heap.size [.int .u8 l1, .slice A1 n1 c1, .int .u16 b1]]) (b := XM y1 M1 vs1) VS5.out, VS5.out.box_there (i := 1) rfl (by simp), VS5.out.box_there (i := 0) rfl (by simp), VS5.out.below⟩
      exact AllReadyH.nil
    refine AllReadyH.cons (List.getElem?_toArray.trans rfl) (fun K hK => ?_) ?_
    · have bq5 : W.heap.size + 1 < wy.heap.size := (V2d.out.box_at (i := 0) (j := 0) rfl rfl).2.2
      obtain ⟨w_5, hw_5⟩ : ∃ z, z = (wy.alloc (.cells #[.int .i64 0, .int .i64 0, .slice none 0 0, .slice none 0 0] 29)).drew := ⟨_, rfl⟩
      have V_5 := Lib.hid (show Hp _ (box 29 wy.heap.size [.int .i64 0, .int .i64 0, .slice none 0 0, .slice none 0 0] :: _) w_5 by rw [hw_5]; exact V2d.out.box_new 29 [.int .i64 0, .int .i64 0, .slice none 0 0, .slice none 0 0])
      have Bw_5 := Lib.hid (show Below wy.drew.heap.size wy.drew w_5 by rw [hw_5]; exact bnew _ _)
      go_simp
      rw [← hw_5]
      clear hw_5
      have V_5s := Lib.hid (show Hp W [box 29 wy.heap.size [.int .i64 0, .int .i64 0, .slice none 0 0, .slice none 0 0], box 25 (W.heap.size + 1) [.int .u8 l1, .slice A2 n2 c2, .int .u16 b2], box 25 W.heap.size [.int .u8 l1, .slice A1 n1 c1, .int .u16 b1]] w_5 from V_5.out)
      refine hK.out _ _ (hHeld.go Bw_5.out) (fun hHeld => ?_)
      clear hK K
      try simp only [Act.put, List.setIfInBounds_toArray, List.set_cons_zero, List.set_cons_succ]
      refine wpAnyH_ready (rs := [1, 4]) (by kernel_rfl) (by simp) ?_
      refine AllReadyH.cons (List.getElem?_toArray.trans rfl) (fun K hK => ?_) ?_
      · go_simp
        refine (made_any l1 b1 A1 n1 c1 L1 _ (H1.out.below V_5s.out.below)).mono ?_
        rintro e w_5_1 ⟨y1, M1, vs1, rfl, im1, hp_5_1⟩
        try go_wp2_with fail
        have IM1 := Lib.hid im1
        have B_5_1 := Lib.hid hp_5_1.below
        have V_5_1 := Lib.hid (show Hp W ([box 29 wy.heap.size [.int .i64 0, .int .i64 0, .slice none 0 0, .slice none 0 0], box 25 (W.heap.size + 1) [.int .u8 l1, .slice A2 n2 c2, .int .u16 b2], box 25 W.heap.size [.int .u8 l1, .slice A1 n1 c1, .int .u16 b1]] ++ XM y1 M1 vs1) w_5_1 from Hp.comm (l := [box 29 wy.heap.size [.int .i64 0, .int .i64 0, .slice none 0 0, .slice none 0 0], box 25 (W.heap.size + 1) [.int .u8 l1, .slice A2 n2 c2, .int .u16 b2], box 25 W.heap.size [.int .u8 l1, .slice A1 n1 c1, .int .u16 b1]]) (l2 := XM y1 M1 vs1) (V_5s.out.join hp_5_1))
        clear hp_5_1 im1
        refine hK.out _ _ (hHeld.go B_5_1.out) (fun hHeld => ?_)
        clear hK K
        try simp only [Act.put, List.setIfInBounds_toArray, List.set_cons_zero, List.set_cons_succ]
        refine wpAnyH_ready (rs := [3, 4]) (by kernel_rfl) (by simp) ?_
        refine AllReadyH.cons (List.getElem?_toArray.trans rfl) (fun K hK => ?_) ?_
        · go_simp
          refine (made_any l1 b2 A2 n2 c2 L2 _ (H2.out.below V_5_1.out.below)).mono ?_
          rintro e w_5_1_3 ⟨y2, M2, vs2, rfl, im2, hp_5_1_3⟩
          try go_wp2_with fail
          have IM2 := Lib.hid im2
          have B_5_1_3 := Lib.hid hp_5_1_3.below
          have V_5_1_3 := Lib.hid (show Hp W ([box 29 wy.heap.size [.int .i64 0, .int .i64 0, .slice none 0 0, .slice none 0 0], box 25 (W.heap.size + 1) [.int .u8 l1, .slice A2 n2 c2, .int .u16 b2], box 25 W.heap.size [.int .u8 l1, .slice A1 n1 c1, .int .u16 b1]] ++ (XM y2 M2 vs2 ++ XM y1 M1 vs1)) w_5_1_3 from joined (l := [box 29 wy.heap.size [.int .i64 0, .int .i64 0, .slice none 0 0, .slice none 0 0], box 25 (W.heap.size + 1) [.int .u8 l1, .slice A2 n2 c2, .int .u16 b2], box 25 W.heap.size [.int .u8 l1, .slice A1 n1 c1, .int .u16 b1]]) (a := XM y1 M1 vs1) (b := XM y2 M2 vs2) (V_5_1.out.join hp_5_1_3))
          clear hp_5_1_3 im2
          refine hK.out _ _ (hHeld.go B_5_1_3.out) (fun hHeld => ?_)
          clear hK K
          try simp only [Act.put, List.setIfInBounds_toArray, List.set_cons_zero, List.set_cons_succ]
          refine wpAnyH_ready (rs := [4]) (by kernel_rfl) (by simp) ?_
          refine AllReadyH.cons (List.getElem?_toArray.trans rfl) (fun K hK => ?_) AllReadyH.nil
          have bq4 : W.heap.size + 1 < w_5_1_3.heap.size := (V_5_1_3.out.box_at (i := 1) (j := 0) rfl rfl).2.2
          obtain ⟨w_5_1_3_4, hw_5_1_3_4⟩ : ∃ z, z = (w_5_1_3.alloc (.cells #[.int .i64 0, .int .i64 0, .slice none 0 0, .slice none 0 0] 29)) := ⟨_, rfl⟩
          have V_5_1_3_4 := Lib.hid (show Hp _ (box 29 w_5_1_3.heap.size [.int .i64 0, .int .i64 0, .slice none 0 0, .slice none 0 0] :: _) w_5_1_3_4 by rw [hw_5_1_3_4]; exact V_5_1_3.out.box_new 29 [.int .i64 0, .int .i64 0, .slice none 0 0, .slice none 0 0])
          have Bw_5_1_3_4 := Lib.hid (show Below w_5_1_3.heap.size w_5_1_3 w_5_1_3_4 by rw [hw_5_1_3_4]; exact bnew _ _)
          go_simp
          rw [← hw_5_1_3_4]
          clear hw_5_1_3_4
          have V_5_1_3_4s := Lib.hid (show Hp W ([box 29 w_5_1_3.heap.size [.int .i64 0, .int .i64 0, .slice none 0 0, .slice none 0 0], box 29 wy.heap.size [.int .i64 0, .int .i64 0, .slice none 0 0, .slice none 0 0], box 25 (W.heap.size + 1) [.int .u8 l1, .slice A2 n2 c2, .int .u16 b2], box 25 W.heap.size [.int .u8 l1, .slice A1 n1 c1, .int .u16 b1]] ++ (XM y2 M2 vs2 ++ XM y1 M1 vs1)) w_5_1_3_4 from V_5_1_3_4.out)
          refine hK.out _ _ (hHeld.go Bw_5_1_3_4.out) (fun hHeld => ?_)
          clear hK K
          try simp only [Act.put, List.setIfInBounds_toArray, List.set_cons_zero, List.set_cons_succ]
          refine wpAnyH_ready (rs := [6]) (by kernel_rfl) (by simp) ?_
          refine AllReadyH.cons (List.getElem?_toArray.trans rfl) (fun K hK => ?_) AllReadyH.nil
          obtain ⟨r0, o0, z0⟩ := V_5_1_3_4s.out.box_at (i := 0) (j := 0) rfl rfl
          obtain ⟨r1, o1, z1⟩ := V_5_1_3_4s.out.box_at (i := 0) (j := 1) rfl rfl
          obtain ⟨r2, o2, z2⟩ := V_5_1_3_4s.out.box_at (i := 0) (j := 2) rfl rfl
          obtain ⟨r3, o3, z3⟩ := V_5_1_3_4s.out.box_at (i := 0) (j := 3) rfl rfl
          have VS4 := Lib.hid (show Hp W ([box 29 w_5_1_3.heap.size [.int .i64 M1.lt, .int .i64 M1.st, .slice y1.A y1.n y1.c, .slice y1.B y1.m y1.d], box 29 wy.heap.size [.int .i64 0, .int .i64 0, .slice none 0 0, .slice none 0 0], box 25 (W.heap.size + 1) [.int .u8 l1, .slice A2 n2 c2, .int .u16 b2], box 25 W.heap.size [.int .u8 l1, .slice A1 n1 c1, .int .u16 b1]] ++ (XM y2 M2 vs2 ++ XM y1 M1 vs1)) _ from ((((V_5_1_3_4s.out.box_set (i := 0) rfl 0 (.int .i64 M1.lt)).box_set (i := 0) rfl 1 (.int .i64 M1.st)).box_set (i := 0) rfl 2 (.slice y1.A y1.n y1.c)).box_set (i := 0) rfl 3 (.slice y1.B y1.m y1.d)))
          go_simp
          refine hK.out _ _ (((((hHeld.set _ _ _ (List.forall_mem_cons.2 ⟨(by show ¬ W.heap.size = w_5_1_3.heap.size; omega), List.forall_mem_cons.2 ⟨(by show ¬ W.heap.size = w_5_1_3.heap.size; omega), List.forall_mem_cons.2 ⟨(by show ¬ W.heap.size = w_5_1_3.heap.size; omega), List.forall_mem_cons.2 ⟨(by show ¬ W.heap.size + 1 = w_5_1_3.heap.size; omega), List.forall_mem_cons.2 ⟨(by show ¬ W.heap.size + 1 = w_5_1_3.heap.size; omega), List.forall_mem_cons.2 ⟨(by show ¬ W.heap.size + 1 = w_5_1_3.heap.size; omega), fun _ h => by simp at h⟩⟩⟩⟩⟩⟩)).set _ _ _ (List.forall_mem_cons.2 ⟨(by show ¬ W.heap.size = w_5_1_3.heap.size; omega), List.forall_mem_cons.2 ⟨(by show ¬ W.heap.size = w_5_1_3.heap.size; omega), List.forall_mem_cons.2 ⟨(by show ¬ W.heap.size = w_5_1_3.heap.size; omega), List.forall_mem_cons.2 ⟨(by show ¬ W.heap.size + 1 = w_5_1_3.heap.size; omega), List.forall_mem_cons.2 ⟨(by show ¬ W.heap.size + 1 = w_5_1_3.heap.size; omega), List.forall_mem_cons.2 ⟨(by show ¬ W.heap.size + 1 = w_5_1_3.heap.size; omega), fun _ h => by simp at h⟩⟩⟩⟩⟩⟩)).set _ _ _ (List.forall_mem_cons.2 ⟨(by show ¬ W.heap.size = w_5_1_3.heap.size; omega), List.forall_mem_cons.2 ⟨(by show ¬ W.heap.size = w_5_1_3.heap.size; omega), List.forall_mem_cons.2 ⟨(by show ¬ W.heap.size = w_5_1_3.heap.size; omega), List.forall_mem_cons.2 ⟨(by show ¬ W.heap.size + 1 = w_5_1_3.heap.size; omega), List.forall_mem_cons.2 ⟨(by show ¬ W.heap.size + 1 = w_5_1_3.heap.size; omega), List.forall_mem_cons.2 ⟨(by show ¬ W.heap.size + 1 = w_5_1_3.heap.size; omega), fun _ h => by simp at h⟩⟩⟩⟩⟩⟩)).set _ _ _ (List.forall_mem_cons.2 ⟨(by show ¬ W.heap.size = w_5_1_3.heap.size; omega), List.forall_mem_cons.2 ⟨(by show ¬ W.heap.size = w_5_1_3.heap.size; omega), List.forall_mem_cons.2 ⟨(by show ¬ W.heap.size = w_5_1_3.heap.size; omega), List.forall_mem_cons.2 ⟨(by show ¬ W.heap.size + 1 = w_5_1_3.heap.size; omega), List.forall_mem_cons.2 ⟨(by show ¬ W.heap.size + 1 = w_5_1_3.heap.size; omega), List.forall_mem_cons.2 ⟨(by show ¬ W.heap.size + 1 = w_5_1_3.heap.size; omega), fun _ h => by simp at h⟩⟩⟩⟩⟩⟩))) (fun hHeld => ?_)
          clear hK K
          try simp only [Act.put, List.setIfInBounds_toArray, List.set_cons_zero, List.set_cons_succ]
          refine wpAnyH_ready (rs := [7]) (by kernel_rfl) (by simp) ?_
          refine AllReadyH.cons (List.getElem?_toArray.trans rfl) (fun K hK => ?_) AllReadyH.nil
          obtain ⟨r0, o0, z0⟩ := VS4.out.box_at (i := 1) (j := 0) rfl rfl
          obtain ⟨r1, o1, z1⟩ := VS4.out.box_at (i := 1) (j := 1) rfl rfl
          obtain ⟨r2, o2, z2⟩ := VS4.out.box_at (i := 1) (j := 2) rfl rfl
          obtain ⟨r3, o3, z3⟩ := VS4.out.box_at (i := 1) (j := 3) rfl rfl
          have VS5 := Lib.hid (show Hp W ([box 29 w_5_1_3.heap.size [.int .i64 M1.lt, .int .i64 M1.st, .slice y1.A y1.n y1.c, .slice y1.B y1.m y1.d], box 29 wy.heap.size [.int .i64 M2.lt, .int .i64 M2.st, .slice y2.A y2.n y2.c, .slice y2.B y2.m y2.d], box 25 (W.heap.size + 1) [.int .u8 l1, .slice A2 n2 c2, .int .u16 b2], box 25 W.heap.size [.int .u8 l1, .slice A1 n1 c1, .int .u16 b1]] ++ (XM y2 M2 vs2 ++ XM y1 M1 vs1)) _ from ((((VS4.out.box_set (i := 1) rfl 0 (.int .i64 M2.lt)).box_set (i := 1) rfl 1 (.int .i64 M2.st)).box_set (i := 1) rfl 2 (.slice y2.A y2.n y2.c)).box_set (i := 1) rfl 3 (.slice y2.B y2.m y2.d)))
          go_simp
          refine hK.out _ _ (((((hHeld.set _ _ _ (List.forall_mem_cons.2 ⟨(by show ¬ W.heap.size = wy.heap.size; omega), List.forall_mem_cons.2 ⟨(by show ¬ W.heap.size = wy.heap.size; omega), List.forall_mem_cons.2 ⟨(by show ¬ W.heap.size = wy.heap.size; omega), List.forall_mem_cons.2 ⟨(by show ¬ W.heap.size + 1 = wy.heap.size; omega), List.forall_mem_cons.2 ⟨(by show ¬ W.heap.size + 1 = wy.heap.size; omega), List.forall_mem_cons.2 ⟨(by show ¬ W.heap.size + 1 = wy.heap.size; omega), fun _ h => by simp at h⟩⟩⟩⟩⟩⟩)).set _ _ _ (List.forall_mem_cons.2 ⟨(by show ¬ W.heap.size = wy.heap.size; omega), List.forall_mem_cons.2 ⟨(by show ¬ W.heap.size = wy.heap.size; omega), List.forall_mem_cons.2 ⟨(by show ¬ W.heap.size = wy.heap.size; omega), List.forall_mem_cons.2 ⟨(by show ¬ W.heap.size + 1 = wy.heap.size; omega), List.forall_mem_cons.2 ⟨(by show ¬ W.heap.size + 1 = wy.heap.size; omega), List.forall_mem_cons.2 ⟨(by show ¬ W.heap.size + 1 = wy.heap.size; omega), fun _ h => by simp at h⟩⟩⟩⟩⟩⟩)).set _ _ _ (List.forall_mem_cons.2 ⟨(by show ¬ W.heap.size = wy.heap.size; omega), List.forall_mem_cons.2 ⟨(by show ¬ W.heap.size = wy.heap.size; omega), List.forall_mem_cons.2 ⟨(by show ¬ W.heap.size = wy.heap.size; omega), List.forall_mem_cons.2 ⟨(by show ¬ W.heap.size + 1 = wy.heap.size; omega), List.forall_mem_cons.2 ⟨(by show ¬ W.heap.size + 1 = wy.heap.size; omega), List.forall_mem_cons.2 ⟨(by show ¬ W.heap.size + 1 = wy.heap.size; omega), fun _ h => by simp at h⟩⟩⟩⟩⟩⟩)).set _ _ _ (List.forall_mem_cons.2 ⟨(by show ¬ W.heap.size = wy.heap.size; omega), List.forall_mem_cons.2 ⟨(by show ¬ W.heap.size = wy.heap.size; omega), List.forall_mem_cons.2 ⟨(by show ¬ W.heap.size = wy.heap.size; omega), List.forall_mem_cons.2 ⟨(by show ¬ W.heap.size + 1 = wy.heap.size; omega), List.forall_mem_cons.2 ⟨(by show ¬ W.heap.size + 1 = wy.heap.size; omega), List.forall_mem_cons.2 ⟨(by show ¬ W.heap.size + 1 = wy.heap.size; omega), fun _ h => by simp at h⟩⟩⟩⟩⟩⟩))) (fun hHeld => ?_)
          clear hK K
          try simp only [Act.put, List.setIfInBounds_toArray, List.set_cons_zero, List.set_cons_succ]
          refine wpAnyH_done (by kernel_rfl) ?_ _
          go_wp2_with fail
          go_meet
          exact ⟨_, _, y1, M1, y2, M2, rfl, rfl, by rw [HK.out]; exact IM1.out.vld, by rw [HK.out]; exact IM2.out.vld, IM1.out.few, IM2.out.few, IM1.out.dfa (a := [box 29 w_5_1_3.heap.size [.int .i64 M1.lt, .int .i64 M1.st, .slice y1.A y1.n y1.c, .slice y1.B y1.m y1.d], box 29 wy.heap.size [.int .i64 M2.lt, .int .i64 M2.st, .slice y2.A y2.n y2.c, .slice y2.B y2.m y2.d], box 25 (W.heap.size + 1) [.int .u8 l1, .slice A2 n2 c2, .int .u16 b2], box 25 W.heap.size [.int .u8 l1, .slice A1 n1 c1, .int .u16 b1]] ++ XM y2 M2 vs2) (b := []) (by rw [List.append_nil, List.append_assoc]; exact VS5.out), IM2.out.dfa (a := [box 29 w_5_1_3.heap.size [.int .i64 M1.lt, .int .i64 M1.st, .slice y1.A y1.n y1.c, .slice y1.B y1.m y1.d], box 29 wy.heap.size [.int .i64 M2.lt, .int .i64 M2.st, .slice y2.A y2.n y2.c, .slice y2.B y2.m y2.d], box 25 (W.heap.size + 1) [.int .u8 l1, .slice A2 n2 c2, .int .u16 b2], box 25 W.heap.size [.int .u8 l1, .slice A1 n1 c1, .int .u16 b1]]) (b := XM y1 M1 vs1) VS5.out, VS5.out.box_there (i := 0) rfl (by simp), VS5.out.box_there (i := 1) rfl (by simp), VS5.out.below⟩
        refine AllReadyH.cons (List.getElem?_toArray.trans rfl) (fun K hK => ?_) ?_
        · have bq4 : W.heap.size + 1 < w_5_1.heap.size := (V_5_1.out.box_at (i := 1) (j := 0) rfl rfl).2.2
          obtain ⟨w_5_1_4, hw_5_1_4⟩ : ∃ z, z = (w_5_1.alloc (.cells #[.int .i64 0, .int .i64 0, .slice none 0 0, .slice none 0 0] 29)) := ⟨_, rfl⟩
          have V_5_1_4 := Lib.hid (show Hp _ (box 29 w_5_1.heap.size [.int .i64 0, .int .i64 0, .slice none 0 0, .slice none 0 0] :: _) w_5_1_4 by rw [hw_5_1_4]; exact V_5_1.out.box_new 29 [.int .i64 0, .int .i64 0, .slice none 0 0, .slice none 0 0])
          have Bw_5_1_4 := Lib.hid (show Below w_5_1.heap.size w_5_1 w_5_1_4 by rw [hw_5_1_4]; exact bnew _ _)
          go_simp
          rw [← hw_5_1_4]
          clear hw_5_1_4
          have V_5_1_4s := Lib.hid (show Hp W ([box 29 w_5_1.heap.size [.int .i64 0, .int .i64 0, .slice none 0 0, .slice none 0 0], box 29 wy.heap.size [.int .i64 0, .int .i64 0, .slice none 0 0, .slice none 0 0], box 25 (W.heap.size + 1) [.int .u8 l1, .slice A2 n2 c2, .int .u16 b2], box 25 W.heap.size [.int .u8 l1, .slice A1 n1 c1, .int .u16 b1]] ++ XM y1 M1 vs1) w_5_1_4 from V_5_1_4.out)
          refine hK.out _ _ (hHeld.go Bw_5_1_4.out) (fun hHeld => ?_)
          clear hK K
          try simp only [Act.put, List.setIfInBounds_toArray, List.set_cons_zero, List.set_cons_succ]
          refine wpAnyH_ready (rs := [3]) (by kernel_rfl) (by simp) ?_
          refine AllReadyH.cons (List.getElem?_toArray.trans rfl) (fun K hK => ?_) AllReadyH.nil
          go_simp
          refine (made_any l1 b2 A2 n2 c2 L2 _ (H2.out.below V_5_1_4s.out.below)).mono ?_
          rintro e w_5_1_4_3 ⟨y2, M2, vs2, rfl, im2, hp_5_1_4_3⟩
          try go_wp2_with fail
          have IM2 := Lib.hid im2
          have B_5_1_4_3 := Lib.hid hp_5_1_4_3.below
          have V_5_1_4_3 := Lib.hid (show Hp W ([box 29 w_5_1.heap.size [.int .i64 0, .int .i64 0, .slice none 0 0, .slice none 0 0], box 29 wy.heap.size [.int .i64 0, .int .i64 0, .slice none 0 0, .slice none 0 0], box 25 (W.heap.size + 1) [.int .u8 l1, .slice A2 n2 c2, .int .u16 b2], box 25 W.heap.size [.int .u8 l1, .slice A1 n1 c1, .int .u16 b1]] ++ (XM y2 M2 vs2 ++ XM y1 M1 vs1)) w_5_1_4_3 from joined (l := [box 29 w_5_1.heap.size [.int .i64 0, .int .i64 0, .slice none 0 0, .slice none 0 0], box 29 wy.heap.size [.int .i64 0, .int .i64 0, .slice none 0 0, .slice none 0 0], box 25 (W.heap.size + 1) [.int .u8 l1, .slice A2 n2 c2, .int .u16 b2], box 25 W.heap.size [.int .u8 l1, .slice A1 n1 c1, .int .u16 b1]]) (a := XM y1 M1 vs1) (b := XM y2 M2 vs2) (V_5_1_4s.out.join hp_5_1_4_3))
          clear hp_5_1_4_3 im2
          refine hK.out _ _ (hHeld.go B_5_1_4_3.out) (fun hHeld => ?_)
          clear hK K
          try simp only [Act.put, List.setIfInBounds_toArray, List.set_cons_zero, List.set_cons_succ]
          refine wpAnyH_ready (rs := [6]) (by kernel_rfl) (by simp) ?_
          refine AllReadyH.cons (List.getElem?_toArray.trans rfl) (fun K hK => ?_) AllReadyH.nil
          obtain ⟨r0, o0, z0⟩ := V_5_1_4_3.out.box_at (i := 0) (j := 0) rfl rfl
          obtain ⟨r1, o1, z1⟩ := V_5_1_4_3.out.box_at (i := 0) (j := 1) rfl rfl
          obtain ⟨r2, o2, z2⟩ := V_5_1_4_3.out.box_at (i := 0) (j := 2) rfl rfl
          obtain ⟨r3, o3, z3⟩ := V_5_1_4_3.out.box_at (i := 0) (j := 3) rfl rfl
          have VS4 := Lib.hid (show Hp W ([box 29 w_5_1.heap.size [.int .i64 M1.lt, .int .i64 M1.st, .slice y1.A y1.n y1.c, .slice y1.B y1.m y1.d], box 29 wy.heap.size [.int .i64 0, .int .i64 0, .slice none 0 0, .slice none 0 0], box 25 (W.heap.size + 1) [.int .u8 l1, .slice A2 n2 c2, .int .u16 b2], box 25 W.heap.size [.int .u8 l1, .slice A1 n1 c1, .int .u16 b1]] ++ (XM y2 M2 vs2 ++ XM y1 M1 vs1)) _ from ((((V_5_1_4_3.out.box_set (i := 0) rfl 0 (.int .i64 M1.lt)).box_set (i := 0) rfl 1 (.int .i64 M1.st)).box_set (i := 0) rfl 2 (.slice y1.A y1.n y1.c)).box_set (i := 0) rfl 3 (.slice y1.B y1.m y1.d)))
          go_simp
          refine hK.out _ _ (((((hHeld.set _ _ _ (List.forall_mem_cons.2 ⟨(by show ¬ W.heap.size = w_5_1.heap.size; omega), List.forall_mem_cons.2 ⟨(by show ¬ W.heap.size = w_5_1.heap.size; omega), List.forall_mem_cons.2 ⟨(by show ¬ W.heap.size = w_5_1.heap.size; omega), List.forall_mem_cons.2 ⟨(by show ¬ W.heap.size + 1 = w_5_1.heap.size; omega), List.forall_mem_cons.2 ⟨(by show ¬ W.heap.size + 1 = w_5_1.heap.size; omega), List.forall_mem_cons.2 ⟨(by show ¬ W.heap.size + 1 = w_5_1.heap.size; omega), fun _ h => by simp at h⟩⟩⟩⟩⟩⟩)).set _ _ _ (List.forall_mem_cons.2 ⟨(by show ¬ W.heap.size = w_5_1.heap.size; omega), List.forall_mem_cons.2 ⟨(by show ¬ W.heap.size = w_5_1.heap.size; omega), List.forall_mem_cons.2 ⟨(by show ¬ W.heap.size = w_5_1.heap.size; omega), List.forall_mem_cons.2 ⟨(by show ¬ W.heap.size + 1 = w_5_1.heap.size; omega), List.forall_mem_cons.2 ⟨(by show ¬ W.heap.size + 1 = w_5_1.heap.size; omega), List.forall_mem_cons.2 ⟨(by show ¬ W.heap.size + 1 = w_5_1.heap.size; omega), fun _ h => by simp at h⟩⟩⟩⟩⟩⟩)).set _ _ _ (List.forall_mem_cons.2 ⟨(by show ¬ W.heap.size = w_5_1.heap.size; omega), List.forall_mem_cons.2 ⟨(by show ¬ W.heap.size = w_5_1.heap.size; omega), List.forall_mem_cons.2 ⟨(by show ¬ W.heap.size = w_5_1.heap.size; omega), List.forall_mem_cons.2 ⟨(by show ¬ W.heap.size + 1 = w_5_1.heap.size; omega), List.forall_mem_cons.2 ⟨(by show ¬ W.heap.size + 1 = w_5_1.heap.size; omega), List.forall_mem_cons.2 ⟨(by show ¬ W.heap.size + 1 = w_5_1.heap.size; omega), fun _ h => by simp at h⟩⟩⟩⟩⟩⟩)).set _ _ _ (List.forall_mem_cons.2 ⟨(by show ¬ W.heap.size = w_5_1.heap.size; omega), List.forall_mem_cons.2 ⟨(by show ¬ W.heap.size = w_5_1.heap.size; omega), List.forall_mem_cons.2 ⟨(by show ¬ W.heap.size = w_5_1.heap.size; omega), List.forall_mem_cons.2 ⟨(by show ¬ W.heap.size + 1 = w_5_1.heap.size; omega), List.forall_mem_cons.2 ⟨(by show ¬ W.heap.size + 1 = w_5_1.heap.size; omega), List.forall_mem_cons.2 ⟨(by show ¬ W.heap.size + 1 = w_5_1.heap.size; omega), fun _ h => by simp at h⟩⟩⟩⟩⟩⟩))) (fun hHeld => ?_)
          clear hK K
          try simp only [Act.put, List.setIfInBounds_toArray, List.set_cons_zero, List.set_cons_succ]
          refine wpAnyH_ready (rs := [7]) (by kernel_rfl) (by simp) ?_
          refine AllReadyH.cons (List.getElem?_toArray.trans rfl) (fun K hK => ?_) AllReadyH.nil
          obtain ⟨r0, o0, z0⟩ := VS4.out.box_at (i := 1) (j := 0) rfl rfl
          obtain ⟨r1, o1, z1⟩ := VS4.out.box_at (i := 1) (j := 1) rfl rfl
          obtain ⟨r2, o2, z2⟩ := VS4.out.box_at (i := 1) (j := 2) rfl rfl
          obtain ⟨r3, o3, z3⟩ := VS4.out.box_at (i := 1) (j := 3) rfl rfl
          have VS5 := Lib.hid (show Hp W ([box 29 w_5_1.heap.size [.int .i64 M1.lt, .int .i64 M1.st, .slice y1.A y1.n y1.c, .slice y1.B y1.m y1.d], box 29 wy.heap.size [.int .i64 M2.lt, .int .i64 M2.st, .slice y2.A y2.n y2.c, .slice y2.B y2.m y2.d], box 25 (W.heap.size + 1) [.int .u8 l1, .slice A2 n2 c2, .int .u16 b2], box 25 W.heap.size [.int .u8 l1, .slice A1 n1 c1, .int .u16 b1]] ++ (XM y2 M2 vs2 ++ XM y1 M1 vs1)) _ from ((((VS4.out.box_set (i := 1) rfl 0 (.int .i64 M2.lt)).box_set (i := 1) rfl 1 (.int .i64 M2.st)).box_set (i := 1) rfl 2 (.slice y2.A y2.n y2.c)).box_set (i := 1) rfl 3 (.slice y2.B y2.m y2.d)))
          go_simp
          refine hK.out _ _ (((((hHeld.set _ _ _ (List.forall_mem_cons.2 ⟨(by show ¬ W.heap.size = wy.heap.size; omega), List.forall_mem_cons.2 ⟨(by show ¬ W.heap.size = wy.heap.size; omega), List.forall_mem_cons.2 ⟨(by show ¬ W.heap.size = wy.heap.size; omega), List.forall_mem_cons.2 ⟨(by show ¬ W.heap.size + 1 = wy.heap.size; omega), List.forall_mem_cons.2 ⟨(by show ¬ W.heap.size + 1 = wy.heap.size; omega), List.forall_mem_cons.2 ⟨(by show ¬ W.heap.size + 1 = wy.heap.size; omega), fun _ h => by simp at h⟩⟩⟩⟩⟩⟩)).set _ _ _ (List.forall_mem_cons.2 ⟨(by show ¬ W.heap.size = wy.heap.size; omega), List.forall_mem_cons.2 ⟨(by show ¬ W.heap.size = wy.heap.size; omega), List.forall_mem_cons.2 ⟨(by show ¬ W.heap.size = wy.heap.size; omega), List.forall_mem_cons.2 ⟨(by show ¬ W.heap.size + 1 = wy.heap.size; omega), List.forall_mem_cons.2 ⟨(by show ¬ W.heap.size + 1 = wy.heap.size; omega), List.forall_mem_cons.2 ⟨(by show ¬ W.heap.size + 1 = wy.heap.size; omega), fun _ h => by simp at h⟩⟩⟩⟩⟩⟩)).set _ _ _ (List.forall_mem_cons.2 ⟨(by show ¬ W.heap.size = wy.heap.size; omega), List.forall_mem_cons.2 ⟨(by show ¬ W.heap.size = wy.heap.size; omega), List.forall_mem_cons.2 ⟨(by show ¬ W.heap.size = wy.heap.size; omega), List.forall_mem_cons.2 ⟨(by show ¬ W.heap.size + 1 = wy.heap.size; omega), List.forall_mem_cons.2 ⟨(by show ¬ W.heap.size + 1 = wy.heap.size; omega), List.forall_mem_cons.2 ⟨(by show ¬ W.heap.size + 1 = wy.heap.size; omega), fun _ h => by simp at h⟩⟩⟩⟩⟩⟩)).set _ _ _ (List.forall_mem_cons.2 ⟨(by show ¬ W.heap.size = wy.heap.size; omega), List.forall_mem_cons.2 ⟨(by show ¬ W.heap.size = wy.heap.size; omega), List.forall_mem_cons.2 ⟨(by show ¬ W.heap.size = wy.heap.size; omega), List.forall_mem_cons.2 ⟨(by show ¬ W.heap.size + 1 = wy.heap.size; omega), List.forall_mem_cons.2 ⟨(by show ¬ W.heap.size + 1 = wy.heap.size; omega), List.forall_mem_cons.2 ⟨(by show ¬ W.heap.size + 1 = wy.heap.size; omega), fun _ h => by simp at h⟩⟩⟩⟩⟩⟩))) (fun hHeld => ?_)
          clear hK K
          try simp only [Act.put, List.setIfInBounds_toArray, List.set_cons_zero, List.set_cons_succ]
          refine wpAnyH_done (by kernel_rfl) ?_ _
          go_wp2_with fail
          go_meet
          exact ⟨_, _, y1, M1, y2, M2, rfl, rfl, by rw [HK.out]; exact IM1.out.vld, by rw [HK.out]; exact IM2.out.vld, IM1.out.few, IM2.out.few, IM1.out.dfa (a := [box 29 w_5_1.heap.size [.int .i64 M1.lt, .int .i64 M1.st, .slice y1.A y1.n y1.c, .slice y1.B y1.m y1.d], box 29 wy.heap.size [.int .i64 M2.lt, .int .i64 M2.st, .slice y2.A y2.n y2.c, .slice y2.B y2.m y2.d], box 25 (W.heap.size + 1) [.int .u8 l1, .slice A2 n2 c2, .int .u16 b2], box 25 W.heap.size [.int .u8 l1, .slice A1 n1 c1, .int .u16 b1]] ++ XM y2 M2 vs2) (b := []) (by rw [List.append_nil, List.append_assoc]; exact VS5.out), IM2.out.dfa (a := [box 29 w_5_1.heap.size [.int .i64 M1.lt, .int .i64 M1.st, .slice y1.A y1.n y1.c, .slice y1.B y1.m y1.d], box 29 wy.heap.size [.int .i64 M2.lt, .int .i64 M2.st, .slice y2.A y2.n y2.c, .slice y2.B y2.m y2.d], box 25 (W.heap.size + 1) [.int .u8 l1, .slice A2 n2 c2, .int .u16 b2], box 25 W.heap.size [.int .u8 l1, .slice A1 n1 c1, .int .u16 b1]]) (b := XM y1 M1 vs1) VS5.out, VS5.out.box_there (i := 0) rfl (by simp), VS5.out.box_there (i := 1) rfl (by simp), VS5.out.below⟩
        exact AllReadyH.nil
      refine AllReadyH.cons (List.getElem?_toArray.trans rfl) (fun K hK => ?_) ?_
      · have bq4 : W.heap.size + 1 < w_5.heap.size := (V_5s.out.box_at (i := 1) (j := 0) rfl rfl).2.2
        obtain ⟨w_5_4, hw_5_4⟩ : ∃ z, z = (w_5.alloc (.cells #[.int .i64 0, .int .i64 0, .slice none 0 0, .slice none 0 0] 29)) := ⟨_, rfl⟩
        have V_5_4 := Lib.hid (show Hp _ (box 29 w_5.heap.size [.int .i64 0, .int .i64 0, .slice none 0 0, .slice none 0 0] :: _) w_5_4 by rw [hw_5_4]; exact V_5s.out.box_new 29 [.int .i64 0, .int .i64 0, .slice none 0 0, .slice none 0 0])
        have Bw_5_4 := Lib.hid (show Below w_5.heap.size w_5 w_5_4 by rw [hw_5_4]; exact bnew _ _)
        go_simp
        rw [← hw_5_4]
        clear hw_5_4
        have V_5_4s := Lib.hid (show Hp W [box 29 w_5.heap.size [.int .i64 0, .int .i64 0, .slice none 0 0, .slice none 0 0], box 29 wy.heap.size [.int .i64 0, .int .i64 0, .slice none 0 0, .slice none 0 0], box 25 (W.heap.size + 1) [.int .u8 l1, .slice A2 n2 c2, .int .u16 b2], box 25 W.heap.size [.int .u8 l1, .slice A1 n1 c1, .int .u16 b1]] w_5_4 from V_5_4.out)
        refine hK.out _ _ (hHeld.go Bw_5_4.out) (fun hHeld => ?_)
        clear hK K
        try simp only [Act.put, List.setIfInBounds_toArray, List.set_cons_zero, List.set_cons_succ]
        refine wpAnyH_ready (rs := [1]) (by kernel_rfl) (by simp) ?_
        refine AllReadyH.cons (List.getElem?_toArray.trans rfl) (fun K hK => ?_) AllReadyH.nil
        go_simp
        refine (made_any l1 b1 A1 n1 c1 L1 _ (H1.out.below V_5_4s.out.below)).mono ?_
        rintro e w_5_4_1 ⟨y1, M1, vs1, rfl, im1, hp_5_4_1⟩
        try go_wp2_with fail
        have IM1 := Lib.hid im1
        have B_5_4_1 := Lib.hid hp_5_4_1.below
        have V_5_4_1 := Lib.hid (show Hp W ([box 29 w_5.heap.size [.int .i64 0, .int .i64 0, .slice none 0 0, .slice none 0 0], box 29 wy.heap.size [.int .i64 0, .int .i64 0, .slice none 0 0, .slice none 0 0], box 25 (W.heap.size + 1) [.int .u8 l1, .slice A2 n2 c2, .int .u16 b2], box 25 W.heap.size [.int .u8 l1, .slice A1 n1 c1, .int .u16 b1]] ++ XM y1 M1 vs1) w_5_4_1 from Hp.comm (l := [box 29 w_5.heap.size [.int .i64 0, .int .i64 0, .slice none 0 0, .slice none 0 0], box 29 wy.heap.size [.int .i64 0, .int .i64 0, .slice none 0 0, .slice none 0 0], box 25 (W.heap.size + 1) [.int .u8 l1, .slice A2 n2 c2, .int .u16 b2], box 25 W.heap.size [.int .u8 l1, .slice A1 n1 c1, .int .u16 b1]]) (l2 := XM y1 M1 vs1) (V_5_4s.out.join hp_5_4_1))
        clear hp_5_4_1 im1
        refine hK.out _ _ (hHeld.go B_5_4_1.out) (fun hHeld => ?_)
        clear hK K
        try simp only [Act.put, List.setIfInBounds_toArray, List.set_cons_zero, List.set_cons_succ]
        refine wpAnyH_ready (rs := [3]) (by kernel_rfl) (by simp) ?_
        refine AllReadyH.cons (List.getElem?_toArray.trans rfl) (fun K hK => ?_) AllReadyH.nil
        go_simp
        refine (made_any l1 b2 A2 n2 c2 L2 _ (H2.out.below V_5_4_1.out.below)).mono ?_
        rintro e w_5_4_1_3 ⟨y2, M2, vs2, rfl, im2, hp_5_4_1_3⟩
        try go_wp2_with fail
        have IM2 := Lib.hid im2
        have B_5_4_1_3 := Lib.hid hp_5_4_1_3.below
        have V_5_4_1_3 := Lib.hid (show Hp W ([box 29 w_5.heap.size [.int .i64 0, .int .i64 0, .slice none 0 0, .slice none 0 0], box 29 wy.heap.size [.int .i64 0, .int .i64 0, .slice none 0 0, .slice none 0 0], box 25 (W.heap.size + 1) [.int .u8 l1, .slice A2 n2 c2, .int .u16 b2], box 25 W.heap.size [.int .u8 l1, .slice A1 n1 c1, .int .u16 b1]] ++ (XM y2 M2 vs2 ++ XM y1 M1 vs1)) w_5_4_1_3 from joined (l := [box 29 w_5.heap.size [.int .i64 0, .int .i64 0, .slice none 0 0, .slice none 0 0], box 29 wy.heap.size [.int .i64 0, .int .i64 0, .slice none 0 0, .slice none 0 0], box 25 (W.heap.size + 1) [.int .u8 l1, .slice A2 n2 c2, .int .u16 b2], box 25 W.heap.size [.int .u8 l1, .slice A1 n1 c1, .int .u16 b1]]) (a := XM y1 M1 vs1) (b := XM y2 M2 vs2) (V_5_4_1.out.join hp_5_4_1_3))
        clear hp_5_4_1_3 im2
        refine hK.out _ _ (hHeld.go B_5_4_1_3.out) (fun hHeld => ?_)
        clear hK K
        try simp only [Act.put, List.setIfInBounds_toArray, List.set_cons_zero, List.set_cons_succ]
        refine wpAnyH_ready (rs := [6]) (by kernel_rfl) (by simp) ?_
        refine AllReadyH.cons (List.getElem?_toArray.trans rfl) (fun K hK => ?_) AllReadyH.nil
        obtain ⟨r0, o0, z0⟩ := V_5_4_1_3.out.box_at (i := 0) (j := 0) rfl rfl
        obtain ⟨r1, o1, z1⟩ := V_5_4_1_3.out.box_at (i := 0) (j := 1) rfl rfl
        obtain ⟨r2, o2, z2⟩ := V_5_4_1_3.out.box_at (i := 0) (j := 2) rfl rfl
        obtain ⟨r3, o3, z3⟩ := V_5_4_1_3.out.box_at (i := 0) (j := 3) rfl rfl
        have VS4 := Lib.hid (show Hp W ([box 29 w_5.heap.size [.int .i64 M1.lt, .int .i64 M1.st, .slice y1.A y1.n y1.c, .slice y1.B y1.m y1.d], box 29 wy.heap.size [.int .i64 0, .int .i64 0, .slice none 0 0, .slice none 0 0], box 25 (W.heap.size + 1) [.int .u8 l1, .slice A2 n2 c2, .int .u16 b2], box 25 W.heap.size [.int .u8 l1, .slice A1 n1 c1, .int .u16 b1]] ++ (XM y2 M2 vs2 ++ XM y1 M1 vs1)) _ from ((((V_5_4_1_3.out.box_set (i := 0) rfl 0 (.int .i64 M1.lt)).box_set (i := 0) rfl 1 (.int .i64 M1.st)).box_set (i := 0) rfl 2 (.slice y1.A y1.n y1.c)).box_set (i := 0) rfl 3 (.slice y1.B y1.m y1.d)))
        go_simp
        refine hK.out _ _ (((((hHeld.set _ _ _ (List.forall_mem_cons.2 ⟨(by show ¬ W.heap.size = w_5.heap.size; omega), List.forall_mem_cons.2 ⟨(by show ¬ W.heap.size = w_5.heap.size; omega), List.forall_mem_cons.2 ⟨(by show ¬ W.heap.size = w_5.heap.size; omega), List.forall_mem_cons.2 ⟨(by show ¬ W.heap.size + 1 = w_5.heap.size; omega), List.forall_mem_cons.2 ⟨(by show ¬ W.heap.size + 1 = w_5.heap.size; omega), List.forall_mem_cons.2 ⟨(by show ¬ W.heap.size + 1 = w_5.heap.size; omega), fun _ h => by simp at h⟩⟩⟩⟩⟩⟩)).set _ _ _ (List.forall_mem_cons.2 ⟨(by show ¬ W.heap.size = w_5.heap.size; omega), List.forall_mem_cons.2 ⟨(by show ¬ W.heap.size = w_5.heap.size; omega), List.forall_mem_cons.2 ⟨(by show ¬ W.heap.size = w_5.heap.size; omega), List.forall_mem_cons.2 ⟨(by show ¬ W.heap.size + 1 = w_5.heap.size; omega), List.forall_mem_cons.2 ⟨(by show ¬ W.heap.size + 1 = w_5.heap.size; omega), List.forall_mem_cons.2 ⟨(by show ¬ W.heap.size + 1 = w_5.heap.size; omega), fun _ h => by simp at h⟩⟩⟩⟩⟩⟩)).set _ _ _ (List.forall_mem_cons.2 ⟨(by show ¬ W.heap.size = w_5.heap.size; omega), List.forall_mem_cons.2 ⟨(by show ¬ W.heap.size = w_5.heap.size; omega), List.forall_mem_cons.2 ⟨(by show ¬ W.heap.size = w_5.heap.size; omega), List.forall_mem_cons.2 ⟨(by show ¬ W.heap.size + 1 = w_5.heap.size; omega), List.forall_mem_cons.2 ⟨(by show ¬ W.heap.size + 1 = w_5.heap.size; omega), List.forall_mem_cons.2 ⟨(by show ¬ W.heap.size + 1 = w_5.heap.size; omega), fun _ h => by simp at h⟩⟩⟩⟩⟩⟩)).set _ _ _ (List.forall_mem_cons.2 ⟨(by show ¬ W.heap.size = w_5.heap.size; omega), List.forall_mem_cons.2 ⟨(by show ¬ W.heap.size = w_5.heap.size; omega), List.forall_mem_cons.2 ⟨(by show ¬ W.heap.size = w_5.heap.size; omega), List.forall_mem_cons.2 ⟨(by show ¬ W.heap.size + 1 = w_5.heap.size; omega), List.forall_mem_cons.2 ⟨(by show ¬ W.heap.size + 1 = w_5.heap.size; omega), List.forall_mem_cons.2 ⟨(by show ¬ W.heap.size + 1 = w_5.heap.size; omega), fun _ h => by simp at h⟩⟩⟩⟩⟩⟩))) (fun hHeld => ?_)
        clear hK K
        try simp only [Act.put, List.setIfInBounds_toArray, List.set_cons_zero, List.set_cons_succ]
        refine wpAnyH_ready (rs := [7]) (by kernel_rfl) (by simp) ?_
        refine AllReadyH.cons (List.getElem?_toArray.trans rfl) (fun K hK => ?_) AllReadyH.nil
        obtain ⟨r0, o0, z0⟩ := VS4.out.box_at (i := 1) (j := 0) rfl rfl
        obtain ⟨r1, o1, z1⟩ := VS4.out.box_at (i := 1) (j := 1) rfl rfl
        obtain ⟨r2, o2, z2⟩ := VS4.out.box_at (i := 1) (j := 2) rfl rfl
        obtain ⟨r3, o3, z3⟩ := VS4.out.box_at (i := 1) (j := 3) rfl rfl
        have VS5 := Lib.hid (show Hp W ([box 29 w_5.heap.size [.int .i64 M1.lt, .int .i64 M1.st, .slice y1.A y1.n y1.c, .slice y1.B y1.m y1.d], box 29 wy.heap.size [.int .i64 M2.lt, .int .i64 M2.st, .slice y2.A y2.n y2.c, .slice y2.B y2.m y2.d], box 25 (W.heap.size + 1) [.int .u8 l1, .slice A2 n2 c2, .int .u16 b2], box 25 W.heap.size [.int .u8 l1, .slice A1 n1 c1, .int .u16 b1]] ++ (XM y2 M2 vs2 ++ XM y1 M1 vs1)) _ from ((((VS4.out.box_set (i := 1) rfl 0 (.int .i64 M2.lt)).box_set (i := 1) rfl 1 (.int .i64 M2.st)).box_set (i := 1) rfl 2 (.slice y2.A y2.n y2.c)).box_set (i := 1) rfl 3 (.slice y2.B y2.m y2.d)))
        go_simp
        refine hK.out _ _ (((((hHeld.set _ _ _ (List.forall_mem_cons.2 ⟨(by show ¬ W.heap.size = wy.heap.size; omega), List.forall_mem_cons.2 ⟨(by show ¬ W.heap.size = wy.heap.size; omega), List.forall_mem_cons.2 ⟨(by show ¬ W.heap.size = wy.heap.size; omega), List.forall_mem_cons.2 ⟨(by show ¬ W.heap.size + 1 = wy.heap.size; omega), List.forall_mem_cons.2 ⟨(by show ¬ W.heap.size + 1 = wy.heap.size; omega), List.forall_mem_cons.2 ⟨(by show ¬ W.heap.size + 1 = wy.heap.size; omega), fun _ h => by simp at h⟩⟩⟩⟩⟩⟩)).set _ _ _ (List.forall_mem_cons.2 ⟨(by show ¬ W.heap.size = wy.heap.size; omega), List.forall_mem_cons.2 ⟨(by show ¬ W.heap.size = wy.heap.size; omega), List.forall_mem_cons.2 ⟨(by show ¬ W.heap.size = wy.heap.size; omega), List.forall_mem_cons.2 ⟨(by show ¬ W.heap.size + 1 = wy.heap.size; omega), List.forall_mem_cons.2 ⟨(by show ¬ W.heap.size + 1 = wy.heap.size; omega), List.forall_mem_cons.2 ⟨(by show ¬ W.heap.size + 1 = wy.heap.size; omega), fun _ h => by simp at h⟩⟩⟩⟩⟩⟩)).set _ _ _ (List.forall_mem_cons.2 ⟨(by show ¬ W.heap.size = wy.heap.size; omega), List.forall_mem_cons.2 ⟨(by show ¬ W.heap.size = wy.heap.size; omega), List.forall_mem_cons.2 ⟨(by show ¬ W.heap.size = wy.heap.size; omega), List.forall_mem_cons.2 ⟨(by show ¬ W.heap.size + 1 = wy.heap.size; omega), List.forall_mem_cons.2 ⟨(by show ¬ W.heap.size + 1 = wy.heap.size; omega), List.forall_mem_cons.2 ⟨(by show ¬ W.heap.size + 1 = wy.heap.size; omega), fun _ h => by simp at h⟩⟩⟩⟩⟩⟩)).set _ _ _ (List.forall_mem_cons.2 ⟨(by show ¬ W.heap.size = wy.heap.size; omega), List.forall_mem_cons.2 ⟨(by show ¬ W.heap.size = wy.heap.size; omega), List.forall_mem_cons.2 ⟨(by show ¬ W.heap.size = wy.heap.size; omega), List.forall_mem_cons.2 ⟨(by show ¬ W.heap.size + 1 = wy.heap.size; omega), List.forall_mem_cons.2 ⟨(by show ¬ W.heap.size + 1 = wy.heap.size; omega), List.forall_mem_cons.2 ⟨(by show ¬ W.heap.size + 1 = wy.heap.size; omega), fun _ h => by simp at h⟩⟩⟩⟩⟩⟩))) (fun hHeld => ?_)
        clear hK K
        try simp only [Act.put, List.setIfInBounds_toArray, List.set_cons_zero, List.set_cons_succ]
        refine wpAnyH_done (by kernel_rfl) ?_ _
        go_wp2_with fail
        go_meet
        exact ⟨_, _, y1, M1, y2, M2, rfl, rfl, by rw [HK.out]; exact IM1.out.vld, by rw [HK.out]; exact IM2.out.vld, IM1.out.few, IM2.out.few, IM1.out.dfa (a := [box 29 w_5.heap.size [.int .i64 M1.lt, .int .i64 M1.st, .slice y1.A y1.n y1.c, .slice y1.B y1.m y1.d], box 29 wy.heap.size [.int .i64 M2.lt, .int .i64 M2.st, .slice y2.A y2.n y2.c, .slice y2.B y2.m y2.d], box 25 (W.heap.size + 1) [.int .u8 l1, .slice A2 n2 c2, .int .u16 b2], box 25 W.heap.size [.int .u8 l1, .slice A1 n1 c1, .int .u16 b1]] ++ XM y2 M2 vs2) (b := []) (by rw [List.append_nil, List.append_assoc]; exact VS5.out), IM2.out.dfa (a := [box 29 w_5.heap.size [.int .i64 M1.lt, .int .i64 M1.st, .slice y1.A y1.n y1.c, .slice y1.B y1.m y1.d], box 29 wy.heap.size [.int .i64 M2.lt, .int .i64 M2.st, .slice y2.A y2.n y2.c, .slice y2.B y2.m y2.d], box 25 (W.heap.size + 1) [.int .u8 l1, .slice A2 n2 c2, .int .u16 b2], box 25 W.heap.size [.int .u8 l1, .slice A1 n1 c1, .int .u16 b1]]) (b := XM y1 M1 vs1) VS5.out, VS5.out.box_there (i := 0) rfl (by simp), VS5.out.box_there (i := 1) rfl (by simp), VS5.out.below⟩
      exact AllReadyH.nil
    exact AllReadyH.nil
  case rest =>
    obtain ⟨g7, g8, y1, M1, y2, M2, rfl, rfl, v1, v2, f1, f2, d1, d2, x7, x8, bel⟩ := hcut
    have K1 := Lib.hid v1
    have K2 := Lib.hid v2
    have F1 := Lib.hid f1
    have F2 := Lib.hid f2
    have DA := Lib.hid d1
    have DB := Lib.hid d2
    have BA := Lib.hid x7
    have BB := Lib.hid x8
    have HB := Lib.hid bel
    have HN2 := Lib.hid (show ∀ (f : Bool → Bool → Bool) R, Canon k (fun u => f (M1.lang u) (M2.lang u)) R → R.n ≤ 400 from fun f R h => Nat.le_trans (h.few v1.right v2.right) (two_thirteen f1 f2))
    have HN1 := Lib.hid (show ∀ R, Canon k M1.lang R → R.n ≤ 400 from fun R h => Nat.le_trans (Canon.few (f := fun a _ => a) v1.right v1.right h) (two_thirteen f1 f1))
    clear v1 v2 f1 f2 d1 d2 x7 x8 bel V2
    go_wp2_with fail
    refine (awake_any wc).mono ?_
    rintro e w0 ⟨rfl, b0⟩
    have DA := Lib.hid (DA.out.below b0)
    have DB := Lib.hid (DB.out.below b0)
    have BA := Lib.hid (BA.out.below b0)
    have BB := Lib.hid (BB.out.below b0)
    have HB := Lib.hid (btwo HB.out b0)
    clear b0
    obtain ⟨ba_0, _, ba_09⟩ := BA.out.at' (j := 0) rfl
    obtain ⟨ba_1, _, ba_19⟩ := BA.out.at' (j := 1) rfl
    obtain ⟨ba_2, _, ba_29⟩ := BA.out.at' (j := 2) rfl
    obtain ⟨ba_3, _, ba_39⟩ := BA.out.at' (j := 3) rfl
    obtain ⟨bb_0, _, bb_09⟩ := BB.out.at' (j := 0) rfl
    obtain ⟨bb_1, _, bb_19⟩ := BB.out.at' (j := 1) rfl
    obtain ⟨bb_2, _, bb_29⟩ := BB.out.at' (j := 2) rfl
    obtain ⟨bb_3, _, bb_39⟩ := BB.out.at' (j := 3) rfl
    go_wp2_with fail
    refine (prod_ok y1 y2 M1 M2 1 w0 k (fun u => M1.lang u && M2.lang u) DA.out DB.out K1.out K2.out (by omega) (fun u hu => rfl) (HN2.out (fun a b => a && b))).mono ?_
    rintro e wp1 ⟨zP1, RP1, rfl, hd, hc, hv, hb⟩
    have DP1 := Lib.hid hd
    have CP1 := Lib.hid hc
    have KP1 := Lib.hid hv
    have DA := Lib.hid (DA.out.below hb)
    have DB := Lib.hid (DB.out.below hb)
    have BA := Lib.hid (BA.out.below hb)
    have BB := Lib.hid (BB.out.below hb)
    have HB := Lib.hid (btwo HB.out hb)
    obtain ⟨wq1, hq⟩ : ∃ z, z = wp1.alloc (.cells #[.int .i64 RP1.lt, .int .i64 RP1.st, .slice zP1.A zP1.n zP1.c, .slice zP1.B zP1.m zP1.d] 29) := ⟨_, rfl⟩
    have hb2 : Below wp1.heap.size wp1 wq1 := by rw [hq]; exact bnew _ _
    have BP1 := Lib.hid (show BoxAt wq1 wp1.heap.size [.int .i64 RP1.lt, .int .i64 RP1.st, .slice zP1.A zP1.n zP1.c, .slice zP1.B zP1.m zP1.d] by rw [hq]; exact box_fresh _ _ _ _)
    have DA := Lib.hid (DA.out.below hb2)
    have DB := Lib.hid (DB.out.below hb2)
    have BA := Lib.hid (BA.out.below hb2)
    have BB := Lib.hid (BB.out.below hb2)
    have DP1 := Lib.hid (DP1.out.below hb2)
    have HB := Lib.hid (btwo HB.out hb2)
    have HQ := Lib.hid hq
    clear hq hb hb2 hd hc hv ba_0 ba_09 ba_1 ba_19 ba_2 ba_29 ba_3 ba_39 bb_0 bb_09 bb_1 bb_19 bb_2 bb_29 bb_3 bb_39
    go_upto_region 6 with fail
    rw [← HQ.out]
    clear HQ
    obtain ⟨bb_0, _, bb_09⟩ := BB.out.at' (j := 0) rfl
    obtain ⟨bb_1, _, bb_19⟩ := BB.out.at' (j := 1) rfl
    obtain ⟨bb_2, _, bb_29⟩ := BB.out.at' (j := 2) rfl
    obtain ⟨bb_3, _, bb_39⟩ := BB.out.at' (j := 3) rfl
    obtain ⟨ba_0, _, ba_09⟩ := BA.out.at' (j := 0) rfl
    obtain ⟨ba_1, _, ba_19⟩ := BA.out.at' (j := 1) rfl
    obtain ⟨ba_2, _, ba_29⟩ := BA.out.at' (j := 2) rfl
    obtain ⟨ba_3, _, ba_39⟩ := BA.out.at' (j := 3) rfl
    go_wp2_with fail
    refine (prod_ok y2 y1 M2 M1 1 wq1 k (fun u => M1.lang u && M2.lang u) DB.out DA.out K2.out K1.out (by omega) (fun u hu => by show (M2.lang u && M1.lang u) = (M1.lang u && M2.lang u); cases M1.lang u <;> cases M2.lang u <;> rfl) (HN2.out (fun a b => a && b))).mono ?_
    rintro e wp2 ⟨zP2, RP2, rfl, hd, hc, hv, hb⟩
    have DP2 := Lib.hid hd
    have CP2 := Lib.hid hc
    have KP2 := Lib.hid hv
    have DA := Lib.hid (DA.out.below hb)
    have DB := Lib.hid (DB.out.below hb)
    have BA := Lib.hid (BA.out.below hb)
    have BB := Lib.hid (BB.out.below hb)
    have DP1 := Lib.hid (DP1.out.below hb)
    have BP1 := Lib.hid (BP1.out.below hb)
    have HB := Lib.hid (btwo HB.out hb)
    obtain ⟨wq2, hq⟩ : ∃ z, z = wp2.alloc (.cells #[.int .i64 RP2.lt, .int .i64 RP2.st, .slice zP2.A zP2.n zP2.c, .slice zP2.B zP2.m zP2.d] 29) := ⟨_, rfl⟩
    have hb2 : Below wp2.heap.size wp2 wq2 := by rw [hq]; exact bnew _ _
    have BP2 := Lib.hid (show BoxAt wq2 wp2.heap.size [.int .i64 RP2.lt, .int .i64 RP2.st, .slice zP2.A zP2.n zP2.c, .slice zP2.B zP2.m zP2.d] by rw [hq]; exact box_fresh _ _ _ _)
    have DA := Lib.hid (DA.out.below hb2)
    have DB := Lib.hid (DB.out.below hb2)
    have BA := Lib.hid (BA.out.below hb2)
    have BB := Lib.hid (BB.out.below hb2)
    have DP1 := Lib.hid (DP1.out.below hb2)
    have BP1 := Lib.hid (BP1.out.below hb2)
    have DP2 := Lib.hid (DP2.out.below hb2)
    have HB := Lib.hid (btwo HB.out hb2)
    have HQ := Lib.hid hq
    clear hq hb hb2 hd hc hv bb_0 bb_09 bb_1 bb_19 bb_2 bb_29 bb_3 bb_39 ba_0 ba_09 ba_1 ba_19 ba_2 ba_29 ba_3 ba_39
    go_upto_region 7 with fail
    rw [← HQ.out]
    clear HQ
    obtain ⟨ba_0, _, ba_09⟩ := BA.out.at' (j := 0) rfl
    obtain ⟨ba_1, _, ba_19⟩ := BA.out.at' (j := 1) rfl
    obtain ⟨ba_2, _, ba_29⟩ := BA.out.at' (j := 2) rfl
    obtain ⟨ba_3, _, ba_39⟩ := BA.out.at' (j := 3) rfl
    obtain ⟨bb_0, _, bb_09⟩ := BB.out.at' (j := 0) rfl
    obtain ⟨bb_1, _, bb_19⟩ := BB.out.at' (j := 1) rfl
    obtain ⟨bb_2, _, bb_29⟩ := BB.out.at' (j := 2) rfl
    obtain ⟨bb_3, _, bb_39⟩ := BB.out.at' (j := 3) rfl
    go_wp2_with fail
    refine (prod_ok y1 y2 M1 M2 2 wq2 k (fun u => M1.lang u || M2.lang u) DA.out DB.out K1.out K2.out (by omega) (fun u hu => rfl) (HN2.out (fun a b => a || b))).mono ?_
    rintro e wp3 ⟨zP3, RP3, rfl, hd, hc, hv, hb⟩
    have DP3 := Lib.hid hd
    have CP3 := Lib.hid hc
    have KP3 := Lib.hid hv
    have DA := Lib.hid (DA.out.below hb)
    have DB := Lib.hid (DB.out.below hb)
    have BA := Lib.hid (BA.out.below hb)
    have BB := Lib.hid (BB.out.below hb)
    have DP1 := Lib.hid (DP1.out.below hb)
    have BP1 := Lib.hid (BP1.out.below hb)
    have DP2 := Lib.hid (DP2.out.below hb)
    have BP2 := Lib.hid (BP2.out.below hb)
    have HB := Lib.hid (btwo HB.out hb)
    obtain ⟨wq3, hq⟩ : ∃ z, z = wp3.alloc (.cells #[.int .i64 RP3.lt, .int .i64 RP3.st, .slice zP3.A zP3.n zP3.c, .slice zP3.B zP3.m zP3.d] 29) := ⟨_, rfl⟩
    have hb2 : Below wp3.heap.size wp3 wq3 := by rw [hq]; exact bnew _ _
    have BP3 := Lib.hid (show BoxAt wq3 wp3.heap.size [.int .i64 RP3.lt, .int .i64 RP3.st, .slice zP3.A zP3.n zP3.c, .slice zP3.B zP3.m zP3.d] by rw [hq]; exact box_fresh _ _ _ _)
    have DA := Lib.hid (DA.out.below hb2)
    have DB := Lib.hid (DB.out.below hb2)
    have BA := Lib.hid (BA.out.below hb2)
    have BB := Lib.hid (BB.out.below hb2)
    have DP1 := Lib.hid (DP1.out.below hb2)
    have BP1 := Lib.hid (BP1.out.below hb2)
    have DP2 := Lib.hid (DP2.out.below hb2)
    have BP2 := Lib.hid (BP2.out.below hb2)
    have DP3 := Lib.hid (DP3.out.below hb2)
    have HB := Lib.hid (btwo HB.out hb2)
    have HQ := Lib.hid hq
    clear hq hb hb2 hd hc hv ba_0 ba_09 ba_1 ba_19 ba_2 ba_29 ba_3 ba_39 bb_0 bb_09 bb_1 bb_19 bb_2 bb_29 bb_3 bb_39
    go_upto_region 8 with fail
    rw [← HQ.out]
    clear HQ
    obtain ⟨bb_0, _, bb_09⟩ := BB.out.at' (j := 0) rfl
    obtain ⟨bb_1, _, bb_19⟩ := BB.out.at' (j := 1) rfl
    obtain ⟨bb_2, _, bb_29⟩ := BB.out.at' (j := 2) rfl
    obtain ⟨bb_3, _, bb_39⟩ := BB.out.at' (j := 3) rfl
    obtain ⟨ba_0, _, ba_09⟩ := BA.out.at' (j := 0) rfl
    obtain ⟨ba_1, _, ba_19⟩ := BA.out.at' (j := 1) rfl
    obtain ⟨ba_2, _, ba_29⟩ := BA.out.at' (j := 2) rfl
    obtain ⟨ba_3, _, ba_39⟩ := BA.out.at' (j := 3) rfl
    go_wp2_with fail
    refine (prod_ok y2 y1 M2 M1 2 wq3 k (fun u => M1.lang u || M2.lang u) DB.out DA.out K2.out K1.out (by omega) (fun u hu => by show (M2.lang u || M1.lang u) = (M1.lang u || M2.lang u); cases M1.lang u <;> cases M2.lang u <;> rfl) (HN2.out (fun a b => a || b))).mono ?_
    rintro e wp4 ⟨zP4, RP4, rfl, hd, hc, hv, hb⟩
    have DP4 := Lib.hid hd
    have CP4 := Lib.hid hc
    have KP4 := Lib.hid hv
    have DA := Lib.hid (DA.out.below hb)
    have DB := Lib.hid (DB.out.below hb)
    have BA := Lib.hid (BA.out.below hb)
    have BB := Lib.hid (BB.out.below hb)
    have DP1 := Lib.hid (DP1.out.below hb)
    have BP1 := Lib.hid (BP1.out.below hb)
    have DP2 := Lib.hid (DP2.out.below hb)
    have BP2 := Lib.hid (BP2.out.below hb)
    have DP3 := Lib.hid (DP3.out.below hb)
    have BP3 := Lib.hid (BP3.out.below hb)
    have HB := Lib.hid (btwo HB.out hb)
    obtain ⟨wq4, hq⟩ : ∃ z, z = wp4.alloc (.cells #[.int .i64 RP4.lt, .int .i64 RP4.st, .slice zP4.A zP4.n zP4.c, .slice zP4.B zP4.m zP4.d] 29) := ⟨_, rfl⟩
    have hb2 : Below wp4.heap.size wp4 wq4 := by rw [hq]; exact bnew _ _
    have BP4 := Lib.hid (show BoxAt wq4 wp4.heap.size [.int .i64 RP4.lt, .int .i64 RP4.st, .slice zP4.A zP4.n zP4.c, .slice zP4.B zP4.m zP4.d] by rw [hq]; exact box_fresh _ _ _ _)
    have DA := Lib.hid (DA.out.below hb2)
    have DB := Lib.hid (DB.out.below hb2)
    have BA := Lib.hid (BA.out.below hb2)
    have BB := Lib.hid (BB.out.below hb2)
    have DP1 := Lib.hid (DP1.out.below hb2)
    have BP1 := Lib.hid (BP1.out.below hb2)
    have DP2 := Lib.hid (DP2.out.below hb2)
    have BP2 := Lib.hid (BP2.out.below hb2)
    have DP3 := Lib.hid (DP3.out.below hb2)
    have BP3 := Lib.hid (BP3.out.below hb2)
    have DP4 := Lib.hid (DP4.out.below hb2)
    have HB := Lib.hid (btwo HB.out hb2)
    have HQ := Lib.hid hq
    clear hq hb hb2 hd hc hv bb_0 bb_09 bb_1 bb_19 bb_2 bb_29 bb_3 bb_39 ba_0 ba_09 ba_1 ba_19 ba_2 ba_29 ba_3 ba_39
    go_upto_region 9 with fail
    rw [← HQ.out]
    clear HQ
    obtain ⟨ba_0, _, ba_09⟩ := BA.out.at' (j := 0) rfl
    obtain ⟨ba_1, _, ba_19⟩ := BA.out.at' (j := 1) rfl
    obtain ⟨ba_2, _, ba_29⟩ := BA.out.at' (j := 2) rfl
    obtain ⟨ba_3, _, ba_39⟩ := BA.out.at' (j := 3) rfl
    obtain ⟨bb_0, _, bb_09⟩ := BB.out.at' (j := 0) rfl
    obtain ⟨bb_1, _, bb_19⟩ := BB.out.at' (j := 1) rfl
    obtain ⟨bb_2, _, bb_29⟩ := BB.out.at' (j := 2) rfl
    obtain ⟨bb_3, _, bb_39⟩ := BB.out.at' (j := 3) rfl
    go_wp2_with fail
    refine (prod_ok y1 y2 M1 M2 3 wq4 k (fun u => M1.lang u && !M2.lang u) DA.out DB.out K1.out K2.out (by omega) (fun u hu => rfl) (HN2.out (fun a b => a && !b))).mono ?_
    rintro e wp5 ⟨zP5, RP5, rfl, hd, hc, hv, hb⟩
    have DP5 := Lib.hid hd
    have CP5 := Lib.hid hc
    have KP5 := Lib.hid hv
    have DA := Lib.hid (DA.out.below hb)
    have DB := Lib.hid (DB.out.below hb)
    have BA := Lib.hid (BA.out.below hb)
    have BB := Lib.hid (BB.out.below hb)
    have DP1 := Lib.hid (DP1.out.below hb)
    have BP1 := Lib.hid (BP1.out.below hb)
    have DP2 := Lib.hid (DP2.out.below hb)
    have BP2 := Lib.hid (BP2.out.below hb)
    have DP3 := Lib.hid (DP3.out.below hb)
    have BP3 := Lib.hid (BP3.out.below hb)
    have DP4 := Lib.hid (DP4.out.below hb)
    have BP4 := Lib.hid (BP4.out.below hb)
    have HB := Lib.hid (btwo HB.out hb)
    obtain ⟨wq5, hq⟩ : ∃ z, z = wp5.alloc (.cells #[.int .i64 RP5.lt, .int .i64 RP5.st, .slice zP5.A zP5.n zP5.c, .slice zP5.B zP5.m zP5.d] 29) := ⟨_, rfl⟩
    have hb2 : Below wp5.heap.size wp5 wq5 := by rw [hq]; exact bnew _ _
    have BP5 := Lib.hid (show BoxAt wq5 wp5.heap.size [.int .i64 RP5.lt, .int .i64 RP5.st, .slice zP5.A zP5.n zP5.c, .slice zP5.B zP5.m zP5.d] by rw [hq]; exact box_fresh _ _ _ _)
    have DA := Lib.hid (DA.out.below hb2)
    have DB := Lib.hid (DB.out.below hb2)
    have BA := Lib.hid (BA.out.below hb2)
    have BB := Lib.hid (BB.out.below hb2)
    have DP1 := Lib.hid (DP1.out.below hb2)
    have BP1 := Lib.hid (BP1.out.below hb2)
    have DP2 := Lib.hid (DP2.out.below hb2)
    have BP2 := Lib.hid (BP2.out.below hb2)
    have DP3 := Lib.hid (DP3.out.below hb2)
    have BP3 := Lib.hid (BP3.out.below hb2)
    have DP4 := Lib.hid (DP4.out.below hb2)
    have BP4 := Lib.hid (BP4.out.below hb2)
    have DP5 := Lib.hid (DP5.out.below hb2)
    have HB := Lib.hid (btwo HB.out hb2)
    have HQ := Lib.hid hq
    clear hq hb hb2 hd hc hv ba_0 ba_09 ba_1 ba_19 ba_2 ba_29 ba_3 ba_39 bb_0 bb_09 bb_1 bb_19 bb_2 bb_29 bb_3 bb_39
    go_upto_region 10 with fail
    rw [← HQ.out]
    clear HQ
    obtain ⟨bp1_0, _, bp1_09⟩ := BP1.out.at' (j := 0) rfl
    obtain ⟨bp1_1, _, bp1_19⟩ := BP1.out.at' (j := 1) rfl
    obtain ⟨bp1_2, _, bp1_29⟩ := BP1.out.at' (j := 2) rfl
    obtain ⟨bp1_3, _, bp1_39⟩ := BP1.out.at' (j := 3) rfl
    obtain ⟨bp2_0, _, bp2_09⟩ := BP2.out.at' (j := 0) rfl
    obtain ⟨bp2_1, _, bp2_19⟩ := BP2.out.at' (j := 1) rfl
    obtain ⟨bp2_2, _, bp2_29⟩ := BP2.out.at' (j := 2) rfl
    obtain ⟨bp2_3, _, bp2_39⟩ := BP2.out.at' (j := 3) rfl
    go_wp2_with fail
    refine (same_ok zP1 zP2 RP1 RP2 wq5 DP1.out DP2.out (CP1.out.uniq CP2.out)).mono ?_
    rintro e ws1 ⟨rfl, hb⟩
    have DA := Lib.hid (DA.out.below hb)
    have DB := Lib.hid (DB.out.below hb)
    have BA := Lib.hid (BA.out.below hb)
    have BB := Lib.hid (BB.out.below hb)
    have DP1 := Lib.hid (DP1.out.below hb)
    have BP1 := Lib.hid (BP1.out.below hb)
    have DP2 := Lib.hid (DP2.out.below hb)
    have BP2 := Lib.hid (BP2.out.below hb)
    have DP3 := Lib.hid (DP3.out.below hb)
    have BP3 := Lib.hid (BP3.out.below hb)
    have DP4 := Lib.hid (DP4.out.below hb)
    have BP4 := Lib.hid (BP4.out.below hb)
    have DP5 := Lib.hid (DP5.out.below hb)
    have BP5 := Lib.hid (BP5.out.below hb)
    have HB := Lib.hid (btwo HB.out hb)
    clear hb bp1_0 bp1_09 bp1_1 bp1_19 bp1_2 bp1_29 bp1_3 bp1_39 bp2_0 bp2_09 bp2_1 bp2_19 bp2_2 bp2_29 bp2_3 bp2_39
    obtain ⟨bp3_0, _, bp3_09⟩ := BP3.out.at' (j := 0) rfl
    obtain ⟨bp3_1, _, bp3_19⟩ := BP3.out.at' (j := 1) rfl
    obtain ⟨bp3_2, _, bp3_29⟩ := BP3.out.at' (j := 2) rfl
    obtain ⟨bp3_3, _, bp3_39⟩ := BP3.out.at' (j := 3) rfl
    obtain ⟨bp4_0, _, bp4_09⟩ := BP4.out.at' (j := 0) rfl
    obtain ⟨bp4_1, _, bp4_19⟩ := BP4.out.at' (j := 1) rfl
    obtain ⟨bp4_2, _, bp4_29⟩ := BP4.out.at' (j := 2) rfl
    obtain ⟨bp4_3, _, bp4_39⟩ := BP4.out.at' (j := 3) rfl
    go_wp2_with fail
    refine (same_ok zP3 zP4 RP3 RP4 ws1 DP3.out DP4.out (CP3.out.uniq CP4.out)).mono ?_
    rintro e ws2 ⟨rfl, hb⟩
    have DA := Lib.hid (DA.out.below hb)
    have DB := Lib.hid (DB.out.below hb)
    have BA := Lib.hid (BA.out.below hb)
    have BB := Lib.hid (BB.out.below hb)
    have DP1 := Lib.hid (DP1.out.below hb)
    have BP1 := Lib.hid (BP1.out.below hb)
    have DP2 := Lib.hid (DP2.out.below hb)
    have BP2 := Lib.hid (BP2.out.below hb)
    have DP3 := Lib.hid (DP3.out.below hb)
    have BP3 := Lib.hid (BP3.out.below hb)
    have DP4 := Lib.hid (DP4.out.below hb)
    have BP4 := Lib.hid (BP4.out.below hb)
    have DP5 := Lib.hid (DP5.out.below hb)
    have BP5 := Lib.hid (BP5.out.below hb)
    have HB := Lib.hid (btwo HB.out hb)
    clear hb bp3_0 bp3_09 bp3_1 bp3_19 bp3_2 bp3_29 bp3_3 bp3_39 bp4_0 bp4_09 bp4_1 bp4_19 bp4_2 bp4_29 bp4_3 bp4_39
    obtain ⟨bp1_0, _, bp1_09⟩ := BP1.out.at' (j := 0) rfl
    obtain ⟨bp1_1, _, bp1_19⟩ := BP1.out.at' (j := 1) rfl
    obtain ⟨bp1_2, _, bp1_29⟩ := BP1.out.at' (j := 2) rfl
    obtain ⟨bp1_3, _, bp1_39⟩ := BP1.out.at' (j := 3) rfl
    obtain ⟨bp5_0, _, bp5_09⟩ := BP5.out.at' (j := 0) rfl
    obtain ⟨bp5_1, _, bp5_19⟩ := BP5.out.at' (j := 1) rfl
    obtain ⟨bp5_2, _, bp5_29⟩ := BP5.out.at' (j := 2) rfl
    obtain ⟨bp5_3, _, bp5_39⟩ := BP5.out.at' (j := 3) rfl
    go_wp2_with fail
    refine (prod_ok zP1 zP5 RP1 RP5 2 ws2 k M1.lang DP1.out DP5.out KP1.out KP5.out (by omega) (fun u hu => by show (RP1.lang u || RP5.lang u) = M1.lang u; rw [CP1.out.lang u hu, CP5.out.lang u hu]; cases M1.lang u <;> cases M2.lang u <;> rfl) HN1.out).mono ?_
    rintro e wp6 ⟨zP6, RP6, rfl, hd, hc, hv, hb⟩
    have DP6 := Lib.hid hd
    have CP6 := Lib.hid hc
    have KP6 := Lib.hid hv
    have DA := Lib.hid (DA.out.below hb)
    have DB := Lib.hid (DB.out.below hb)
    have BA := Lib.hid (BA.out.below hb)
    have BB := Lib.hid (BB.out.below hb)
    have DP1 := Lib.hid (DP1.out.below hb)
    have BP1 := Lib.hid (BP1.out.below hb)
    have DP2 := Lib.hid (DP2.out.below hb)
    have BP2 := Lib.hid (BP2.out.below hb)
    have DP3 := Lib.hid (DP3.out.below hb)
    have BP3 := Lib.hid (BP3.out.below hb)
    have DP4 := Lib.hid (DP4.out.below hb)
    have BP4 := Lib.hid (BP4.out.below hb)
    have DP5 := Lib.hid (DP5.out.below hb)
    have BP5 := Lib.hid (BP5.out.below hb)
    have HB := Lib.hid (btwo HB.out hb)
    obtain ⟨wq6, hq⟩ : ∃ z, z = wp6.alloc (.cells #[.int .i64 RP6.lt, .int .i64 RP6.st, .slice zP6.A zP6.n zP6.c, .slice zP6.B zP6.m zP6.d] 29) := ⟨_, rfl⟩
    have hb2 : Below wp6.heap.size wp6 wq6 := by rw [hq]; exact bnew _ _
    have BP6 := Lib.hid (show BoxAt wq6 wp6.heap.size [.int .i64 RP6.lt, .int .i64 RP6.st, .slice zP6.A zP6.n zP6.c, .slice zP6.B zP6.m zP6.d] by rw [hq]; exact box_fresh _ _ _ _)
    have DA := Lib.hid (DA.out.below hb2)
    have DB := Lib.hid (DB.out.below hb2)
    have BA := Lib.hid (BA.out.below hb2)
    have BB := Lib.hid (BB.out.below hb2)
    have DP1 := Lib.hid (DP1.out.below hb2)
    have BP1 := Lib.hid (BP1.out.below hb2)
    have DP2 := Lib.hid (DP2.out.below hb2)
    have BP2 := Lib.hid (BP2.out.below hb2)
    have DP3 := Lib.hid (DP3.out.below hb2)
    have BP3 := Lib.hid (BP3.out.below hb2)
    have DP4 := Lib.hid (DP4.out.below hb2)
    have BP4 := Lib.hid (BP4.out.below hb2)
    have DP5 := Lib.hid (DP5.out.below hb2)
    have BP5 := Lib.hid (BP5.out.below hb2)
    have DP6 := Lib.hid (DP6.out.below hb2)
    have HB := Lib.hid (btwo HB.out hb2)
    have HQ := Lib.hid hq
    clear hq hb hb2 hd hc hv bp1_0 bp1_09 bp1_1 bp1_19 bp1_2 bp1_29 bp1_3 bp1_39 bp5_0 bp5_09 bp5_1 bp5_19 bp5_2 bp5_29 bp5_3 bp5_39
    go_upto_region 13 with fail
    rw [← HQ.out]
    clear HQ
    obtain ⟨ba_0, _, ba_09⟩ := BA.out.at' (j := 0) rfl
    obtain ⟨ba_1, _, ba_19⟩ := BA.out.at' (j := 1) rfl
    obtain ⟨ba_2, _, ba_29⟩ := BA.out.at' (j := 2) rfl
    obtain ⟨ba_3, _, ba_39⟩ := BA.out.at' (j := 3) rfl
    go_wp2_with fail
    refine (min_ok y1 M1 wq6 k DA.out K1.out HN1.out).mono ?_
    rintro e wp7 ⟨zP7, RP7, rfl, hd, hc, hv, hb⟩
    have DP7 := Lib.hid hd
    have CP7 := Lib.hid hc
    have KP7 := Lib.hid hv
    have DA := Lib.hid (DA.out.below hb)
    have DB := Lib.hid (DB.out.below hb)
    have BA := Lib.hid (BA.out.below hb)
    have BB := Lib.hid (BB.out.below hb)
    have DP1 := Lib.hid (DP1.out.below hb)
    have BP1 := Lib.hid (BP1.out.below hb)
    have DP2 := Lib.hid (DP2.out.below hb)
    have BP2 := Lib.hid (BP2.out.below hb)
    have DP3 := Lib.hid (DP3.out.below hb)
    have BP3 := Lib.hid (BP3.out.below hb)
    have DP4 := Lib.hid (DP4.out.below hb)
    have BP4 := Lib.hid (BP4.out.below hb)
    have DP5 := Lib.hid (DP5.out.below hb)
    have BP5 := Lib.hid (BP5.out.below hb)
    have DP6 := Lib.hid (DP6.out.below hb)
    have BP6 := Lib.hid (BP6.out.below hb)
    have HB := Lib.hid (btwo HB.out hb)
    obtain ⟨wq7, hq⟩ : ∃ z, z = wp7.alloc (.cells #[.int .i64 RP7.lt, .int .i64 RP7.st, .slice zP7.A zP7.n zP7.c, .slice zP7.B zP7.m zP7.d] 29) := ⟨_, rfl⟩
    have hb2 : Below wp7.heap.size wp7 wq7 := by rw [hq]; exact bnew _ _
    have BP7 := Lib.hid (show BoxAt wq7 wp7.heap.size [.int .i64 RP7.lt, .int .i64 RP7.st, .slice zP7.A zP7.n zP7.c, .slice zP7.B zP7.m zP7.d] by rw [hq]; exact box_fresh _ _ _ _)
    have DA := Lib.hid (DA.out.below hb2)
    have DB := Lib.hid (DB.out.below hb2)
    have BA := Lib.hid (BA.out.below hb2)
    have BB := Lib.hid (BB.out.below hb2)
    have DP1 := Lib.hid (DP1.out.below hb2)
    have BP1 := Lib.hid (BP1.out.below hb2)
    have DP2 := Lib.hid (DP2.out.below hb2)
    have BP2 := Lib.hid (BP2.out.below hb2)
    have DP3 := Lib.hid (DP3.out.below hb2)
    have BP3 := Lib.hid (BP3.out.below hb2)
    have DP4 := Lib.hid (DP4.out.below hb2)
    have BP4 := Lib.hid (BP4.out.below hb2)
    have DP5 := Lib.hid (DP5.out.below hb2)
    have BP5 := Lib.hid (BP5.out.below hb2)
    have DP6 := Lib.hid (DP6.out.below hb2)
    have BP6 := Lib.hid (BP6.out.below hb2)
    have DP7 := Lib.hid (DP7.out.below hb2)
    have HB := Lib.hid (btwo HB.out hb2)
    have HQ := Lib.hid hq
    clear hq hb hb2 hd hc hv ba_0 ba_09 ba_1 ba_19 ba_2 ba_29 ba_3 ba_39
    go_upto_region 14 with fail
    rw [← HQ.out]
    clear HQ
    obtain ⟨bp6_0, _, bp6_09⟩ := BP6.out.at' (j := 0) rfl
    obtain ⟨bp6_1, _, bp6_19⟩ := BP6.out.at' (j := 1) rfl
    obtain ⟨bp6_2, _, bp6_29⟩ := BP6.out.at' (j := 2) rfl
    obtain ⟨bp6_3, _, bp6_39⟩ := BP6.out.at' (j := 3) rfl
    obtain ⟨bp7_0, _, bp7_09⟩ := BP7.out.at' (j := 0) rfl
    obtain ⟨bp7_1, _, bp7_19⟩ := BP7.out.at' (j := 1) rfl
    obtain ⟨bp7_2, _, bp7_29⟩ := BP7.out.at' (j := 2) rfl
    obtain ⟨bp7_3, _, bp7_39⟩ := BP7.out.at' (j := 3) rfl
    go_wp2_with fail
    refine (same_ok zP6 zP7 RP6 RP7 wq7 DP6.out DP7.out (CP6.out.uniq CP7.out)).mono ?_
    rintro e ws3 ⟨rfl, hb⟩
    have DA := Lib.hid (DA.out.below hb)
    have DB := Lib.hid (DB.out.below hb)
    have BA := Lib.hid (BA.out.below hb)
    have BB := Lib.hid (BB.out.below hb)
    have DP1 := Lib.hid (DP1.out.below hb)
    have BP1 := Lib.hid (BP1.out.below hb)
    have DP2 := Lib.hid (DP2.out.below hb)
    have BP2 := Lib.hid (BP2.out.below hb)
    have DP3 := Lib.hid (DP3.out.below hb)
    have BP3 := Lib.hid (BP3.out.below hb)
    have DP4 := Lib.hid (DP4.out.below hb)
    have BP4 := Lib.hid (BP4.out.below hb)
    have DP5 := Lib.hid (DP5.out.below hb)
    have BP5 := Lib.hid (BP5.out.below hb)
    have DP6 := Lib.hid (DP6.out.below hb)
    have BP6 := Lib.hid (BP6.out.below hb)
    have DP7 := Lib.hid (DP7.out.below hb)
    have BP7 := Lib.hid (BP7.out.below hb)
    have HB := Lib.hid (btwo HB.out hb)
    clear hb bp6_0 bp6_09 bp6_1 bp6_19 bp6_2 bp6_29 bp6_3 bp6_39 bp7_0 bp7_09 bp7_1 bp7_19 bp7_2 bp7_29 bp7_3 bp7_39
    obtain ⟨m, hm⟩ : ∃ m : Nat, m = a.toNat % 21 := ⟨_, rfl⟩
    have hm20 : m ≤ 20 := by omega
    have q1 : a.tmod 21 = (m : Int) := by rw [hm]; have := Int.tmod_eq_emod_of_nonneg (a := a) (b := 21) ha.1; omega
    have q2 : IntKind.u8.wrap (m : Int) = (m : Int) := IntWalk.u8_in _ (by omega)
    have q3 : IntKind.i64.wrap (m : Int) = (m : Int) := IntWalk.i64_in _ (by omega)
    obtain ⟨c, hc⟩ : ∃ c, c = M1.cw m M1.st := ⟨_, rfl⟩
    obtain ⟨d, hd⟩ : ∃ d, d = RP1.cw m RP1.st := ⟨_, rfl⟩
    obtain ⟨u, hu⟩ : ∃ u, u = RP5.cw m RP5.st := ⟨_, rfl⟩
    have hcdu : c = d + u := by rw [hc, hd, hu]; exact cw_split K1.out.right KP1.out.right KP5.out.right (f := M2.lang) CP1.out.lang CP5.out.lang m
    have hcb : c ≤ 1099511627776 := by rw [hc]; exact cw_few K1.out.right hk4 hm20
    have q4 : IntKind.i64.wrap ((d : Int) + (u : Int)) = (c : Int) := by rw [IntWalk.i64_in _ (by omega)]; omega
    have HCC := Lib.hid hc
    have HDD := Lib.hid hd
    have HUU := Lib.hid hu
    clear hm hc hd hu hcdu hcb
    obtain ⟨ba_0, _, ba_09⟩ := BA.out.at' (j := 0) rfl
    obtain ⟨ba_1, _, ba_19⟩ := BA.out.at' (j := 1) rfl
    obtain ⟨ba_2, _, ba_29⟩ := BA.out.at' (j := 2) rfl
    obtain ⟨ba_3, _, ba_39⟩ := BA.out.at' (j := 3) rfl
    go_wp2_with fail
    refine (count_ok y1 M1 ws3 k m c (m : Int) DA.out K1.out hk4 hm20 rfl HCC.out.symm).mono ?_
    rintro e wt1 ⟨rfl, hb⟩
    have DA := Lib.hid (DA.out.below hb)
    have DB := Lib.hid (DB.out.below hb)
    have BA := Lib.hid (BA.out.below hb)
    have BB := Lib.hid (BB.out.below hb)
    have DP1 := Lib.hid (DP1.out.below hb)
    have BP1 := Lib.hid (BP1.out.below hb)
    have DP2 := Lib.hid (DP2.out.below hb)
    have BP2 := Lib.hid (BP2.out.below hb)
    have DP3 := Lib.hid (DP3.out.below hb)
    have BP3 := Lib.hid (BP3.out.below hb)
    have DP4 := Lib.hid (DP4.out.below hb)
    have BP4 := Lib.hid (BP4.out.below hb)
    have DP5 := Lib.hid (DP5.out.below hb)
    have BP5 := Lib.hid (BP5.out.below hb)
    have DP6 := Lib.hid (DP6.out.below hb)
    have BP6 := Lib.hid (BP6.out.below hb)
    have DP7 := Lib.hid (DP7.out.below hb)
    have BP7 := Lib.hid (BP7.out.below hb)
    have HB := Lib.hid (btwo HB.out hb)
    clear hb ba_0 ba_09 ba_1 ba_19 ba_2 ba_29 ba_3 ba_39
    obtain ⟨bp1_0, _, bp1_09⟩ := BP1.out.at' (j := 0) rfl
    obtain ⟨bp1_1, _, bp1_19⟩ := BP1.out.at' (j := 1) rfl
    obtain ⟨bp1_2, _, bp1_29⟩ := BP1.out.at' (j := 2) rfl
    obtain ⟨bp1_3, _, bp1_39⟩ := BP1.out.at' (j := 3) rfl
    go_wp2_with fail
    refine (count_ok zP1 RP1 wt1 k m d (m : Int) DP1.out KP1.out hk4 hm20 rfl HDD.out.symm).mono ?_
    rintro e wt2 ⟨rfl, hb⟩
    have DA := Lib.hid (DA.out.below hb)
    have DB := Lib.hid (DB.out.below hb)
    have BA := Lib.hid (BA.out.below hb)
    have BB := Lib.hid (BB.out.below hb)
    have DP1 := Lib.hid (DP1.out.below hb)
    have BP1 := Lib.hid (BP1.out.below hb)
    have DP2 := Lib.hid (DP2.out.below hb)
    have BP2 := Lib.hid (BP2.out.below hb)
    have DP3 := Lib.hid (DP3.out.below hb)
    have BP3 := Lib.hid (BP3.out.below hb)
    have DP4 := Lib.hid (DP4.out.below hb)
    have BP4 := Lib.hid (BP4.out.below hb)
    have DP5 := Lib.hid (DP5.out.below hb)
    have BP5 := Lib.hid (BP5.out.below hb)
    have DP6 := Lib.hid (DP6.out.below hb)
    have BP6 := Lib.hid (BP6.out.below hb)
    have DP7 := Lib.hid (DP7.out.below hb)
    have BP7 := Lib.hid (BP7.out.below hb)
    have HB := Lib.hid (btwo HB.out hb)
    clear hb bp1_0 bp1_09 bp1_1 bp1_19 bp1_2 bp1_29 bp1_3 bp1_39
    obtain ⟨bp5_0, _, bp5_09⟩ := BP5.out.at' (j := 0) rfl
    obtain ⟨bp5_1, _, bp5_19⟩ := BP5.out.at' (j := 1) rfl
    obtain ⟨bp5_2, _, bp5_29⟩ := BP5.out.at' (j := 2) rfl
    obtain ⟨bp5_3, _, bp5_39⟩ := BP5.out.at' (j := 3) rfl
    go_wp2_with fail
    refine (count_ok zP5 RP5 wt2 k m u (m : Int) DP5.out KP5.out hk4 hm20 rfl HUU.out.symm).mono ?_
    rintro e wt3 ⟨rfl, hb⟩
    have DA := Lib.hid (DA.out.below hb)
    have DB := Lib.hid (DB.out.below hb)
    have BA := Lib.hid (BA.out.below hb)
    have BB := Lib.hid (BB.out.below hb)
    have DP1 := Lib.hid (DP1.out.below hb)
    have BP1 := Lib.hid (BP1.out.below hb)
    have DP2 := Lib.hid (DP2.out.below hb)
    have BP2 := Lib.hid (BP2.out.below hb)
    have DP3 := Lib.hid (DP3.out.below hb)
    have BP3 := Lib.hid (BP3.out.below hb)
    have DP4 := Lib.hid (DP4.out.below hb)
    have BP4 := Lib.hid (BP4.out.below hb)
    have DP5 := Lib.hid (DP5.out.below hb)
    have BP5 := Lib.hid (BP5.out.below hb)
    have DP6 := Lib.hid (DP6.out.below hb)
    have BP6 := Lib.hid (BP6.out.below hb)
    have DP7 := Lib.hid (DP7.out.below hb)
    have BP7 := Lib.hid (BP7.out.below hb)
    have HB := Lib.hid (btwo HB.out hb)
    clear hb bp5_0 bp5_09 bp5_1 bp5_19 bp5_2 bp5_29 bp5_3 bp5_39
    go_wp2_with fail
    go_ret
    exact ⟨rfl, HB.out⟩
end Go.Proofs.Ytjobhpekclomfab
