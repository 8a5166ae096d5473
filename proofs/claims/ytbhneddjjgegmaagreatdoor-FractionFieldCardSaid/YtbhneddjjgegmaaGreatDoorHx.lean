/- What the statement about the field answers: true, whatever the input. -/
import Derived.Test.YtbhneddjjgegmaaGreatDoorHH
namespace Go.Proofs.YtbhneddjjgegmaaGreatDoor
open Go.RowKit
set_option linter.unusedVariables false
set_option maxRecDepth 100000

set_option linter.unusedSimpArgs false
set_option maxHeartbeats 16000000 in
theorem lawfield_any (a b a2 b2 a3 b3 : Int) (W : World) (ha : -32768 ≤ a) (ha2 : a ≤ 32767) (hb : 0 ≤ b) (hb2 : b ≤ 255) (hc : -32768 ≤ a2) (hc2 : a2 ≤ 32767) (hd : 0 ≤ b2) (hd2 : b2 ≤ 255) (he : -32768 ≤ a3) (he2 : a3 ≤ 32767) (hf : 0 ≤ b3) (hf2 : b3 ≤ 255) (hT : Tab W) (hC : Cutl W) :
    Calls Tryz.prog 4 #[.agg #[.int .i16 a, .int .u8 b], .agg #[.int .i16 a2, .int .u8 b2], .agg #[.int .i16 a3, .int .u8 b3]] W fun e w' => e = .returned (.bool true) ∧ Below W.heap.size W w' := by
  obtain ⟨W0, hW0⟩ : ∃ x, x = ((W.alloc (.cells #[.int .i16 a, .int .u8 b] 37)).alloc (.cells #[.int .i16 a2, .int .u8 b2] 37)).alloc (.cells #[.int .i16 a3, .int .u8 b3] 37) := ⟨_, rfl⟩
  have B0 := Lib.hid (show Below W.heap.size W W0 by rw [hW0]; exact btwo (btwo one_new one_new) one_new)
  have HC0 := Lib.hid (show W0.cell? ⟨W.heap.size, 0, none⟩ = some (.int .i16 a) ∧ W0.cell? ⟨W.heap.size, 1, none⟩ = some (.int .u8 b) ∧ W0.cell? ⟨W.heap.size + 1, 0, none⟩ = some (.int .i16 a2) ∧ W0.cell? ⟨W.heap.size + 1, 1, none⟩ = some (.int .u8 b2) ∧ W0.cell? ⟨W.heap.size + 1 + 1, 0, none⟩ = some (.int .i16 a3) ∧ W0.cell? ⟨W.heap.size + 1 + 1, 1, none⟩ = some (.int .u8 b3) ∧ W.heap.size + 1 + 1 < W0.heap.size from by rw [hW0]; simp [go_sem])
  have HT := Lib.hid hT
  have HC := Lib.hid hC
  have HW0 := Lib.hid hW0
  clear hT hC hW0
  go_enter Tryz.func4, Tryz.ntmps4
  go_upto_region 1 with fail
  rw [← HW0.out]
  clear HW0
  go_wp2_with fail
  refine (awake_any _ (HT.out.below B0.out) (HC.out.below B0.out)).mono ?_
  rintro e w1 ⟨rfl, b1⟩
  have B1 := Lib.hid (btwo B0.out b1)
  obtain ⟨c0, c1, c2, c3, c4, c5, c6⟩ := HC0.out
  have x0 := (b1.cell (p := ⟨W.heap.size, 0, none⟩) (by show W.heap.size < W0.heap.size; omega)).trans c0
  have x1 := (b1.cell (p := ⟨W.heap.size, 1, none⟩) (by show W.heap.size < W0.heap.size; omega)).trans c1
  have y0 := (b1.cell (p := ⟨W.heap.size + 1, 0, none⟩) (by show W.heap.size + 1 < W0.heap.size; omega)).trans c2
  have y1 := (b1.cell (p := ⟨W.heap.size + 1, 1, none⟩) (by show W.heap.size + 1 < W0.heap.size; omega)).trans c3
  have z0 := (b1.cell (p := ⟨W.heap.size + 1 + 1, 0, none⟩) (by show W.heap.size + 1 + 1 < W0.heap.size; omega)).trans c4
  have z1 := (b1.cell (p := ⟨W.heap.size + 1 + 1, 1, none⟩) (by show W.heap.size + 1 + 1 < W0.heap.size; omega)).trans c5
  have hl0 := c6
  clear c0 c1 c2 c3 c4 c5 c6
  have hlt := Nat.lt_of_lt_of_le hl0 b1.size
  clear b1 hl0
  go_upto_region 3 with fail
  refine wp_region_held_drew (S := fun w' => Below w1.heap.size w1 w') (by kernel_rfl) (Below.refl _ _).drew (fun hHeld => ?_)
  refine wpAnyH_take (i := 0) (v := ?_) (List.getElem?_toArray.trans rfl) (by kernel_rfl) (by kernel_rfl) (by kernel_rfl) (fun _ _ _ h => h) (Or.inl ⟨by rfl, ?_⟩) (by assumption) ?_
  rotate_left
  · intro w hSw; go_simp; try (with_reducible rfl)
  try simp only [Act.put, List.setIfInBounds_toArray, List.set_cons_zero, List.set_cons_succ]
  refine wpAnyH_take (i := 1) (v := ?_) (List.getElem?_toArray.trans rfl) (by kernel_rfl) (by kernel_rfl) (by kernel_rfl) (fun _ _ _ h => h) (Or.inl ⟨by rfl, ?_⟩) (by assumption) ?_
  rotate_left
  · intro w hSw
    have hSw : Below w1.heap.size w1 w := hSw
    have k0 := (hSw.cell (p := ⟨W.heap.size, 0, none⟩) (by show W.heap.size < w1.heap.size; omega)).trans x0
    go_simp
    try (with_reducible rfl)
  try simp only [Act.put, List.setIfInBounds_toArray, List.set_cons_zero, List.set_cons_succ]
  refine wpAnyH_take (i := 2) (v := ?_) (List.getElem?_toArray.trans rfl) (by kernel_rfl) (by kernel_rfl) (by kernel_rfl) (fun _ _ _ h => h) (Or.inl ⟨by rfl, ?_⟩) (by assumption) ?_
  rotate_left
  · intro w hSw; go_simp; try (with_reducible rfl)
  try simp only [Act.put, List.setIfInBounds_toArray, List.set_cons_zero, List.set_cons_succ]
  refine wpAnyH_take (i := 3) (v := ?_) (List.getElem?_toArray.trans rfl) (by kernel_rfl) (by kernel_rfl) (by kernel_rfl) (fun _ _ _ h => h) (Or.inl ⟨by rfl, ?_⟩) (by assumption) ?_
  rotate_left
  · intro w hSw
    have hSw : Below w1.heap.size w1 w := hSw
    have k0 := (hSw.cell (p := ⟨W.heap.size, 1, none⟩) (by show W.heap.size < w1.heap.size; omega)).trans x1
    go_simp
    try (with_reducible rfl)
  try simp only [Act.put, List.setIfInBounds_toArray, List.set_cons_zero, List.set_cons_succ]
  refine wpAnyH_take (i := 5) (v := ?_) (List.getElem?_toArray.trans rfl) (by kernel_rfl) (by kernel_rfl) (by kernel_rfl) (fun _ _ _ h => h) (Or.inl ⟨by rfl, ?_⟩) (by assumption) ?_
  rotate_left
  · intro w hSw; go_simp; try (with_reducible rfl)
  try simp only [Act.put, List.setIfInBounds_toArray, List.set_cons_zero, List.set_cons_succ]
  refine wpAnyH_take (i := 6) (v := ?_) (List.getElem?_toArray.trans rfl) (by kernel_rfl) (by kernel_rfl) (by kernel_rfl) (fun _ _ _ h => h) (Or.inl ⟨by rfl, ?_⟩) (by assumption) ?_
  rotate_left
  · intro w hSw
    have hSw : Below w1.heap.size w1 w := hSw
    have k0 := (hSw.cell (p := ⟨W.heap.size + 1, 0, none⟩) (by show W.heap.size + 1 < w1.heap.size; omega)).trans y0
    go_simp
    try (with_reducible rfl)
  try simp only [Act.put, List.setIfInBounds_toArray, List.set_cons_zero, List.set_cons_succ]
  refine wpAnyH_take (i := 7) (v := ?_) (List.getElem?_toArray.trans rfl) (by kernel_rfl) (by kernel_rfl) (by kernel_rfl) (fun _ _ _ h => h) (Or.inl ⟨by rfl, ?_⟩) (by assumption) ?_
  rotate_left
  · intro w hSw; go_simp; try (with_reducible rfl)
  try simp only [Act.put, List.setIfInBounds_toArray, List.set_cons_zero, List.set_cons_succ]
  refine wpAnyH_take (i := 8) (v := ?_) (List.getElem?_toArray.trans rfl) (by kernel_rfl) (by kernel_rfl) (by kernel_rfl) (fun _ _ _ h => h) (Or.inl ⟨by rfl, ?_⟩) (by assumption) ?_
  rotate_left
  · intro w hSw
    have hSw : Below w1.heap.size w1 w := hSw
    have k0 := (hSw.cell (p := ⟨W.heap.size + 1, 1, none⟩) (by show W.heap.size + 1 < w1.heap.size; omega)).trans y1
    go_simp
    try (with_reducible rfl)
  try simp only [Act.put, List.setIfInBounds_toArray, List.set_cons_zero, List.set_cons_succ]
  refine wpAnyH_take (i := 10) (v := ?_) (List.getElem?_toArray.trans rfl) (by kernel_rfl) (by kernel_rfl) (by kernel_rfl) (fun _ _ _ h => h) (Or.inl ⟨by rfl, ?_⟩) (by assumption) ?_
  rotate_left
  · intro w hSw; go_simp; try (with_reducible rfl)
  try simp only [Act.put, List.setIfInBounds_toArray, List.set_cons_zero, List.set_cons_succ]
  refine wpAnyH_take (i := 11) (v := ?_) (List.getElem?_toArray.trans rfl) (by kernel_rfl) (by kernel_rfl) (by kernel_rfl) (fun _ _ _ h => h) (Or.inl ⟨by rfl, ?_⟩) (by assumption) ?_
  rotate_left
  · intro w hSw
    have hSw : Below w1.heap.size w1 w := hSw
    have k0 := (hSw.cell (p := ⟨W.heap.size + 1 + 1, 0, none⟩) (by show W.heap.size + 1 + 1 < w1.heap.size; omega)).trans z0
    go_simp
    try (with_reducible rfl)
  try simp only [Act.put, List.setIfInBounds_toArray, List.set_cons_zero, List.set_cons_succ]
  refine wpAnyH_take (i := 12) (v := ?_) (List.getElem?_toArray.trans rfl) (by kernel_rfl) (by kernel_rfl) (by kernel_rfl) (fun _ _ _ h => h) (Or.inl ⟨by rfl, ?_⟩) (by assumption) ?_
  rotate_left
  · intro w hSw; go_simp; try (with_reducible rfl)
  try simp only [Act.put, List.setIfInBounds_toArray, List.set_cons_zero, List.set_cons_succ]
  refine wpAnyH_take (i := 13) (v := ?_) (List.getElem?_toArray.trans rfl) (by kernel_rfl) (by kernel_rfl) (by kernel_rfl) (fun _ _ _ h => h) (Or.inl ⟨by rfl, ?_⟩) (by assumption) ?_
  rotate_left
  · intro w hSw
    have hSw : Below w1.heap.size w1 w := hSw
    have k0 := (hSw.cell (p := ⟨W.heap.size + 1 + 1, 1, none⟩) (by show W.heap.size + 1 + 1 < w1.heap.size; omega)).trans z1
    go_simp
    try (with_reducible rfl)
  try simp only [Act.put, List.setIfInBounds_toArray, List.set_cons_zero, List.set_cons_succ]
  have HY0 := Lib.hid y0
  clear x0 x1 y0 y1 z0 z1 hHeld
  generalize hG : wpAnyH _ _ _ _ _ = G
  have HG := Lib.hid hG
  clear hG
  have V1 := Lib.hid ((BoxF.start w1).go (w' := w1.drew) (Below.refl _ _).drew)
  have st3_123_3 := Lib.hid (show ∀ (f1 : FB) (p1 q1 : Int) (f2 : FB) (p2 q2 : Int) (f3 : FB) (p3 q3 : Int) (g1 : Nat) (g2 : Nat) (g3 : Nat) (w : World) (V : Hid (BoxF w1 [(g1, f1), (g2, f2), (g3, f3)] [(.slice f3.A f3.n f3.c, p3), (.slice f3.B f3.m f3.d, q3), (.slice f2.A f2.n f2.c, p2), (.slice f2.B f2.m f2.d, q2), (.slice f1.A f1.n f1.c, p1), (.slice f1.B f1.m f1.d, q1)] w)) (F1 : Hid (Sz 2 f1.s p1 q1 ∧ (p1 = 0 → a = 0))) (F2 : Hid (Sz 2 f2.s p2 q2 ∧ (p2 = 0 → a2 = 0))) (F3 : Hid (Sz 2 f3.s p3 q3 ∧ (p3 = 0 → a3 = 0))) (D12 : ¬ g1 = g2) (D13 : ¬ g1 = g3) (D23 : ¬ g2 = g3), G 0 #[true, true, true, true, true, true, true, true, true, true, true, true, true, true, true, true, true, true, true, true, true] { tmps := #[.agg #[.int .i16 a, .int .u8 b], .agg #[.int .i16 a2, .int .u8 b2], .agg #[.int .i16 a3, .int .u8 b3], .pointer (some ⟨W.heap.size, 0, none⟩), .pointer (some ⟨W.heap.size + 1, 0, none⟩), .pointer (some ⟨W.heap.size + 1 + 1, 0, none⟩), .bool false, .pointer (some ⟨g1, 0, none⟩), .pointer (some ⟨g2, 0, none⟩), .pointer (some ⟨g3, 0, none⟩), undef, undef, undef, .bool true, .bool false, .pointer (some ⟨W.heap.size, 0, none⟩), .int .i16 a, .pointer (some ⟨W.heap.size, 1, none⟩), .int .u8 b, .agg #[.bool f1.s, .slice f1.A f1.n f1.c, .slice f1.B f1.m f1.d], .pointer (some ⟨W.heap.size + 1, 0, none⟩), .int .i16 a2, .pointer (some ⟨W.heap.size + 1, 1, none⟩), .int .u8 b2, .agg #[.bool f2.s, .slice f2.A f2.n f2.c, .slice f2.B f2.m f2.d], .pointer (some ⟨W.heap.size + 1 + 1, 0, none⟩), .int .i16 a3, .pointer (some ⟨W.heap.size + 1 + 1, 1, none⟩), .int .u8 b3, .agg #[.bool f3.s, .slice f3.A f3.n f3.c, .slice f3.B f3.m f3.d], undef, undef, undef, undef, undef, undef, undef, undef, undef, undef, undef, undef, undef, undef, undef, undef, undef, undef, undef, undef, undef, undef, undef, undef, undef, undef, undef, undef, undef, undef, undef, undef, undef, undef, undef, undef, undef, undef, undef, undef, undef, undef, undef, undef, undef, undef, undef, undef, undef, undef, undef, undef, undef, undef, undef, undef, undef, undef, undef, undef, undef, undef, undef, undef, undef, undef, undef, undef, undef, undef, undef, undef, undef, undef, undef, undef, undef, undef, undef, undef, undef, undef, undef, undef, undef, undef, undef, undef, undef, undef, undef, undef, undef, undef, undef, undef, undef, undef, undef, undef, undef, undef, undef, undef, undef, undef, undef, undef, undef, undef, undef, undef, undef, undef, undef, undef, undef, undef, undef, undef], defers := [] } w from by
    intro f1 p1 q1 f2 p2 q2 f3 p3 q3 g1 g2 g3 w V F1 F2 F3 D12 D13 D23
    rw [← HG.out]
    refine wpAnyH_done (by kernel_rfl) ?_ _
    skip
    dsimp only
    clear HG G
    have S1 := Lib.hid F1.out.1
    have S2 := Lib.hid F2.out.1
    have S3 := Lib.hid F3.out.1
    go_upto_region 6 with fail
    obtain ⟨x10, x11, x12, x13⟩ := V.out.box (.head _)
    obtain ⟨x20, x21, x22, x23⟩ := V.out.box (.tail _ (.head _))
    obtain ⟨x30, x31, x32, x33⟩ := V.out.box (.tail _ (.tail _ (.head _)))
    refine wp_region_held_drew (S := fun w' => Below w.heap.size w w') (by kernel_rfl) (Below.refl _ _).drew (fun hHeld => ?_)
    have V10 := Lib.hid (V.out.go (Below.refl _ _).drew)
    refine wpAnyH_take (i := 0) (v := ?_) (List.getElem?_toArray.trans rfl) (by kernel_rfl) (by kernel_rfl) (by kernel_rfl) (fun _ _ _ h => h) (Or.inl ⟨by rfl, ?_⟩) (by assumption) ?_
    rotate_left
    · intro wl hSw; go_simp; try (with_reducible rfl)
    try simp only [Act.put, List.setIfInBounds_toArray, List.set_cons_zero, List.set_cons_succ]
    refine wpAnyH_take (i := 1) (v := ?_) (List.getElem?_toArray.trans rfl) (by kernel_rfl) (by kernel_rfl) (by kernel_rfl) (fun _ _ _ h => h) (Or.inl ⟨by rfl, ?_⟩) (by assumption) ?_
    rotate_left
    · intro wl hSw; go_simp; try (with_reducible rfl)
    try simp only [Act.put, List.setIfInBounds_toArray, List.set_cons_zero, List.set_cons_succ]
    refine wpAnyH_take (i := 2) (v := ?_) (List.getElem?_toArray.trans rfl) (by kernel_rfl) (by kernel_rfl) (by kernel_rfl) (fun _ _ _ h => h) (Or.inl ⟨by rfl, ?_⟩) (by assumption) ?_
    rotate_left
    · intro wl hSw
      have hSw : Below w.heap.size w wl := hSw
      have k0 := (hSw.cell (p := ⟨g1, 0, none⟩) (by show g1 < w.heap.size; omega)).trans x10
      have k1 := (hSw.cell (p := ⟨g1, 1, none⟩) (by show g1 < w.heap.size; omega)).trans x11
      have k2 := (hSw.cell (p := ⟨g1, 2, none⟩) (by show g1 < w.heap.size; omega)).trans x12
      go_simp
      try (with_reducible rfl)
    try simp only [Act.put, List.setIfInBounds_toArray, List.set_cons_zero, List.set_cons_succ]
    refine wpAnyH_take (i := 3) (v := ?_) (List.getElem?_toArray.trans rfl) (by kernel_rfl) (by kernel_rfl) (by kernel_rfl) (fun _ _ _ h => h) (Or.inl ⟨by rfl, ?_⟩) (by assumption) ?_
    rotate_left
    · intro wl hSw
      have hSw : Below w.heap.size w wl := hSw
      have k0 := (hSw.cell (p := ⟨g2, 0, none⟩) (by show g2 < w.heap.size; omega)).trans x20
      have k1 := (hSw.cell (p := ⟨g2, 1, none⟩) (by show g2 < w.heap.size; omega)).trans x21
      have k2 := (hSw.cell (p := ⟨g2, 2, none⟩) (by show g2 < w.heap.size; omega)).trans x22
      go_simp
      try (with_reducible rfl)
    try simp only [Act.put, List.setIfInBounds_toArray, List.set_cons_zero, List.set_cons_succ]
    refine wpAnyH_take (i := 5) (v := ?_) (List.getElem?_toArray.trans rfl) (by kernel_rfl) (by kernel_rfl) (by kernel_rfl) (fun _ _ _ h => h) (Or.inl ⟨by rfl, ?_⟩) (by assumption) ?_
    rotate_left
    · intro wl hSw; go_simp; try (with_reducible rfl)
    try simp only [Act.put, List.setIfInBounds_toArray, List.set_cons_zero, List.set_cons_succ]
    refine wpAnyH_take (i := 6) (v := ?_) (List.getElem?_toArray.trans rfl) (by kernel_rfl) (by kernel_rfl) (by kernel_rfl) (fun _ _ _ h => h) (Or.inl ⟨by rfl, ?_⟩) (by assumption) ?_
    rotate_left
    · intro wl hSw; go_simp; try (with_reducible rfl)
    try simp only [Act.put, List.setIfInBounds_toArray, List.set_cons_zero, List.set_cons_succ]
    refine wpAnyH_take (i := 7) (v := ?_) (List.getElem?_toArray.trans rfl) (by kernel_rfl) (by kernel_rfl) (by kernel_rfl) (fun _ _ _ h => h) (Or.inl ⟨by rfl, ?_⟩) (by assumption) ?_
    rotate_left
    · intro wl hSw
      have hSw : Below w.heap.size w wl := hSw
      have k0 := (hSw.cell (p := ⟨g2, 0, none⟩) (by show g2 < w.heap.size; omega)).trans x20
      have k1 := (hSw.cell (p := ⟨g2, 1, none⟩) (by show g2 < w.heap.size; omega)).trans x21
      have k2 := (hSw.cell (p := ⟨g2, 2, none⟩) (by show g2 < w.heap.size; omega)).trans x22
      go_simp
      try (with_reducible rfl)
    try simp only [Act.put, List.setIfInBounds_toArray, List.set_cons_zero, List.set_cons_succ]
    refine wpAnyH_take (i := 8) (v := ?_) (List.getElem?_toArray.trans rfl) (by kernel_rfl) (by kernel_rfl) (by kernel_rfl) (fun _ _ _ h => h) (Or.inl ⟨by rfl, ?_⟩) (by assumption) ?_
    rotate_left
    · intro wl hSw
      have hSw : Below w.heap.size w wl := hSw
      have k0 := (hSw.cell (p := ⟨g1, 0, none⟩) (by show g1 < w.heap.size; omega)).trans x10
      have k1 := (hSw.cell (p := ⟨g1, 1, none⟩) (by show g1 < w.heap.size; omega)).trans x11
      have k2 := (hSw.cell (p := ⟨g1, 2, none⟩) (by show g1 < w.heap.size; omega)).trans x12
      go_simp
      try (with_reducible rfl)
    try simp only [Act.put, List.setIfInBounds_toArray, List.set_cons_zero, List.set_cons_succ]
    refine wpAnyH_ready (rs := [4]) (by kernel_rfl) (by simp) ?_
    refine AllReadyH.cons (List.getElem?_toArray.trans rfl) (fun K hK => ?_) AllReadyH.nil
    go_simp
    refine (two_add 2 2 f1.s f2.s f1.n f1.c f1.m f1.d f2.n f2.c f2.m f2.d p1 q1 p2 q2 f1.A f1.B f2.A f2.B _ (V10.out.at (.tail _ (.tail _ (.tail _ (.tail _ (.head _)))))) (V10.out.at (.tail _ (.tail _ (.tail _ (.tail _ (.tail _ (.head _))))))) (V10.out.at (.tail _ (.tail _ (.head _)))) (V10.out.at (.tail _ (.tail _ (.tail _ (.head _))))) S1.out S2.out (by omega)).mono ?_
    rintro e w11 ⟨s11, p11, q11, A11, c11, n11, B11, d11, m11, rfl, nx, mx, zx, vx, bx⟩
    have Z11 := Lib.hid zx
    have E11 := Lib.hid vx
    have V11 := Lib.hid (((V10.out.go bx).num mx).num nx)
    clear nx mx zx vx
    try go_wp2_with fail
    refine hK.out _ _ (show Below w.heap.size w _ from btwo (show Below w.heap.size w _ from hHeld) bx) (fun hHeld => ?_)
    clear hK K bx
    try simp only [Act.put, List.setIfInBounds_toArray, List.set_cons_zero, List.set_cons_succ]
    refine wpAnyH_ready (rs := [9]) (by kernel_rfl) (by simp) ?_
    refine AllReadyH.cons (List.getElem?_toArray.trans rfl) (fun K hK => ?_) AllReadyH.nil
    go_simp
    refine (two_add 2 2 f2.s f1.s f2.n f2.c f2.m f2.d f1.n f1.c f1.m f1.d p2 q2 p1 q1 f2.A f2.B f1.A f1.B _ (V11.out.at (.tail _ (.tail _ (.tail _ (.tail _ (.head _)))))) (V11.out.at (.tail _ (.tail _ (.tail _ (.tail _ (.tail _ (.head _))))))) (V11.out.at (.tail _ (.tail _ (.tail _ (.tail _ (.tail _ (.tail _ (.head _)))))))) (V11.out.at (.tail _ (.tail _ (.tail _ (.tail _ (.tail _ (.tail _ (.tail _ (.head _))))))))) S2.out S1.out (by omega)).mono ?_
    rintro e w12 ⟨s12, p12, q12, A12, c12, n12, B12, d12, m12, rfl, nx, mx, zx, vx, bx⟩
    have Z12 := Lib.hid zx
    have E12 := Lib.hid vx
    have V12 := Lib.hid (((V11.out.go bx).num mx).num nx)
    clear nx mx zx vx
    try go_wp2_with fail
    refine hK.out _ _ (show Below w.heap.size w _ from btwo (show Below w.heap.size w _ from hHeld) bx) (fun hHeld => ?_)
    clear hK K bx
    try simp only [Act.put, List.setIfInBounds_toArray, List.set_cons_zero, List.set_cons_succ]
    refine wpAnyH_ready (rs := [10]) (by kernel_rfl) (by simp) ?_
    refine AllReadyH.cons (List.getElem?_toArray.trans rfl) (fun K hK => ?_) AllReadyH.nil
    go_simp
    refine (same_val s11 s12 n11 c11 m11 d11 n12 c12 m12 d12 p11 q11 p12 q12 A11 B11 A12 B12 _ (V12.out.at (.tail _ (.tail _ (.head _)))) (V12.out.at (.tail _ (.tail _ (.tail _ (.head _))))) (V12.out.at (.head _)) (V12.out.at (.tail _ (.head _))) Z11.out.1 Z12.out.1 (by rw [E11.out, E12.out]; rw [Rat.add_comm])).mono ?_
    rintro e w13 ⟨rfl, bx⟩
    have V13 := Lib.hid (V12.out.go bx)
    try go_wp2_with fail
    refine hK.out _ _ (show Below w.heap.size w _ from btwo (show Below w.heap.size w _ from hHeld) bx) (fun hHeld => ?_)
    clear hK K bx
    try simp only [Act.put, List.setIfInBounds_toArray, List.set_cons_zero, List.set_cons_succ]
    refine wpAnyH_take (i := 11) (v := ?_) (List.getElem?_toArray.trans rfl) (by kernel_rfl) (by kernel_rfl) (by kernel_rfl) (fun _ _ _ h => h) (Or.inl ⟨by rfl, ?_⟩) (by assumption) ?_
    rotate_left
    · intro wl hSw; go_simp; try (with_reducible rfl)
    try simp only [Act.put, List.setIfInBounds_toArray, List.set_cons_zero, List.set_cons_succ]
    refine wpAnyH_take (i := 12) (v := ?_) (List.getElem?_toArray.trans rfl) (by kernel_rfl) (by kernel_rfl) (by kernel_rfl) (fun _ _ _ h => h) (Or.inl ⟨by rfl, ?_⟩) (by assumption) ?_
    rotate_left
    · intro wl hSw; go_simp; try (with_reducible rfl)
    try simp only [Act.put, List.setIfInBounds_toArray, List.set_cons_zero, List.set_cons_succ]
    refine wpAnyH_take (i := 13) (v := ?_) (List.getElem?_toArray.trans rfl) (by kernel_rfl) (by kernel_rfl) (by kernel_rfl) (fun _ _ _ h => h) (Or.inl ⟨by rfl, ?_⟩) (by assumption) ?_
    rotate_left
    · intro wl hSw; go_simp; try (with_reducible rfl)
    try simp only [Act.put, List.setIfInBounds_toArray, List.set_cons_zero, List.set_cons_succ]
    refine wpAnyH_take (i := 14) (v := ?_) (List.getElem?_toArray.trans rfl) (by kernel_rfl) (by kernel_rfl) (by kernel_rfl) (fun _ _ _ h => h) (Or.inl ⟨by rfl, ?_⟩) (by assumption) ?_
    rotate_left
    · intro wl hSw; go_simp; try (with_reducible rfl)
    try simp only [Act.put, List.setIfInBounds_toArray, List.set_cons_zero, List.set_cons_succ]
    refine wpAnyH_take (i := 15) (v := ?_) (List.getElem?_toArray.trans rfl) (by kernel_rfl) (by kernel_rfl) (by kernel_rfl) (fun _ _ _ h => h) (Or.inl ⟨by rfl, ?_⟩) (by assumption) ?_
    rotate_left
    · intro wl hSw
      have hSw : Below w.heap.size w wl := hSw
      have k0 := (hSw.cell (p := ⟨g1, 0, none⟩) (by show g1 < w.heap.size; omega)).trans x10
      have k1 := (hSw.cell (p := ⟨g1, 1, none⟩) (by show g1 < w.heap.size; omega)).trans x11
      have k2 := (hSw.cell (p := ⟨g1, 2, none⟩) (by show g1 < w.heap.size; omega)).trans x12
      go_simp
      try (with_reducible rfl)
    try simp only [Act.put, List.setIfInBounds_toArray, List.set_cons_zero, List.set_cons_succ]
    refine wpAnyH_take (i := 16) (v := ?_) (List.getElem?_toArray.trans rfl) (by kernel_rfl) (by kernel_rfl) (by kernel_rfl) (fun _ _ _ h => h) (Or.inl ⟨by rfl, ?_⟩) (by assumption) ?_
    rotate_left
    · intro wl hSw
      have hSw : Below w.heap.size w wl := hSw
      have k0 := (hSw.cell (p := ⟨g2, 0, none⟩) (by show g2 < w.heap.size; omega)).trans x20
      have k1 := (hSw.cell (p := ⟨g2, 1, none⟩) (by show g2 < w.heap.size; omega)).trans x21
      have k2 := (hSw.cell (p := ⟨g2, 2, none⟩) (by show g2 < w.heap.size; omega)).trans x22
      go_simp
      try (with_reducible rfl)
    try simp only [Act.put, List.setIfInBounds_toArray, List.set_cons_zero, List.set_cons_succ]
    refine wpAnyH_take (i := 18) (v := ?_) (List.getElem?_toArray.trans rfl) (by kernel_rfl) (by kernel_rfl) (by kernel_rfl) (fun _ _ _ h => h) (Or.inl ⟨by rfl, ?_⟩) (by assumption) ?_
    rotate_left
    · intro wl hSw; go_simp; try (with_reducible rfl)
    try simp only [Act.put, List.setIfInBounds_toArray, List.set_cons_zero, List.set_cons_succ]
    refine wpAnyH_take (i := 19) (v := ?_) (List.getElem?_toArray.trans rfl) (by kernel_rfl) (by kernel_rfl) (by kernel_rfl) (fun _ _ _ h => h) (Or.inl ⟨by rfl, ?_⟩) (by assumption) ?_
    rotate_left
    · intro wl hSw; go_simp; try (with_reducible rfl)
    try simp only [Act.put, List.setIfInBounds_toArray, List.set_cons_zero, List.set_cons_succ]
    refine wpAnyH_take (i := 20) (v := ?_) (List.getElem?_toArray.trans rfl) (by kernel_rfl) (by kernel_rfl) (by kernel_rfl) (fun _ _ _ h => h) (Or.inl ⟨by rfl, ?_⟩) (by assumption) ?_
    rotate_left
    · intro wl hSw
      have hSw : Below w.heap.size w wl := hSw
      have k0 := (hSw.cell (p := ⟨g2, 0, none⟩) (by show g2 < w.heap.size; omega)).trans x20
      have k1 := (hSw.cell (p := ⟨g2, 1, none⟩) (by show g2 < w.heap.size; omega)).trans x21
      have k2 := (hSw.cell (p := ⟨g2, 2, none⟩) (by show g2 < w.heap.size; omega)).trans x22
      go_simp
      try (with_reducible rfl)
    try simp only [Act.put, List.setIfInBounds_toArray, List.set_cons_zero, List.set_cons_succ]
    refine wpAnyH_take (i := 21) (v := ?_) (List.getElem?_toArray.trans rfl) (by kernel_rfl) (by kernel_rfl) (by kernel_rfl) (fun _ _ _ h => h) (Or.inl ⟨by rfl, ?_⟩) (by assumption) ?_
    rotate_left
    · intro wl hSw
      have hSw : Below w.heap.size w wl := hSw
      have k0 := (hSw.cell (p := ⟨g1, 0, none⟩) (by show g1 < w.heap.size; omega)).trans x10
      have k1 := (hSw.cell (p := ⟨g1, 1, none⟩) (by show g1 < w.heap.size; omega)).trans x11
      have k2 := (hSw.cell (p := ⟨g1, 2, none⟩) (by show g1 < w.heap.size; omega)).trans x12
      go_simp
      try (with_reducible rfl)
    try simp only [Act.put, List.setIfInBounds_toArray, List.set_cons_zero, List.set_cons_succ]
    refine wpAnyH_ready (rs := [17]) (by kernel_rfl) (by simp) ?_
    refine AllReadyH.cons (List.getElem?_toArray.trans rfl) (fun K hK => ?_) AllReadyH.nil
    go_simp
    refine (two_mul 2 2 f1.s f2.s f1.n f1.c f1.m f1.d f2.n f2.c f2.m f2.d p1 q1 p2 q2 f1.A f1.B f2.A f2.B _ (V13.out.at (.tail _ (.tail _ (.tail _ (.tail _ (.tail _ (.tail _ (.tail _ (.tail _ (.head _)))))))))) (V13.out.at (.tail _ (.tail _ (.tail _ (.tail _ (.tail _ (.tail _ (.tail _ (.tail _ (.tail _ (.head _))))))))))) (V13.out.at (.tail _ (.tail _ (.tail _ (.tail _ (.tail _ (.tail _ (.head _)))))))) (V13.out.at (.tail _ (.tail _ (.tail _ (.tail _ (.tail _ (.tail _ (.tail _ (.head _))))))))) S1.out S2.out (by omega)).mono ?_
    rintro e w14 ⟨s14, p14, q14, A14, c14, n14, B14, d14, m14, rfl, nx, mx, zx, vx, bx⟩
    have Z14 := Lib.hid zx
    have E14 := Lib.hid vx
    have V14 := Lib.hid (((V13.out.go bx).num mx).num nx)
    clear nx mx zx vx
    try go_wp2_with fail
    refine hK.out _ _ (show Below w.heap.size w _ from btwo (show Below w.heap.size w _ from hHeld) bx) (fun hHeld => ?_)
    clear hK K bx
    try simp only [Act.put, List.setIfInBounds_toArray, List.set_cons_zero, List.set_cons_succ]
    refine wpAnyH_ready (rs := [22]) (by kernel_rfl) (by simp) ?_
    refine AllReadyH.cons (List.getElem?_toArray.trans rfl) (fun K hK => ?_) AllReadyH.nil
    go_simp
    refine (two_mul 2 2 f2.s f1.s f2.n f2.c f2.m f2.d f1.n f1.c f1.m f1.d p2 q2 p1 q1 f2.A f2.B f1.A f1.B _ (V14.out.at (.tail _ (.tail _ (.tail _ (.tail _ (.tail _ (.tail _ (.tail _ (.tail _ (.head _)))))))))) (V14.out.at (.tail _ (.tail _ (.tail _ (.tail _ (.tail _ (.tail _ (.tail _ (.tail _ (.tail _ (.head _))))))))))) (V14.out.at (.tail _ (.tail _ (.tail _ (.tail _ (.tail _ (.tail _ (.tail _ (.tail _ (.tail _ (.tail _ (.head _)))))))))))) (V14.out.at (.tail _ (.tail _ (.tail _ (.tail _ (.tail _ (.tail _ (.tail _ (.tail _ (.tail _ (.tail _ (.tail _ (.head _))))))))))))) S2.out S1.out (by omega)).mono ?_
    rintro e w15 ⟨s15, p15, q15, A15, c15, n15, B15, d15, m15, rfl, nx, mx, zx, vx, bx⟩
    have Z15 := Lib.hid zx
    have E15 := Lib.hid vx
    have V15 := Lib.hid (((V14.out.go bx).num mx).num nx)
    clear nx mx zx vx
    try go_wp2_with fail
    refine hK.out _ _ (show Below w.heap.size w _ from btwo (show Below w.heap.size w _ from hHeld) bx) (fun hHeld => ?_)
    clear hK K bx
    try simp only [Act.put, List.setIfInBounds_toArray, List.set_cons_zero, List.set_cons_succ]
    refine wpAnyH_ready (rs := [23]) (by kernel_rfl) (by simp) ?_
    refine AllReadyH.cons (List.getElem?_toArray.trans rfl) (fun K hK => ?_) AllReadyH.nil
    go_simp
    refine (same_val s14 s15 n14 c14 m14 d14 n15 c15 m15 d15 p14 q14 p15 q15 A14 B14 A15 B15 _ (V15.out.at (.tail _ (.tail _ (.head _)))) (V15.out.at (.tail _ (.tail _ (.tail _ (.head _))))) (V15.out.at (.head _)) (V15.out.at (.tail _ (.head _))) Z14.out.1 Z15.out.1 (by rw [E14.out, E15.out]; rw [Rat.mul_comm])).mono ?_
    rintro e w16 ⟨rfl, bx⟩
    have V16 := Lib.hid (V15.out.go bx)
    try go_wp2_with fail
    refine hK.out _ _ (show Below w.heap.size w _ from btwo (show Below w.heap.size w _ from hHeld) bx) (fun hHeld => ?_)
    clear hK K bx
    try simp only [Act.put, List.setIfInBounds_toArray, List.set_cons_zero, List.set_cons_succ]
    refine wpAnyH_take (i := 24) (v := ?_) (List.getElem?_toArray.trans rfl) (by kernel_rfl) (by kernel_rfl) (by kernel_rfl) (fun _ _ _ h => h) (Or.inl ⟨by rfl, ?_⟩) (by assumption) ?_
    rotate_left
    · intro wl hSw; go_simp; try (with_reducible rfl)
    try simp only [Act.put, List.setIfInBounds_toArray, List.set_cons_zero, List.set_cons_succ]
    refine wpAnyH_take (i := 25) (v := ?_) (List.getElem?_toArray.trans rfl) (by kernel_rfl) (by kernel_rfl) (by kernel_rfl) (fun _ _ _ h => h) (Or.inl ⟨by rfl, ?_⟩) (by assumption) ?_
    rotate_left
    · intro wl hSw; go_simp; try (with_reducible rfl)
    try simp only [Act.put, List.setIfInBounds_toArray, List.set_cons_zero, List.set_cons_succ]
    refine wpAnyH_done (by kernel_rfl) ?_ _
    have V17 := Lib.hid (V16.out.sub (fun _ h => h) (fun _ h => .tail _ (.tail _ (.tail _ (.tail _ (.tail _ (.tail _ (.tail _ (.tail _ h)))))))))
    clear x10 x11 x12 x13 x20 x21 x22 x23 x30 x31 x32 x33
    go_upto_region 8 with fail
    obtain ⟨x10, x11, x12, x13⟩ := V17.out.box (.head _)
    obtain ⟨x20, x21, x22, x23⟩ := V17.out.box (.tail _ (.head _))
    obtain ⟨x30, x31, x32, x33⟩ := V17.out.box (.tail _ (.tail _ (.head _)))
    refine wp_region_held_drew (S := fun w' => Below w16.heap.size w16 w') (by kernel_rfl) (Below.refl _ _).drew (fun hHeld => ?_)
    have V18 := Lib.hid (V17.out.go (Below.refl _ _).drew)
    refine wpAnyH_take (i := 0) (v := ?_) (List.getElem?_toArray.trans rfl) (by kernel_rfl) (by kernel_rfl) (by kernel_rfl) (fun _ _ _ h => h) (Or.inl ⟨by rfl, ?_⟩) (by assumption) ?_
    rotate_left
    · intro wl hSw; go_simp; try (with_reducible rfl)
    try simp only [Act.put, List.setIfInBounds_toArray, List.set_cons_zero, List.set_cons_succ]
    refine wpAnyH_take (i := 1) (v := ?_) (List.getElem?_toArray.trans rfl) (by kernel_rfl) (by kernel_rfl) (by kernel_rfl) (fun _ _ _ h => h) (Or.inl ⟨by rfl, ?_⟩) (by assumption) ?_
    rotate_left
    · intro wl hSw; go_simp; try (with_reducible rfl)
    try simp only [Act.put, List.setIfInBounds_toArray, List.set_cons_zero, List.set_cons_succ]
    refine wpAnyH_take (i := 2) (v := ?_) (List.getElem?_toArray.trans rfl) (by kernel_rfl) (by kernel_rfl) (by kernel_rfl) (fun _ _ _ h => h) (Or.inl ⟨by rfl, ?_⟩) (by assumption) ?_
    rotate_left
    · intro wl hSw; go_simp; try (with_reducible rfl)
    try simp only [Act.put, List.setIfInBounds_toArray, List.set_cons_zero, List.set_cons_succ]
    refine wpAnyH_take (i := 3) (v := ?_) (List.getElem?_toArray.trans rfl) (by kernel_rfl) (by kernel_rfl) (by kernel_rfl) (fun _ _ _ h => h) (Or.inl ⟨by rfl, ?_⟩) (by assumption) ?_
    rotate_left
    · intro wl hSw; go_simp; try (with_reducible rfl)
    try simp only [Act.put, List.setIfInBounds_toArray, List.set_cons_zero, List.set_cons_succ]
    refine wpAnyH_take (i := 4) (v := ?_) (List.getElem?_toArray.trans rfl) (by kernel_rfl) (by kernel_rfl) (by kernel_rfl) (fun _ _ _ h => h) (Or.inl ⟨by rfl, ?_⟩) (by assumption) ?_
    rotate_left
    · intro wl hSw
      have hSw : Below w16.heap.size w16 wl := hSw
      have k0 := (hSw.cell (p := ⟨g1, 0, none⟩) (by show g1 < w16.heap.size; omega)).trans x10
      have k1 := (hSw.cell (p := ⟨g1, 1, none⟩) (by show g1 < w16.heap.size; omega)).trans x11
      have k2 := (hSw.cell (p := ⟨g1, 2, none⟩) (by show g1 < w16.heap.size; omega)).trans x12
      go_simp
      try (with_reducible rfl)
    try simp only [Act.put, List.setIfInBounds_toArray, List.set_cons_zero, List.set_cons_succ]
    refine wpAnyH_take (i := 5) (v := ?_) (List.getElem?_toArray.trans rfl) (by kernel_rfl) (by kernel_rfl) (by kernel_rfl) (fun _ _ _ h => h) (Or.inl ⟨by rfl, ?_⟩) (by assumption) ?_
    rotate_left
    · intro wl hSw
      have hSw : Below w16.heap.size w16 wl := hSw
      have k0 := (hSw.cell (p := ⟨g2, 0, none⟩) (by show g2 < w16.heap.size; omega)).trans x20
      have k1 := (hSw.cell (p := ⟨g2, 1, none⟩) (by show g2 < w16.heap.size; omega)).trans x21
      have k2 := (hSw.cell (p := ⟨g2, 2, none⟩) (by show g2 < w16.heap.size; omega)).trans x22
      go_simp
      try (with_reducible rfl)
    try simp only [Act.put, List.setIfInBounds_toArray, List.set_cons_zero, List.set_cons_succ]
    refine wpAnyH_take (i := 7) (v := ?_) (List.getElem?_toArray.trans rfl) (by kernel_rfl) (by kernel_rfl) (by kernel_rfl) (fun _ _ _ h => h) (Or.inl ⟨by rfl, ?_⟩) (by assumption) ?_
    rotate_left
    · intro wl hSw
      have hSw : Below w16.heap.size w16 wl := hSw
      have k0 := (hSw.cell (p := ⟨g3, 0, none⟩) (by show g3 < w16.heap.size; omega)).trans x30
      have k1 := (hSw.cell (p := ⟨g3, 1, none⟩) (by show g3 < w16.heap.size; omega)).trans x31
      have k2 := (hSw.cell (p := ⟨g3, 2, none⟩) (by show g3 < w16.heap.size; omega)).trans x32
      go_simp
      try (with_reducible rfl)
    try simp only [Act.put, List.setIfInBounds_toArray, List.set_cons_zero, List.set_cons_succ]
    refine wpAnyH_take (i := 9) (v := ?_) (List.getElem?_toArray.trans rfl) (by kernel_rfl) (by kernel_rfl) (by kernel_rfl) (fun _ _ _ h => h) (Or.inl ⟨by rfl, ?_⟩) (by assumption) ?_
    rotate_left
    · intro wl hSw; go_simp; try (with_reducible rfl)
    try simp only [Act.put, List.setIfInBounds_toArray, List.set_cons_zero, List.set_cons_succ]
    refine wpAnyH_take (i := 10) (v := ?_) (List.getElem?_toArray.trans rfl) (by kernel_rfl) (by kernel_rfl) (by kernel_rfl) (fun _ _ _ h => h) (Or.inl ⟨by rfl, ?_⟩) (by assumption) ?_
    rotate_left
    · intro wl hSw; go_simp; try (with_reducible rfl)
    try simp only [Act.put, List.setIfInBounds_toArray, List.set_cons_zero, List.set_cons_succ]
    refine wpAnyH_take (i := 11) (v := ?_) (List.getElem?_toArray.trans rfl) (by kernel_rfl) (by kernel_rfl) (by kernel_rfl) (fun _ _ _ h => h) (Or.inl ⟨by rfl, ?_⟩) (by assumption) ?_
    rotate_left
    · intro wl hSw
      have hSw : Below w16.heap.size w16 wl := hSw
      have k0 := (hSw.cell (p := ⟨g1, 0, none⟩) (by show g1 < w16.heap.size; omega)).trans x10
      have k1 := (hSw.cell (p := ⟨g1, 1, none⟩) (by show g1 < w16.heap.size; omega)).trans x11
      have k2 := (hSw.cell (p := ⟨g1, 2, none⟩) (by show g1 < w16.heap.size; omega)).trans x12
      go_simp
      try (with_reducible rfl)
    try simp only [Act.put, List.setIfInBounds_toArray, List.set_cons_zero, List.set_cons_succ]
    refine wpAnyH_take (i := 12) (v := ?_) (List.getElem?_toArray.trans rfl) (by kernel_rfl) (by kernel_rfl) (by kernel_rfl) (fun _ _ _ h => h) (Or.inl ⟨by rfl, ?_⟩) (by assumption) ?_
    rotate_left
    · intro wl hSw; go_simp; try (with_reducible rfl)
    try simp only [Act.put, List.setIfInBounds_toArray, List.set_cons_zero, List.set_cons_succ]
    refine wpAnyH_take (i := 13) (v := ?_) (List.getElem?_toArray.trans rfl) (by kernel_rfl) (by kernel_rfl) (by kernel_rfl) (fun _ _ _ h => h) (Or.inl ⟨by rfl, ?_⟩) (by assumption) ?_
    rotate_left
    · intro wl hSw; go_simp; try (with_reducible rfl)
    try simp only [Act.put, List.setIfInBounds_toArray, List.set_cons_zero, List.set_cons_succ]
    refine wpAnyH_take (i := 14) (v := ?_) (List.getElem?_toArray.trans rfl) (by kernel_rfl) (by kernel_rfl) (by kernel_rfl) (fun _ _ _ h => h) (Or.inl ⟨by rfl, ?_⟩) (by assumption) ?_
    rotate_left
    · intro wl hSw
      have hSw : Below w16.heap.size w16 wl := hSw
      have k0 := (hSw.cell (p := ⟨g2, 0, none⟩) (by show g2 < w16.heap.size; omega)).trans x20
      have k1 := (hSw.cell (p := ⟨g2, 1, none⟩) (by show g2 < w16.heap.size; omega)).trans x21
      have k2 := (hSw.cell (p := ⟨g2, 2, none⟩) (by show g2 < w16.heap.size; omega)).trans x22
      go_simp
      try (with_reducible rfl)
    try simp only [Act.put, List.setIfInBounds_toArray, List.set_cons_zero, List.set_cons_succ]
    refine wpAnyH_take (i := 15) (v := ?_) (List.getElem?_toArray.trans rfl) (by kernel_rfl) (by kernel_rfl) (by kernel_rfl) (fun _ _ _ h => h) (Or.inl ⟨by rfl, ?_⟩) (by assumption) ?_
    rotate_left
    · intro wl hSw
      have hSw : Below w16.heap.size w16 wl := hSw
      have k0 := (hSw.cell (p := ⟨g3, 0, none⟩) (by show g3 < w16.heap.size; omega)).trans x30
      have k1 := (hSw.cell (p := ⟨g3, 1, none⟩) (by show g3 < w16.heap.size; omega)).trans x31
      have k2 := (hSw.cell (p := ⟨g3, 2, none⟩) (by show g3 < w16.heap.size; omega)).trans x32
      go_simp
      try (with_reducible rfl)
    try simp only [Act.put, List.setIfInBounds_toArray, List.set_cons_zero, List.set_cons_succ]
    refine wpAnyH_ready (rs := [6]) (by kernel_rfl) (by simp) ?_
    refine AllReadyH.cons (List.getElem?_toArray.trans rfl) (fun K hK => ?_) AllReadyH.nil
    go_simp
    refine (two_add 2 2 f1.s f2.s f1.n f1.c f1.m f1.d f2.n f2.c f2.m f2.d p1 q1 p2 q2 f1.A f1.B f2.A f2.B _ (V18.out.at (.tail _ (.tail _ (.tail _ (.tail _ (.head _)))))) (V18.out.at (.tail _ (.tail _ (.tail _ (.tail _ (.tail _ (.head _))))))) (V18.out.at (.tail _ (.tail _ (.head _)))) (V18.out.at (.tail _ (.tail _ (.tail _ (.head _))))) S1.out S2.out (by omega)).mono ?_
    rintro e w19 ⟨s19, p19, q19, A19, c19, n19, B19, d19, m19, rfl, nx, mx, zx, vx, bx⟩
    have Z19 := Lib.hid zx
    have E19 := Lib.hid vx
    have V19 := Lib.hid (((V18.out.go bx).num mx).num nx)
    clear nx mx zx vx
    try go_wp2_with fail
    refine hK.out _ _ (show Below w16.heap.size w16 _ from btwo (show Below w16.heap.size w16 _ from hHeld) bx) (fun hHeld => ?_)
    clear hK K bx
    try simp only [Act.put, List.setIfInBounds_toArray, List.set_cons_zero, List.set_cons_succ]
    refine wpAnyH_ready (rs := [8]) (by kernel_rfl) (by simp) ?_
    refine AllReadyH.cons (List.getElem?_toArray.trans rfl) (fun K hK => ?_) AllReadyH.nil
    go_simp
    refine (two_add 5 2 s19 f3.s n19 c19 m19 d19 f3.n f3.c f3.m f3.d p19 q19 p3 q3 A19 B19 f3.A f3.B _ (V19.out.at (.head _)) (V19.out.at (.tail _ (.head _))) (V19.out.at (.tail _ (.tail _ (.head _)))) (V19.out.at (.tail _ (.tail _ (.tail _ (.head _))))) Z19.out S3.out (by omega)).mono ?_
    rintro e w20 ⟨s20, p20, q20, A20, c20, n20, B20, d20, m20, rfl, nx, mx, zx, vx, bx⟩
    have Z20 := Lib.hid zx
    have E20 := Lib.hid vx
    have V20 := Lib.hid (((V19.out.go bx).num mx).num nx)
    clear nx mx zx vx
    try go_wp2_with fail
    refine hK.out _ _ (show Below w16.heap.size w16 _ from btwo (show Below w16.heap.size w16 _ from hHeld) bx) (fun hHeld => ?_)
    clear hK K bx
    try simp only [Act.put, List.setIfInBounds_toArray, List.set_cons_zero, List.set_cons_succ]
    refine wpAnyH_ready (rs := [16]) (by kernel_rfl) (by simp) ?_
    refine AllReadyH.cons (List.getElem?_toArray.trans rfl) (fun K hK => ?_) AllReadyH.nil
    go_simp
    refine (two_add 2 2 f2.s f3.s f2.n f2.c f2.m f2.d f3.n f3.c f3.m f3.d p2 q2 p3 q3 f2.A f2.B f3.A f3.B _ (V20.out.at (.tail _ (.tail _ (.tail _ (.tail _ (.tail _ (.tail _ (.head _)))))))) (V20.out.at (.tail _ (.tail _ (.tail _ (.tail _ (.tail _ (.tail _ (.tail _ (.head _))))))))) (V20.out.at (.tail _ (.tail _ (.tail _ (.tail _ (.head _)))))) (V20.out.at (.tail _ (.tail _ (.tail _ (.tail _ (.tail _ (.head _))))))) S2.out S3.out (by omega)).mono ?_
    rintro e w21 ⟨s21, p21, q21, A21, c21, n21, B21, d21, m21, rfl, nx, mx, zx, vx, bx⟩
    have Z21 := Lib.hid zx
    have E21 := Lib.hid vx
    have V21 := Lib.hid (((V20.out.go bx).num mx).num nx)
    clear nx mx zx vx
    try go_wp2_with fail
    refine hK.out _ _ (show Below w16.heap.size w16 _ from btwo (show Below w16.heap.size w16 _ from hHeld) bx) (fun hHeld => ?_)
    clear hK K bx
    try simp only [Act.put, List.setIfInBounds_toArray, List.set_cons_zero, List.set_cons_succ]
    refine wpAnyH_ready (rs := [17]) (by kernel_rfl) (by simp) ?_
    refine AllReadyH.cons (List.getElem?_toArray.trans rfl) (fun K hK => ?_) AllReadyH.nil
    go_simp
    refine (two_add 2 5 f1.s s21 f1.n f1.c f1.m f1.d n21 c21 m21 d21 p1 q1 p21 q21 f1.A f1.B A21 B21 _ (V21.out.at (.tail _ (.tail _ (.tail _ (.tail _ (.tail _ (.tail _ (.tail _ (.tail _ (.tail _ (.tail _ (.head _)))))))))))) (V21.out.at (.tail _ (.tail _ (.tail _ (.tail _ (.tail _ (.tail _ (.tail _ (.tail _ (.tail _ (.tail _ (.tail _ (.head _))))))))))))) (V21.out.at (.head _)) (V21.out.at (.tail _ (.head _))) S1.out Z21.out (by omega)).mono ?_
    rintro e w22 ⟨s22, p22, q22, A22, c22, n22, B22, d22, m22, rfl, nx, mx, zx, vx, bx⟩
    have Z22 := Lib.hid zx
    have E22 := Lib.hid vx
    have V22 := Lib.hid (((V21.out.go bx).num mx).num nx)
    clear nx mx zx vx
    try go_wp2_with fail
    refine hK.out _ _ (show Below w16.heap.size w16 _ from btwo (show Below w16.heap.size w16 _ from hHeld) bx) (fun hHeld => ?_)
    clear hK K bx
    try simp only [Act.put, List.setIfInBounds_toArray, List.set_cons_zero, List.set_cons_succ]
    refine wpAnyH_ready (rs := [18]) (by kernel_rfl) (by simp) ?_
    refine AllReadyH.cons (List.getElem?_toArray.trans rfl) (fun K hK => ?_) AllReadyH.nil
    go_simp
    refine (same_val s20 s22 n20 c20 m20 d20 n22 c22 m22 d22 p20 q20 p22 q22 A20 B20 A22 B22 _ (V22.out.at (.tail _ (.tail _ (.tail _ (.tail _ (.head _)))))) (V22.out.at (.tail _ (.tail _ (.tail _ (.tail _ (.tail _ (.head _))))))) (V22.out.at (.head _)) (V22.out.at (.tail _ (.head _))) Z20.out.1 Z22.out.1 (by rw [E20.out, E19.out, E22.out, E21.out]; rw [Rat.add_assoc])).mono ?_
    rintro e w23 ⟨rfl, bx⟩
    have V23 := Lib.hid (V22.out.go bx)
    try go_wp2_with fail
    refine hK.out _ _ (show Below w16.heap.size w16 _ from btwo (show Below w16.heap.size w16 _ from hHeld) bx) (fun hHeld => ?_)
    clear hK K bx
    try simp only [Act.put, List.setIfInBounds_toArray, List.set_cons_zero, List.set_cons_succ]
    refine wpAnyH_take (i := 19) (v := ?_) (List.getElem?_toArray.trans rfl) (by kernel_rfl) (by kernel_rfl) (by kernel_rfl) (fun _ _ _ h => h) (Or.inl ⟨by rfl, ?_⟩) (by assumption) ?_
    rotate_left
    · intro wl hSw; go_simp; try (with_reducible rfl)
    try simp only [Act.put, List.setIfInBounds_toArray, List.set_cons_zero, List.set_cons_succ]
    refine wpAnyH_take (i := 20) (v := ?_) (List.getElem?_toArray.trans rfl) (by kernel_rfl) (by kernel_rfl) (by kernel_rfl) (fun _ _ _ h => h) (Or.inl ⟨by rfl, ?_⟩) (by assumption) ?_
    rotate_left
    · intro wl hSw; go_simp; try (with_reducible rfl)
    try simp only [Act.put, List.setIfInBounds_toArray, List.set_cons_zero, List.set_cons_succ]
    refine wpAnyH_take (i := 21) (v := ?_) (List.getElem?_toArray.trans rfl) (by kernel_rfl) (by kernel_rfl) (by kernel_rfl) (fun _ _ _ h => h) (Or.inl ⟨by rfl, ?_⟩) (by assumption) ?_
    rotate_left
    · intro wl hSw; go_simp; try (with_reducible rfl)
    try simp only [Act.put, List.setIfInBounds_toArray, List.set_cons_zero, List.set_cons_succ]
    refine wpAnyH_take (i := 22) (v := ?_) (List.getElem?_toArray.trans rfl) (by kernel_rfl) (by kernel_rfl) (by kernel_rfl) (fun _ _ _ h => h) (Or.inl ⟨by rfl, ?_⟩) (by assumption) ?_
    rotate_left
    · intro wl hSw; go_simp; try (with_reducible rfl)
    try simp only [Act.put, List.setIfInBounds_toArray, List.set_cons_zero, List.set_cons_succ]
    refine wpAnyH_take (i := 23) (v := ?_) (List.getElem?_toArray.trans rfl) (by kernel_rfl) (by kernel_rfl) (by kernel_rfl) (fun _ _ _ h => h) (Or.inl ⟨by rfl, ?_⟩) (by assumption) ?_
    rotate_left
    · intro wl hSw; go_simp; try (with_reducible rfl)
    try simp only [Act.put, List.setIfInBounds_toArray, List.set_cons_zero, List.set_cons_succ]
    refine wpAnyH_take (i := 24) (v := ?_) (List.getElem?_toArray.trans rfl) (by kernel_rfl) (by kernel_rfl) (by kernel_rfl) (fun _ _ _ h => h) (Or.inl ⟨by rfl, ?_⟩) (by assumption) ?_
    rotate_left
    · intro wl hSw; go_simp; try (with_reducible rfl)
    try simp only [Act.put, List.setIfInBounds_toArray, List.set_cons_zero, List.set_cons_succ]
    refine wpAnyH_take (i := 25) (v := ?_) (List.getElem?_toArray.trans rfl) (by kernel_rfl) (by kernel_rfl) (by kernel_rfl) (fun _ _ _ h => h) (Or.inl ⟨by rfl, ?_⟩) (by assumption) ?_
    rotate_left
    · intro wl hSw
      have hSw : Below w16.heap.size w16 wl := hSw
      have k0 := (hSw.cell (p := ⟨g1, 0, none⟩) (by show g1 < w16.heap.size; omega)).trans x10
      have k1 := (hSw.cell (p := ⟨g1, 1, none⟩) (by show g1 < w16.heap.size; omega)).trans x11
      have k2 := (hSw.cell (p := ⟨g1, 2, none⟩) (by show g1 < w16.heap.size; omega)).trans x12
      go_simp
      try (with_reducible rfl)
    try simp only [Act.put, List.setIfInBounds_toArray, List.set_cons_zero, List.set_cons_succ]
    refine wpAnyH_take (i := 26) (v := ?_) (List.getElem?_toArray.trans rfl) (by kernel_rfl) (by kernel_rfl) (by kernel_rfl) (fun _ _ _ h => h) (Or.inl ⟨by rfl, ?_⟩) (by assumption) ?_
    rotate_left
    · intro wl hSw
      have hSw : Below w16.heap.size w16 wl := hSw
      have k0 := (hSw.cell (p := ⟨g2, 0, none⟩) (by show g2 < w16.heap.size; omega)).trans x20
      have k1 := (hSw.cell (p := ⟨g2, 1, none⟩) (by show g2 < w16.heap.size; omega)).trans x21
      have k2 := (hSw.cell (p := ⟨g2, 2, none⟩) (by show g2 < w16.heap.size; omega)).trans x22
      go_simp
      try (with_reducible rfl)
    try simp only [Act.put, List.setIfInBounds_toArray, List.set_cons_zero, List.set_cons_succ]
    refine wpAnyH_take (i := 28) (v := ?_) (List.getElem?_toArray.trans rfl) (by kernel_rfl) (by kernel_rfl) (by kernel_rfl) (fun _ _ _ h => h) (Or.inl ⟨by rfl, ?_⟩) (by assumption) ?_
    rotate_left
    · intro wl hSw
      have hSw : Below w16.heap.size w16 wl := hSw
      have k0 := (hSw.cell (p := ⟨g3, 0, none⟩) (by show g3 < w16.heap.size; omega)).trans x30
      have k1 := (hSw.cell (p := ⟨g3, 1, none⟩) (by show g3 < w16.heap.size; omega)).trans x31
      have k2 := (hSw.cell (p := ⟨g3, 2, none⟩) (by show g3 < w16.heap.size; omega)).trans x32
      go_simp
      try (with_reducible rfl)
    try simp only [Act.put, List.setIfInBounds_toArray, List.set_cons_zero, List.set_cons_succ]
    refine wpAnyH_take (i := 30) (v := ?_) (List.getElem?_toArray.trans rfl) (by kernel_rfl) (by kernel_rfl) (by kernel_rfl) (fun _ _ _ h => h) (Or.inl ⟨by rfl, ?_⟩) (by assumption) ?_
    rotate_left
    · intro wl hSw; go_simp; try (with_reducible rfl)
    try simp only [Act.put, List.setIfInBounds_toArray, List.set_cons_zero, List.set_cons_succ]
    refine wpAnyH_take (i := 31) (v := ?_) (List.getElem?_toArray.trans rfl) (by kernel_rfl) (by kernel_rfl) (by kernel_rfl) (fun _ _ _ h => h) (Or.inl ⟨by rfl, ?_⟩) (by assumption) ?_
    rotate_left
    · intro wl hSw; go_simp; try (with_reducible rfl)
    try simp only [Act.put, List.setIfInBounds_toArray, List.set_cons_zero, List.set_cons_succ]
    refine wpAnyH_take (i := 32) (v := ?_) (List.getElem?_toArray.trans rfl) (by kernel_rfl) (by kernel_rfl) (by kernel_rfl) (fun _ _ _ h => h) (Or.inl ⟨by rfl, ?_⟩) (by assumption) ?_
    rotate_left
    · intro wl hSw
      have hSw : Below w16.heap.size w16 wl := hSw
      have k0 := (hSw.cell (p := ⟨g1, 0, none⟩) (by show g1 < w16.heap.size; omega)).trans x10
      have k1 := (hSw.cell (p := ⟨g1, 1, none⟩) (by show g1 < w16.heap.size; omega)).trans x11
      have k2 := (hSw.cell (p := ⟨g1, 2, none⟩) (by show g1 < w16.heap.size; omega)).trans x12
      go_simp
      try (with_reducible rfl)
    try simp only [Act.put, List.setIfInBounds_toArray, List.set_cons_zero, List.set_cons_succ]
    refine wpAnyH_take (i := 33) (v := ?_) (List.getElem?_toArray.trans rfl) (by kernel_rfl) (by kernel_rfl) (by kernel_rfl) (fun _ _ _ h => h) (Or.inl ⟨by rfl, ?_⟩) (by assumption) ?_
    rotate_left
    · intro wl hSw; go_simp; try (with_reducible rfl)
    try simp only [Act.put, List.setIfInBounds_toArray, List.set_cons_zero, List.set_cons_succ]
    refine wpAnyH_take (i := 34) (v := ?_) (List.getElem?_toArray.trans rfl) (by kernel_rfl) (by kernel_rfl) (by kernel_rfl) (fun _ _ _ h => h) (Or.inl ⟨by rfl, ?_⟩) (by assumption) ?_
    rotate_left
    · intro wl hSw; go_simp; try (with_reducible rfl)
    try simp only [Act.put, List.setIfInBounds_toArray, List.set_cons_zero, List.set_cons_succ]
    refine wpAnyH_take (i := 35) (v := ?_) (List.getElem?_toArray.trans rfl) (by kernel_rfl) (by kernel_rfl) (by kernel_rfl) (fun _ _ _ h => h) (Or.inl ⟨by rfl, ?_⟩) (by assumption) ?_
    rotate_left
    · intro wl hSw
      have hSw : Below w16.heap.size w16 wl := hSw
      have k0 := (hSw.cell (p := ⟨g2, 0, none⟩) (by show g2 < w16.heap.size; omega)).trans x20
      have k1 := (hSw.cell (p := ⟨g2, 1, none⟩) (by show g2 < w16.heap.size; omega)).trans x21
      have k2 := (hSw.cell (p := ⟨g2, 2, none⟩) (by show g2 < w16.heap.size; omega)).trans x22
      go_simp
      try (with_reducible rfl)
    try simp only [Act.put, List.setIfInBounds_toArray, List.set_cons_zero, List.set_cons_succ]
    refine wpAnyH_take (i := 36) (v := ?_) (List.getElem?_toArray.trans rfl) (by kernel_rfl) (by kernel_rfl) (by kernel_rfl) (fun _ _ _ h => h) (Or.inl ⟨by rfl, ?_⟩) (by assumption) ?_
    rotate_left
    · intro wl hSw
      have hSw : Below w16.heap.size w16 wl := hSw
      have k0 := (hSw.cell (p := ⟨g3, 0, none⟩) (by show g3 < w16.heap.size; omega)).trans x30
      have k1 := (hSw.cell (p := ⟨g3, 1, none⟩) (by show g3 < w16.heap.size; omega)).trans x31
      have k2 := (hSw.cell (p := ⟨g3, 2, none⟩) (by show g3 < w16.heap.size; omega)).trans x32
      go_simp
      try (with_reducible rfl)
    try simp only [Act.put, List.setIfInBounds_toArray, List.set_cons_zero, List.set_cons_succ]
    refine wpAnyH_ready (rs := [27]) (by kernel_rfl) (by simp) ?_
    refine AllReadyH.cons (List.getElem?_toArray.trans rfl) (fun K hK => ?_) AllReadyH.nil
    go_simp
    refine (two_mul 2 2 f1.s f2.s f1.n f1.c f1.m f1.d f2.n f2.c f2.m f2.d p1 q1 p2 q2 f1.A f1.B f2.A f2.B _ (V23.out.at (.tail _ (.tail _ (.tail _ (.tail _ (.tail _ (.tail _ (.tail _ (.tail _ (.tail _ (.tail _ (.tail _ (.tail _ (.head _)))))))))))))) (V23.out.at (.tail _ (.tail _ (.tail _ (.tail _ (.tail _ (.tail _ (.tail _ (.tail _ (.tail _ (.tail _ (.tail _ (.tail _ (.tail _ (.head _))))))))))))))) (V23.out.at (.tail _ (.tail _ (.tail _ (.tail _ (.tail _ (.tail _ (.tail _ (.tail _ (.tail _ (.tail _ (.head _)))))))))))) (V23.out.at (.tail _ (.tail _ (.tail _ (.tail _ (.tail _ (.tail _ (.tail _ (.tail _ (.tail _ (.tail _ (.tail _ (.head _))))))))))))) S1.out S2.out (by omega)).mono ?_
    rintro e w24 ⟨s24, p24, q24, A24, c24, n24, B24, d24, m24, rfl, nx, mx, zx, vx, bx⟩
    have Z24 := Lib.hid zx
    have E24 := Lib.hid vx
    have V24 := Lib.hid (((V23.out.go bx).num mx).num nx)
    clear nx mx zx vx
    try go_wp2_with fail
    refine hK.out _ _ (show Below w16.heap.size w16 _ from btwo (show Below w16.heap.size w16 _ from hHeld) bx) (fun hHeld => ?_)
    clear hK K bx
    try simp only [Act.put, List.setIfInBounds_toArray, List.set_cons_zero, List.set_cons_succ]
    refine wpAnyH_ready (rs := [29]) (by kernel_rfl) (by simp) ?_
    refine AllReadyH.cons (List.getElem?_toArray.trans rfl) (fun K hK => ?_) AllReadyH.nil
    go_simp
    refine (two_mul 5 2 s24 f3.s n24 c24 m24 d24 f3.n f3.c f3.m f3.d p24 q24 p3 q3 A24 B24 f3.A f3.B _ (V24.out.at (.head _)) (V24.out.at (.tail _ (.head _))) (V24.out.at (.tail _ (.tail _ (.tail _ (.tail _ (.tail _ (.tail _ (.tail _ (.tail _ (.tail _ (.tail _ (.head _)))))))))))) (V24.out.at (.tail _ (.tail _ (.tail _ (.tail _ (.tail _ (.tail _ (.tail _ (.tail _ (.tail _ (.tail _ (.tail _ (.head _))))))))))))) Z24.out S3.out (by omega)).mono ?_
    rintro e w25 ⟨s25, p25, q25, A25, c25, n25, B25, d25, m25, rfl, nx, mx, zx, vx, bx⟩
    have Z25 := Lib.hid zx
    have E25 := Lib.hid vx
    have V25 := Lib.hid (((V24.out.go bx).num mx).num nx)
    clear nx mx zx vx
    try go_wp2_with fail
    refine hK.out _ _ (show Below w16.heap.size w16 _ from btwo (show Below w16.heap.size w16 _ from hHeld) bx) (fun hHeld => ?_)
    clear hK K bx
    try simp only [Act.put, List.setIfInBounds_toArray, List.set_cons_zero, List.set_cons_succ]
    refine wpAnyH_ready (rs := [37]) (by kernel_rfl) (by simp) ?_
    refine AllReadyH.cons (List.getElem?_toArray.trans rfl) (fun K hK => ?_) AllReadyH.nil
    go_simp
    refine (two_mul 2 2 f2.s f3.s f2.n f2.c f2.m f2.d f3.n f3.c f3.m f3.d p2 q2 p3 q3 f2.A f2.B f3.A f3.B _ (V25.out.at (.tail _ (.tail _ (.tail _ (.tail _ (.tail _ (.tail _ (.tail _ (.tail _ (.tail _ (.tail _ (.tail _ (.tail _ (.tail _ (.tail _ (.head _)))))))))))))))) (V25.out.at (.tail _ (.tail _ (.tail _ (.tail _ (.tail _ (.tail _ (.tail _ (.tail _ (.tail _ (.tail _ (.tail _ (.tail _ (.tail _ (.tail _ (.tail _ (.head _))))))))))))))))) (V25.out.at (.tail _ (.tail _ (.tail _ (.tail _ (.tail _ (.tail _ (.tail _ (.tail _ (.tail _ (.tail _ (.tail _ (.tail _ (.head _)))))))))))))) (V25.out.at (.tail _ (.tail _ (.tail _ (.tail _ (.tail _ (.tail _ (.tail _ (.tail _ (.tail _ (.tail _ (.tail _ (.tail _ (.tail _ (.head _))))))))))))))) S2.out S3.out (by omega)).mono ?_
    rintro e w26 ⟨s26, p26, q26, A26, c26, n26, B26, d26, m26, rfl, nx, mx, zx, vx, bx⟩
    have Z26 := Lib.hid zx
    have E26 := Lib.hid vx
    have V26 := Lib.hid (((V25.out.go bx).num mx).num nx)
    clear nx mx zx vx
    try go_wp2_with fail
    refine hK.out _ _ (show Below w16.heap.size w16 _ from btwo (show Below w16.heap.size w16 _ from hHeld) bx) (fun hHeld => ?_)
    clear hK K bx
    try simp only [Act.put, List.setIfInBounds_toArray, List.set_cons_zero, List.set_cons_succ]
    refine wpAnyH_ready (rs := [38]) (by kernel_rfl) (by simp) ?_
    refine AllReadyH.cons (List.getElem?_toArray.trans rfl) (fun K hK => ?_) AllReadyH.nil
    go_simp
    refine (two_mul 2 5 f1.s s26 f1.n f1.c f1.m f1.d n26 c26 m26 d26 p1 q1 p26 q26 f1.A f1.B A26 B26 _ (V26.out.at (.tail _ (.tail _ (.tail _ (.tail _ (.tail _ (.tail _ (.tail _ (.tail _ (.tail _ (.tail _ (.tail _ (.tail _ (.tail _ (.tail _ (.tail _ (.tail _ (.tail _ (.tail _ (.head _)))))))))))))))))))) (V26.out.at (.tail _ (.tail _ (.tail _ (.tail _ (.tail _ (.tail _ (.tail _ (.tail _ (.tail _ (.tail _ (.tail _ (.tail _ (.tail _ (.tail _ (.tail _ (.tail _ (.tail _ (.tail _ (.tail _ (.head _))))))))))))))))))))) (V26.out.at (.head _)) (V26.out.at (.tail _ (.head _))) S1.out Z26.out (by omega)).mono ?_
    rintro e w27 ⟨s27, p27, q27, A27, c27, n27, B27, d27, m27, rfl, nx, mx, zx, vx, bx⟩
    have Z27 := Lib.hid zx
    have E27 := Lib.hid vx
    have V27 := Lib.hid (((V26.out.go bx).num mx).num nx)
    clear nx mx zx vx
    try go_wp2_with fail
    refine hK.out _ _ (show Below w16.heap.size w16 _ from btwo (show Below w16.heap.size w16 _ from hHeld) bx) (fun hHeld => ?_)
    clear hK K bx
    try simp only [Act.put, List.setIfInBounds_toArray, List.set_cons_zero, List.set_cons_succ]
    refine wpAnyH_ready (rs := [39]) (by kernel_rfl) (by simp) ?_
    refine AllReadyH.cons (List.getElem?_toArray.trans rfl) (fun K hK => ?_) AllReadyH.nil
    go_simp
    refine (same_val s25 s27 n25 c25 m25 d25 n27 c27 m27 d27 p25 q25 p27 q27 A25 B25 A27 B27 _ (V27.out.at (.tail _ (.tail _ (.tail _ (.tail _ (.head _)))))) (V27.out.at (.tail _ (.tail _ (.tail _ (.tail _ (.tail _ (.head _))))))) (V27.out.at (.head _)) (V27.out.at (.tail _ (.head _))) Z25.out.1 Z27.out.1 (by rw [E25.out, E24.out, E27.out, E26.out]; rw [Rat.mul_assoc])).mono ?_
    rintro e w28 ⟨rfl, bx⟩
    have V28 := Lib.hid (V27.out.go bx)
    try go_wp2_with fail
    refine hK.out _ _ (show Below w16.heap.size w16 _ from btwo (show Below w16.heap.size w16 _ from hHeld) bx) (fun hHeld => ?_)
    clear hK K bx
    try simp only [Act.put, List.setIfInBounds_toArray, List.set_cons_zero, List.set_cons_succ]
    refine wpAnyH_take (i := 40) (v := ?_) (List.getElem?_toArray.trans rfl) (by kernel_rfl) (by kernel_rfl) (by kernel_rfl) (fun _ _ _ h => h) (Or.inl ⟨by rfl, ?_⟩) (by assumption) ?_
    rotate_left
    · intro wl hSw; go_simp; try (with_reducible rfl)
    try simp only [Act.put, List.setIfInBounds_toArray, List.set_cons_zero, List.set_cons_succ]
    refine wpAnyH_take (i := 41) (v := ?_) (List.getElem?_toArray.trans rfl) (by kernel_rfl) (by kernel_rfl) (by kernel_rfl) (fun _ _ _ h => h) (Or.inl ⟨by rfl, ?_⟩) (by assumption) ?_
    rotate_left
    · intro wl hSw; go_simp; try (with_reducible rfl)
    try simp only [Act.put, List.setIfInBounds_toArray, List.set_cons_zero, List.set_cons_succ]
    refine wpAnyH_done (by kernel_rfl) ?_ _
    have V29 := Lib.hid (V28.out.sub (fun _ h => h) (fun _ h => .tail _ (.tail _ (.tail _ (.tail _ (.tail _ (.tail _ (.tail _ (.tail _ (.tail _ (.tail _ (.tail _ (.tail _ (.tail _ (.tail _ (.tail _ (.tail _ h)))))))))))))))))
    clear x10 x11 x12 x13 x20 x21 x22 x23 x30 x31 x32 x33
    go_upto_region 10 with fail
    obtain ⟨x10, x11, x12, x13⟩ := V29.out.box (.head _)
    obtain ⟨x20, x21, x22, x23⟩ := V29.out.box (.tail _ (.head _))
    obtain ⟨x30, x31, x32, x33⟩ := V29.out.box (.tail _ (.tail _ (.head _)))
    refine wp_region_held_drew (S := fun w' => Below w28.heap.size w28 w') (by kernel_rfl) (Below.refl _ _).drew (fun hHeld => ?_)
    have V30 := Lib.hid (V29.out.go (Below.refl _ _).drew)
    refine wpAnyH_take (i := 0) (v := ?_) (List.getElem?_toArray.trans rfl) (by kernel_rfl) (by kernel_rfl) (by kernel_rfl) (fun _ _ _ h => h) (Or.inl ⟨by rfl, ?_⟩) (by assumption) ?_
    rotate_left
    · intro wl hSw; go_simp; try (with_reducible rfl)
    try simp only [Act.put, List.setIfInBounds_toArray, List.set_cons_zero, List.set_cons_succ]
    refine wpAnyH_take (i := 1) (v := ?_) (List.getElem?_toArray.trans rfl) (by kernel_rfl) (by kernel_rfl) (by kernel_rfl) (fun _ _ _ h => h) (Or.inl ⟨by rfl, ?_⟩) (by assumption) ?_
    rotate_left
    · intro wl hSw; go_simp; try (with_reducible rfl)
    try simp only [Act.put, List.setIfInBounds_toArray, List.set_cons_zero, List.set_cons_succ]
    refine wpAnyH_take (i := 2) (v := ?_) (List.getElem?_toArray.trans rfl) (by kernel_rfl) (by kernel_rfl) (by kernel_rfl) (fun _ _ _ h => h) (Or.inl ⟨by rfl, ?_⟩) (by assumption) ?_
    rotate_left
    · intro wl hSw
      have hSw : Below w28.heap.size w28 wl := hSw
      have k0 := (hSw.cell (p := ⟨g1, 0, none⟩) (by show g1 < w28.heap.size; omega)).trans x10
      have k1 := (hSw.cell (p := ⟨g1, 1, none⟩) (by show g1 < w28.heap.size; omega)).trans x11
      have k2 := (hSw.cell (p := ⟨g1, 2, none⟩) (by show g1 < w28.heap.size; omega)).trans x12
      go_simp
      try (with_reducible rfl)
    try simp only [Act.put, List.setIfInBounds_toArray, List.set_cons_zero, List.set_cons_succ]
    refine wpAnyH_take (i := 3) (v := ?_) (List.getElem?_toArray.trans rfl) (by kernel_rfl) (by kernel_rfl) (by kernel_rfl) (fun _ _ _ h => h) (Or.inl ⟨by rfl, ?_⟩) (by assumption) ?_
    rotate_left
    · intro wl hSw; go_simp; try (with_reducible rfl)
    try simp only [Act.put, List.setIfInBounds_toArray, List.set_cons_zero, List.set_cons_succ]
    refine wpAnyH_take (i := 4) (v := ?_) (List.getElem?_toArray.trans rfl) (by kernel_rfl) (by kernel_rfl) (by kernel_rfl) (fun _ _ _ h => h) (Or.inl ⟨by rfl, ?_⟩) (by assumption) ?_
    rotate_left
    · intro wl hSw; go_simp; try (with_reducible rfl)
    try simp only [Act.put, List.setIfInBounds_toArray, List.set_cons_zero, List.set_cons_succ]
    refine wpAnyH_take (i := 5) (v := ?_) (List.getElem?_toArray.trans rfl) (by kernel_rfl) (by kernel_rfl) (by kernel_rfl) (fun _ _ _ h => h) (Or.inl ⟨by rfl, ?_⟩) (by assumption) ?_
    rotate_left
    · intro wl hSw
      have hSw : Below w28.heap.size w28 wl := hSw
      have k0 := (hSw.cell (p := ⟨g2, 0, none⟩) (by show g2 < w28.heap.size; omega)).trans x20
      have k1 := (hSw.cell (p := ⟨g2, 1, none⟩) (by show g2 < w28.heap.size; omega)).trans x21
      have k2 := (hSw.cell (p := ⟨g2, 2, none⟩) (by show g2 < w28.heap.size; omega)).trans x22
      go_simp
      try (with_reducible rfl)
    try simp only [Act.put, List.setIfInBounds_toArray, List.set_cons_zero, List.set_cons_succ]
    refine wpAnyH_take (i := 6) (v := ?_) (List.getElem?_toArray.trans rfl) (by kernel_rfl) (by kernel_rfl) (by kernel_rfl) (fun _ _ _ h => h) (Or.inl ⟨by rfl, ?_⟩) (by assumption) ?_
    rotate_left
    · intro wl hSw
      have hSw : Below w28.heap.size w28 wl := hSw
      have k0 := (hSw.cell (p := ⟨g3, 0, none⟩) (by show g3 < w28.heap.size; omega)).trans x30
      have k1 := (hSw.cell (p := ⟨g3, 1, none⟩) (by show g3 < w28.heap.size; omega)).trans x31
      have k2 := (hSw.cell (p := ⟨g3, 2, none⟩) (by show g3 < w28.heap.size; omega)).trans x32
      go_simp
      try (with_reducible rfl)
    try simp only [Act.put, List.setIfInBounds_toArray, List.set_cons_zero, List.set_cons_succ]
    refine wpAnyH_take (i := 9) (v := ?_) (List.getElem?_toArray.trans rfl) (by kernel_rfl) (by kernel_rfl) (by kernel_rfl) (fun _ _ _ h => h) (Or.inl ⟨by rfl, ?_⟩) (by assumption) ?_
    rotate_left
    · intro wl hSw; go_simp; try (with_reducible rfl)
    try simp only [Act.put, List.setIfInBounds_toArray, List.set_cons_zero, List.set_cons_succ]
    refine wpAnyH_take (i := 10) (v := ?_) (List.getElem?_toArray.trans rfl) (by kernel_rfl) (by kernel_rfl) (by kernel_rfl) (fun _ _ _ h => h) (Or.inl ⟨by rfl, ?_⟩) (by assumption) ?_
    rotate_left
    · intro wl hSw; go_simp; try (with_reducible rfl)
    try simp only [Act.put, List.setIfInBounds_toArray, List.set_cons_zero, List.set_cons_succ]
    refine wpAnyH_take (i := 11) (v := ?_) (List.getElem?_toArray.trans rfl) (by kernel_rfl) (by kernel_rfl) (by kernel_rfl) (fun _ _ _ h => h) (Or.inl ⟨by rfl, ?_⟩) (by assumption) ?_
    rotate_left
    · intro wl hSw; go_simp; try (with_reducible rfl)
    try simp only [Act.put, List.setIfInBounds_toArray, List.set_cons_zero, List.set_cons_succ]
    refine wpAnyH_take (i := 12) (v := ?_) (List.getElem?_toArray.trans rfl) (by kernel_rfl) (by kernel_rfl) (by kernel_rfl) (fun _ _ _ h => h) (Or.inl ⟨by rfl, ?_⟩) (by assumption) ?_
    rotate_left
    · intro wl hSw; go_simp; try (with_reducible rfl)
    try simp only [Act.put, List.setIfInBounds_toArray, List.set_cons_zero, List.set_cons_succ]
    refine wpAnyH_take (i := 13) (v := ?_) (List.getElem?_toArray.trans rfl) (by kernel_rfl) (by kernel_rfl) (by kernel_rfl) (fun _ _ _ h => h) (Or.inl ⟨by rfl, ?_⟩) (by assumption) ?_
    rotate_left
    · intro wl hSw
      have hSw : Below w28.heap.size w28 wl := hSw
      have k0 := (hSw.cell (p := ⟨g1, 0, none⟩) (by show g1 < w28.heap.size; omega)).trans x10
      have k1 := (hSw.cell (p := ⟨g1, 1, none⟩) (by show g1 < w28.heap.size; omega)).trans x11
      have k2 := (hSw.cell (p := ⟨g1, 2, none⟩) (by show g1 < w28.heap.size; omega)).trans x12
      go_simp
      try (with_reducible rfl)
    try simp only [Act.put, List.setIfInBounds_toArray, List.set_cons_zero, List.set_cons_succ]
    refine wpAnyH_take (i := 14) (v := ?_) (List.getElem?_toArray.trans rfl) (by kernel_rfl) (by kernel_rfl) (by kernel_rfl) (fun _ _ _ h => h) (Or.inl ⟨by rfl, ?_⟩) (by assumption) ?_
    rotate_left
    · intro wl hSw
      have hSw : Below w28.heap.size w28 wl := hSw
      have k0 := (hSw.cell (p := ⟨g2, 0, none⟩) (by show g2 < w28.heap.size; omega)).trans x20
      have k1 := (hSw.cell (p := ⟨g2, 1, none⟩) (by show g2 < w28.heap.size; omega)).trans x21
      have k2 := (hSw.cell (p := ⟨g2, 2, none⟩) (by show g2 < w28.heap.size; omega)).trans x22
      go_simp
      try (with_reducible rfl)
    try simp only [Act.put, List.setIfInBounds_toArray, List.set_cons_zero, List.set_cons_succ]
    refine wpAnyH_take (i := 16) (v := ?_) (List.getElem?_toArray.trans rfl) (by kernel_rfl) (by kernel_rfl) (by kernel_rfl) (fun _ _ _ h => h) (Or.inl ⟨by rfl, ?_⟩) (by assumption) ?_
    rotate_left
    · intro wl hSw; go_simp; try (with_reducible rfl)
    try simp only [Act.put, List.setIfInBounds_toArray, List.set_cons_zero, List.set_cons_succ]
    refine wpAnyH_take (i := 17) (v := ?_) (List.getElem?_toArray.trans rfl) (by kernel_rfl) (by kernel_rfl) (by kernel_rfl) (fun _ _ _ h => h) (Or.inl ⟨by rfl, ?_⟩) (by assumption) ?_
    rotate_left
    · intro wl hSw; go_simp; try (with_reducible rfl)
    try simp only [Act.put, List.setIfInBounds_toArray, List.set_cons_zero, List.set_cons_succ]
    refine wpAnyH_take (i := 18) (v := ?_) (List.getElem?_toArray.trans rfl) (by kernel_rfl) (by kernel_rfl) (by kernel_rfl) (fun _ _ _ h => h) (Or.inl ⟨by rfl, ?_⟩) (by assumption) ?_
    rotate_left
    · intro wl hSw
      have hSw : Below w28.heap.size w28 wl := hSw
      have k0 := (hSw.cell (p := ⟨g1, 0, none⟩) (by show g1 < w28.heap.size; omega)).trans x10
      have k1 := (hSw.cell (p := ⟨g1, 1, none⟩) (by show g1 < w28.heap.size; omega)).trans x11
      have k2 := (hSw.cell (p := ⟨g1, 2, none⟩) (by show g1 < w28.heap.size; omega)).trans x12
      go_simp
      try (with_reducible rfl)
    try simp only [Act.put, List.setIfInBounds_toArray, List.set_cons_zero, List.set_cons_succ]
    refine wpAnyH_take (i := 19) (v := ?_) (List.getElem?_toArray.trans rfl) (by kernel_rfl) (by kernel_rfl) (by kernel_rfl) (fun _ _ _ h => h) (Or.inl ⟨by rfl, ?_⟩) (by assumption) ?_
    rotate_left
    · intro wl hSw
      have hSw : Below w28.heap.size w28 wl := hSw
      have k0 := (hSw.cell (p := ⟨g3, 0, none⟩) (by show g3 < w28.heap.size; omega)).trans x30
      have k1 := (hSw.cell (p := ⟨g3, 1, none⟩) (by show g3 < w28.heap.size; omega)).trans x31
      have k2 := (hSw.cell (p := ⟨g3, 2, none⟩) (by show g3 < w28.heap.size; omega)).trans x32
      go_simp
      try (with_reducible rfl)
    try simp only [Act.put, List.setIfInBounds_toArray, List.set_cons_zero, List.set_cons_succ]
    refine wpAnyH_ready (rs := [7]) (by kernel_rfl) (by simp) ?_
    refine AllReadyH.cons (List.getElem?_toArray.trans rfl) (fun K hK => ?_) AllReadyH.nil
    go_simp
    refine (two_add 2 2 f2.s f3.s f2.n f2.c f2.m f2.d f3.n f3.c f3.m f3.d p2 q2 p3 q3 f2.A f2.B f3.A f3.B _ (V30.out.at (.tail _ (.tail _ (.head _)))) (V30.out.at (.tail _ (.tail _ (.tail _ (.head _))))) (V30.out.at (.head _)) (V30.out.at (.tail _ (.head _))) S2.out S3.out (by omega)).mono ?_
    rintro e w31 ⟨s31, p31, q31, A31, c31, n31, B31, d31, m31, rfl, nx, mx, zx, vx, bx⟩
    have Z31 := Lib.hid zx
    have E31 := Lib.hid vx
    have V31 := Lib.hid (((V30.out.go bx).num mx).num nx)
    clear nx mx zx vx
    try go_wp2_with fail
    refine hK.out _ _ (show Below w28.heap.size w28 _ from btwo (show Below w28.heap.size w28 _ from hHeld) bx) (fun hHeld => ?_)
    clear hK K bx
    try simp only [Act.put, List.setIfInBounds_toArray, List.set_cons_zero, List.set_cons_succ]
    refine wpAnyH_ready (rs := [8]) (by kernel_rfl) (by simp) ?_
    refine AllReadyH.cons (List.getElem?_toArray.trans rfl) (fun K hK => ?_) AllReadyH.nil
    go_simp
    refine (two_mul 2 5 f1.s s31 f1.n f1.c f1.m f1.d n31 c31 m31 d31 p1 q1 p31 q31 f1.A f1.B A31 B31 _ (V31.out.at (.tail _ (.tail _ (.tail _ (.tail _ (.tail _ (.tail _ (.head _)))))))) (V31.out.at (.tail _ (.tail _ (.tail _ (.tail _ (.tail _ (.tail _ (.tail _ (.head _))))))))) (V31.out.at (.head _)) (V31.out.at (.tail _ (.head _))) S1.out Z31.out (by omega)).mono ?_
    rintro e w32 ⟨s32, p32, q32, A32, c32, n32, B32, d32, m32, rfl, nx, mx, zx, vx, bx⟩
    have Z32 := Lib.hid zx
    have E32 := Lib.hid vx
    have V32 := Lib.hid (((V31.out.go bx).num mx).num nx)
    clear nx mx zx vx
    try go_wp2_with fail
    refine hK.out _ _ (show Below w28.heap.size w28 _ from btwo (show Below w28.heap.size w28 _ from hHeld) bx) (fun hHeld => ?_)
    clear hK K bx
    try simp only [Act.put, List.setIfInBounds_toArray, List.set_cons_zero, List.set_cons_succ]
    refine wpAnyH_ready (rs := [15]) (by kernel_rfl) (by simp) ?_
    refine AllReadyH.cons (List.getElem?_toArray.trans rfl) (fun K hK => ?_) AllReadyH.nil
    go_simp
    refine (two_mul 2 2 f1.s f2.s f1.n f1.c f1.m f1.d f2.n f2.c f2.m f2.d p1 q1 p2 q2 f1.A f1.B f2.A f2.B _ (V32.out.at (.tail _ (.tail _ (.tail _ (.tail _ (.tail _ (.tail _ (.tail _ (.tail _ (.head _)))))))))) (V32.out.at (.tail _ (.tail _ (.tail _ (.tail _ (.tail _ (.tail _ (.tail _ (.tail _ (.tail _ (.head _))))))))))) (V32.out.at (.tail _ (.tail _ (.tail _ (.tail _ (.tail _ (.tail _ (.head _)))))))) (V32.out.at (.tail _ (.tail _ (.tail _ (.tail _ (.tail _ (.tail _ (.tail _ (.head _))))))))) S1.out S2.out (by omega)).mono ?_
    rintro e w33 ⟨s33, p33, q33, A33, c33, n33, B33, d33, m33, rfl, nx, mx, zx, vx, bx⟩
    have Z33 := Lib.hid zx
    have E33 := Lib.hid vx
    have V33 := Lib.hid (((V32.out.go bx).num mx).num nx)
    clear nx mx zx vx
    try go_wp2_with fail
    refine hK.out _ _ (show Below w28.heap.size w28 _ from btwo (show Below w28.heap.size w28 _ from hHeld) bx) (fun hHeld => ?_)
    clear hK K bx
    try simp only [Act.put, List.setIfInBounds_toArray, List.set_cons_zero, List.set_cons_succ]
    refine wpAnyH_ready (rs := [20]) (by kernel_rfl) (by simp) ?_
    refine AllReadyH.cons (List.getElem?_toArray.trans rfl) (fun K hK => ?_) AllReadyH.nil
    go_simp
    refine (two_mul 2 2 f1.s f3.s f1.n f1.c f1.m f1.d f3.n f3.c f3.m f3.d p1 q1 p3 q3 f1.A f1.B f3.A f3.B _ (V33.out.at (.tail _ (.tail _ (.tail _ (.tail _ (.tail _ (.tail _ (.tail _ (.tail _ (.tail _ (.tail _ (.head _)))))))))))) (V33.out.at (.tail _ (.tail _ (.tail _ (.tail _ (.tail _ (.tail _ (.tail _ (.tail _ (.tail _ (.tail _ (.tail _ (.head _))))))))))))) (V33.out.at (.tail _ (.tail _ (.tail _ (.tail _ (.tail _ (.tail _ (.head _)))))))) (V33.out.at (.tail _ (.tail _ (.tail _ (.tail _ (.tail _ (.tail _ (.tail _ (.head _))))))))) S1.out S3.out (by omega)).mono ?_
    rintro e w34 ⟨s34, p34, q34, A34, c34, n34, B34, d34, m34, rfl, nx, mx, zx, vx, bx⟩
    have Z34 := Lib.hid zx
    have E34 := Lib.hid vx
    have V34 := Lib.hid (((V33.out.go bx).num mx).num nx)
    clear nx mx zx vx
    try go_wp2_with fail
    refine hK.out _ _ (show Below w28.heap.size w28 _ from btwo (show Below w28.heap.size w28 _ from hHeld) bx) (fun hHeld => ?_)
    clear hK K bx
    try simp only [Act.put, List.setIfInBounds_toArray, List.set_cons_zero, List.set_cons_succ]
    refine wpAnyH_ready (rs := [21]) (by kernel_rfl) (by simp) ?_
    refine AllReadyH.cons (List.getElem?_toArray.trans rfl) (fun K hK => ?_) AllReadyH.nil
    go_simp
    refine (two_add 5 5 s33 s34 n33 c33 m33 d33 n34 c34 m34 d34 p33 q33 p34 q34 A33 B33 A34 B34 _ (V34.out.at (.tail _ (.tail _ (.head _)))) (V34.out.at (.tail _ (.tail _ (.tail _ (.head _))))) (V34.out.at (.head _)) (V34.out.at (.tail _ (.head _))) Z33.out Z34.out (by omega)).mono ?_
    rintro e w35 ⟨s35, p35, q35, A35, c35, n35, B35, d35, m35, rfl, nx, mx, zx, vx, bx⟩
    have Z35 := Lib.hid zx
    have E35 := Lib.hid vx
    have V35 := Lib.hid (((V34.out.go bx).num mx).num nx)
    clear nx mx zx vx
    try go_wp2_with fail
    refine hK.out _ _ (show Below w28.heap.size w28 _ from btwo (show Below w28.heap.size w28 _ from hHeld) bx) (fun hHeld => ?_)
    clear hK K bx
    try simp only [Act.put, List.setIfInBounds_toArray, List.set_cons_zero, List.set_cons_succ]
    refine wpAnyH_ready (rs := [22]) (by kernel_rfl) (by simp) ?_
    refine AllReadyH.cons (List.getElem?_toArray.trans rfl) (fun K hK => ?_) AllReadyH.nil
    go_simp
    refine (same_val s32 s35 n32 c32 m32 d32 n35 c35 m35 d35 p32 q32 p35 q35 A32 B32 A35 B35 _ (V35.out.at (.tail _ (.tail _ (.tail _ (.tail _ (.tail _ (.tail _ (.head _)))))))) (V35.out.at (.tail _ (.tail _ (.tail _ (.tail _ (.tail _ (.tail _ (.tail _ (.head _))))))))) (V35.out.at (.head _)) (V35.out.at (.tail _ (.head _))) Z32.out.1 Z35.out.1 (by rw [E32.out, E31.out, E35.out, E33.out, E34.out]; rw [Rat.mul_add])).mono ?_
    rintro e w36 ⟨rfl, bx⟩
    have V36 := Lib.hid (V35.out.go bx)
    try go_wp2_with fail
    refine hK.out _ _ (show Below w28.heap.size w28 _ from btwo (show Below w28.heap.size w28 _ from hHeld) bx) (fun hHeld => ?_)
    clear hK K bx
    try simp only [Act.put, List.setIfInBounds_toArray, List.set_cons_zero, List.set_cons_succ]
    refine wpAnyH_take (i := 23) (v := ?_) (List.getElem?_toArray.trans rfl) (by kernel_rfl) (by kernel_rfl) (by kernel_rfl) (fun _ _ _ h => h) (Or.inl ⟨by rfl, ?_⟩) (by assumption) ?_
    rotate_left
    · intro wl hSw; go_simp; try (with_reducible rfl)
    try simp only [Act.put, List.setIfInBounds_toArray, List.set_cons_zero, List.set_cons_succ]
    refine wpAnyH_take (i := 24) (v := ?_) (List.getElem?_toArray.trans rfl) (by kernel_rfl) (by kernel_rfl) (by kernel_rfl) (fun _ _ _ h => h) (Or.inl ⟨by rfl, ?_⟩) (by assumption) ?_
    rotate_left
    · intro wl hSw; go_simp; try (with_reducible rfl)
    try simp only [Act.put, List.setIfInBounds_toArray, List.set_cons_zero, List.set_cons_succ]
    refine wpAnyH_take (i := 25) (v := ?_) (List.getElem?_toArray.trans rfl) (by kernel_rfl) (by kernel_rfl) (by kernel_rfl) (fun _ _ _ h => h) (Or.inl ⟨by rfl, ?_⟩) (by assumption) ?_
    rotate_left
    · intro wl hSw; go_simp; try (with_reducible rfl)
    try simp only [Act.put, List.setIfInBounds_toArray, List.set_cons_zero, List.set_cons_succ]
    refine wpAnyH_take (i := 26) (v := ?_) (List.getElem?_toArray.trans rfl) (by kernel_rfl) (by kernel_rfl) (by kernel_rfl) (fun _ _ _ h => h) (Or.inl ⟨by rfl, ?_⟩) (by assumption) ?_
    rotate_left
    · intro wl hSw; go_simp; try (with_reducible rfl)
    try simp only [Act.put, List.setIfInBounds_toArray, List.set_cons_zero, List.set_cons_succ]
    refine wpAnyH_take (i := 27) (v := ?_) (List.getElem?_toArray.trans rfl) (by kernel_rfl) (by kernel_rfl) (by kernel_rfl) (fun _ _ _ h => h) (Or.inl ⟨by rfl, ?_⟩) (by assumption) ?_
    rotate_left
    · intro wl hSw; go_simp; try (with_reducible rfl)
    try simp only [Act.put, List.setIfInBounds_toArray, List.set_cons_zero, List.set_cons_succ]
    refine wpAnyH_take (i := 28) (v := ?_) (List.getElem?_toArray.trans rfl) (by kernel_rfl) (by kernel_rfl) (by kernel_rfl) (fun _ _ _ h => h) (Or.inl ⟨by rfl, ?_⟩) (by assumption) ?_
    rotate_left
    · intro wl hSw
      have hSw : Below w28.heap.size w28 wl := hSw
      have k0 := (hSw.cell (p := ⟨g1, 0, none⟩) (by show g1 < w28.heap.size; omega)).trans x10
      have k1 := (hSw.cell (p := ⟨g1, 1, none⟩) (by show g1 < w28.heap.size; omega)).trans x11
      have k2 := (hSw.cell (p := ⟨g1, 2, none⟩) (by show g1 < w28.heap.size; omega)).trans x12
      go_simp
      try (with_reducible rfl)
    try simp only [Act.put, List.setIfInBounds_toArray, List.set_cons_zero, List.set_cons_succ]
    refine wpAnyH_take (i := 29) (v := ?_) (List.getElem?_toArray.trans rfl) (by kernel_rfl) (by kernel_rfl) (by kernel_rfl) (fun _ _ _ h => h) (Or.inl ⟨by rfl, ?_⟩) (by assumption) ?_
    rotate_left
    · intro wl hSw
      have hSw : Below w28.heap.size w28 wl := hSw
      have k0 := (hSw.cell (p := ⟨g2, 0, none⟩) (by show g2 < w28.heap.size; omega)).trans x20
      have k1 := (hSw.cell (p := ⟨g2, 1, none⟩) (by show g2 < w28.heap.size; omega)).trans x21
      have k2 := (hSw.cell (p := ⟨g2, 2, none⟩) (by show g2 < w28.heap.size; omega)).trans x22
      go_simp
      try (with_reducible rfl)
    try simp only [Act.put, List.setIfInBounds_toArray, List.set_cons_zero, List.set_cons_succ]
    refine wpAnyH_take (i := 31) (v := ?_) (List.getElem?_toArray.trans rfl) (by kernel_rfl) (by kernel_rfl) (by kernel_rfl) (fun _ _ _ h => h) (Or.inl ⟨by rfl, ?_⟩) (by assumption) ?_
    rotate_left
    · intro wl hSw
      have hSw : Below w28.heap.size w28 wl := hSw
      have k0 := (hSw.cell (p := ⟨g2, 0, none⟩) (by show g2 < w28.heap.size; omega)).trans x20
      have k1 := (hSw.cell (p := ⟨g2, 1, none⟩) (by show g2 < w28.heap.size; omega)).trans x21
      have k2 := (hSw.cell (p := ⟨g2, 2, none⟩) (by show g2 < w28.heap.size; omega)).trans x22
      go_simp
      try (with_reducible rfl)
    try simp only [Act.put, List.setIfInBounds_toArray, List.set_cons_zero, List.set_cons_succ]
    refine wpAnyH_take (i := 33) (v := ?_) (List.getElem?_toArray.trans rfl) (by kernel_rfl) (by kernel_rfl) (by kernel_rfl) (fun _ _ _ h => h) (Or.inl ⟨by rfl, ?_⟩) (by assumption) ?_
    rotate_left
    · intro wl hSw
      have hSw : Below w28.heap.size w28 wl := hSw
      have k0 := (hSw.cell (p := ⟨g1, 0, none⟩) (by show g1 < w28.heap.size; omega)).trans x10
      have k1 := (hSw.cell (p := ⟨g1, 1, none⟩) (by show g1 < w28.heap.size; omega)).trans x11
      have k2 := (hSw.cell (p := ⟨g1, 2, none⟩) (by show g1 < w28.heap.size; omega)).trans x12
      go_simp
      try (with_reducible rfl)
    try simp only [Act.put, List.setIfInBounds_toArray, List.set_cons_zero, List.set_cons_succ]
    refine wpAnyH_ready (rs := [30]) (by kernel_rfl) (by simp) ?_
    refine AllReadyH.cons (List.getElem?_toArray.trans rfl) (fun K hK => ?_) AllReadyH.nil
    go_simp
    refine (two_add 2 2 f1.s f2.s f1.n f1.c f1.m f1.d f2.n f2.c f2.m f2.d p1 q1 p2 q2 f1.A f1.B f2.A f2.B _ (V36.out.at (.tail _ (.tail _ (.tail _ (.tail _ (.tail _ (.tail _ (.tail _ (.tail _ (.tail _ (.tail _ (.tail _ (.tail _ (.tail _ (.tail _ (.head _)))))))))))))))) (V36.out.at (.tail _ (.tail _ (.tail _ (.tail _ (.tail _ (.tail _ (.tail _ (.tail _ (.tail _ (.tail _ (.tail _ (.tail _ (.tail _ (.tail _ (.tail _ (.head _))))))))))))))))) (V36.out.at (.tail _ (.tail _ (.tail _ (.tail _ (.tail _ (.tail _ (.tail _ (.tail _ (.tail _ (.tail _ (.tail _ (.tail _ (.head _)))))))))))))) (V36.out.at (.tail _ (.tail _ (.tail _ (.tail _ (.tail _ (.tail _ (.tail _ (.tail _ (.tail _ (.tail _ (.tail _ (.tail _ (.tail _ (.head _))))))))))))))) S1.out S2.out (by omega)).mono ?_
    rintro e w37 ⟨s37, p37, q37, A37, c37, n37, B37, d37, m37, rfl, nx, mx, zx, vx, bx⟩
    have Z37 := Lib.hid zx
    have E37 := Lib.hid vx
    have V37 := Lib.hid (((V36.out.go bx).num mx).num nx)
    clear nx mx zx vx
    try go_wp2_with fail
    refine hK.out _ _ (show Below w28.heap.size w28 _ from btwo (show Below w28.heap.size w28 _ from hHeld) bx) (fun hHeld => ?_)
    clear hK K bx
    try simp only [Act.put, List.setIfInBounds_toArray, List.set_cons_zero, List.set_cons_succ]
    refine wpAnyH_ready (rs := [32]) (by kernel_rfl) (by simp) ?_
    refine AllReadyH.cons (List.getElem?_toArray.trans rfl) (fun K hK => ?_) AllReadyH.nil
    go_simp
    refine (two_sub 5 2 s37 f2.s n37 c37 m37 d37 f2.n f2.c f2.m f2.d p37 q37 p2 q2 A37 B37 f2.A f2.B _ (V37.out.at (.head _)) (V37.out.at (.tail _ (.head _))) (V37.out.at (.tail _ (.tail _ (.tail _ (.tail _ (.tail _ (.tail _ (.tail _ (.tail _ (.tail _ (.tail _ (.tail _ (.tail _ (.tail _ (.tail _ (.head _)))))))))))))))) (V37.out.at (.tail _ (.tail _ (.tail _ (.tail _ (.tail _ (.tail _ (.tail _ (.tail _ (.tail _ (.tail _ (.tail _ (.tail _ (.tail _ (.tail _ (.tail _ (.head _))))))))))))))))) Z37.out S2.out (by omega)).mono ?_
    rintro e w38 ⟨s38, p38, q38, A38, c38, n38, B38, d38, m38, rfl, nx, mx, zx, vx, bx⟩
    have Z38 := Lib.hid zx
    have E38 := Lib.hid vx
    have V38 := Lib.hid (((V37.out.go bx).num mx).num nx)
    clear nx mx zx vx
    try go_wp2_with fail
    refine hK.out _ _ (show Below w28.heap.size w28 _ from btwo (show Below w28.heap.size w28 _ from hHeld) bx) (fun hHeld => ?_)
    clear hK K bx
    try simp only [Act.put, List.setIfInBounds_toArray, List.set_cons_zero, List.set_cons_succ]
    refine wpAnyH_ready (rs := [34]) (by kernel_rfl) (by simp) ?_
    refine AllReadyH.cons (List.getElem?_toArray.trans rfl) (fun K hK => ?_) AllReadyH.nil
    go_simp
    refine (same_val s38 f1.s n38 c38 m38 d38 f1.n f1.c f1.m f1.d p38 q38 p1 q1 A38 B38 f1.A f1.B _ (V38.out.at (.head _)) (V38.out.at (.tail _ (.head _))) (V38.out.at (.tail _ (.tail _ (.tail _ (.tail _ (.tail _ (.tail _ (.tail _ (.tail _ (.tail _ (.tail _ (.tail _ (.tail _ (.tail _ (.tail _ (.tail _ (.tail _ (.tail _ (.tail _ (.head _)))))))))))))))))))) (V38.out.at (.tail _ (.tail _ (.tail _ (.tail _ (.tail _ (.tail _ (.tail _ (.tail _ (.tail _ (.tail _ (.tail _ (.tail _ (.tail _ (.tail _ (.tail _ (.tail _ (.tail _ (.tail _ (.tail _ (.head _))))))))))))))))))))) Z38.out.1 S1.out.1 (by rw [E38.out, E37.out]; rw [Rat.add_assoc, Rat.add_neg_cancel, Rat.add_zero])).mono ?_
    rintro e w39 ⟨rfl, bx⟩
    have V39 := Lib.hid (V38.out.go bx)
    try go_wp2_with fail
    refine hK.out _ _ (show Below w28.heap.size w28 _ from btwo (show Below w28.heap.size w28 _ from hHeld) bx) (fun hHeld => ?_)
    clear hK K bx
    try simp only [Act.put, List.setIfInBounds_toArray, List.set_cons_zero, List.set_cons_succ]
    refine wpAnyH_take (i := 35) (v := ?_) (List.getElem?_toArray.trans rfl) (by kernel_rfl) (by kernel_rfl) (by kernel_rfl) (fun _ _ _ h => h) (Or.inl ⟨by rfl, ?_⟩) (by assumption) ?_
    rotate_left
    · intro wl hSw; go_simp; try (with_reducible rfl)
    try simp only [Act.put, List.setIfInBounds_toArray, List.set_cons_zero, List.set_cons_succ]
    refine wpAnyH_take (i := 36) (v := ?_) (List.getElem?_toArray.trans rfl) (by kernel_rfl) (by kernel_rfl) (by kernel_rfl) (fun _ _ _ h => h) (Or.inl ⟨by rfl, ?_⟩) (by assumption) ?_
    rotate_left
    · intro wl hSw; go_simp; try (with_reducible rfl)
    try simp only [Act.put, List.setIfInBounds_toArray, List.set_cons_zero, List.set_cons_succ]
    refine wpAnyH_done (by kernel_rfl) ?_ _
    have V40 := Lib.hid (V39.out.sub (fun _ h => h) (fun _ h => .tail _ (.tail _ (.tail _ (.tail _ (.tail _ (.tail _ (.tail _ (.tail _ (.tail _ (.tail _ (.tail _ (.tail _ (.tail _ (.tail _ h)))))))))))))))
    clear x10 x11 x12 x13 x20 x21 x22 x23 x30 x31 x32 x33
    go_upto_region 12 with fail
    have yy := (V40.out.2.2.cell (p := ⟨W.heap.size + 1, 0, none⟩) (by show W.heap.size + 1 < w1.heap.size; omega)).trans HY0.out
    have hlt2 := Nat.lt_of_lt_of_le hlt V40.out.2.2.size
    by_cases h0 : a2 = 0
    · subst h0
      obtain ⟨x10, x11, x12, x13⟩ := V40.out.box (.head _)
      obtain ⟨x20, x21, x22, x23⟩ := V40.out.box (.tail _ (.head _))
      obtain ⟨x30, x31, x32, x33⟩ := V40.out.box (.tail _ (.tail _ (.head _)))
      refine wp_region_held_drew (S := fun w' => Below w39.heap.size w39 w') (by kernel_rfl) (Below.refl _ _).drew (fun hHeld => ?_)
      have V41 := Lib.hid (V40.out.go (Below.refl _ _).drew)
      refine wpAnyH_take (i := 0) (v := ?_) (List.getElem?_toArray.trans rfl) (by kernel_rfl) (by kernel_rfl) (by kernel_rfl) (fun _ _ _ h => h) (Or.inl ⟨by rfl, ?_⟩) (by assumption) ?_
      rotate_left
      · intro wl hSw; go_simp; try (with_reducible rfl)
      try simp only [Act.put, List.setIfInBounds_toArray, List.set_cons_zero, List.set_cons_succ]
      refine wpAnyH_take (i := 1) (v := ?_) (List.getElem?_toArray.trans rfl) (by kernel_rfl) (by kernel_rfl) (by kernel_rfl) (fun _ _ _ h => h) (Or.inl ⟨by rfl, ?_⟩) (by assumption) ?_
      rotate_left
      · intro wl hSw
        have hSw : Below w39.heap.size w39 wl := hSw
        have k0 := (hSw.cell (p := ⟨W.heap.size + 1, 0, none⟩) (by show W.heap.size + 1 < w39.heap.size; omega)).trans yy
        go_simp
        try (with_reducible rfl)
      try simp only [Act.put, List.setIfInBounds_toArray, List.set_cons_zero, List.set_cons_succ]
      refine wpAnyH_take (i := 2) (v := ?_) (List.getElem?_toArray.trans rfl) (by kernel_rfl) (by kernel_rfl) (by kernel_rfl) (fun _ _ _ h => h) (Or.inl ⟨by rfl, ?_⟩) (by assumption) ?_
      rotate_left
      · intro wl hSw; go_simp; try (with_reducible rfl)
      try simp only [Act.put, List.setIfInBounds_toArray, List.set_cons_zero, List.set_cons_succ]
      refine wpAnyH_take (i := 3) (v := ?_) (List.getElem?_toArray.trans rfl) (by kernel_rfl) (by kernel_rfl) (by kernel_rfl) (fun _ _ _ h => h) (Or.inl ⟨by rfl, ?_⟩) (by assumption) ?_
      rotate_left
      · intro wl hSw; go_simp; try (with_reducible rfl)
      try simp only [Act.put, List.setIfInBounds_toArray, List.set_cons_zero, List.set_cons_succ]
      refine wpAnyH_take (i := 4) (v := undef) (List.getElem?_toArray.trans rfl) (by kernel_rfl) (by kernel_rfl) (by kernel_rfl) (fun _ _ _ h => h) (Or.inr ⟨by rfl, rfl⟩) (by assumption) ?_
      try simp only [Act.put, List.setIfInBounds_toArray, List.set_cons_zero, List.set_cons_succ]
      refine wpAnyH_take (i := 5) (v := undef) (List.getElem?_toArray.trans rfl) (by kernel_rfl) (by kernel_rfl) (by kernel_rfl) (fun _ _ _ h => h) (Or.inr ⟨by rfl, rfl⟩) (by assumption) ?_
      try simp only [Act.put, List.setIfInBounds_toArray, List.set_cons_zero, List.set_cons_succ]
      refine wpAnyH_take (i := 6) (v := undef) (List.getElem?_toArray.trans rfl) (by kernel_rfl) (by kernel_rfl) (by kernel_rfl) (fun _ _ _ h => h) (Or.inr ⟨by rfl, rfl⟩) (by assumption) ?_
      try simp only [Act.put, List.setIfInBounds_toArray, List.set_cons_zero, List.set_cons_succ]
      refine wpAnyH_take (i := 7) (v := undef) (List.getElem?_toArray.trans rfl) (by kernel_rfl) (by kernel_rfl) (by kernel_rfl) (fun _ _ _ h => h) (Or.inr ⟨by rfl, rfl⟩) (by assumption) ?_
      try simp only [Act.put, List.setIfInBounds_toArray, List.set_cons_zero, List.set_cons_succ]
      refine wpAnyH_take (i := 8) (v := undef) (List.getElem?_toArray.trans rfl) (by kernel_rfl) (by kernel_rfl) (by kernel_rfl) (fun _ _ _ h => h) (Or.inr ⟨by rfl, rfl⟩) (by assumption) ?_
      try simp only [Act.put, List.setIfInBounds_toArray, List.set_cons_zero, List.set_cons_succ]
      refine wpAnyH_take (i := 9) (v := undef) (List.getElem?_toArray.trans rfl) (by kernel_rfl) (by kernel_rfl) (by kernel_rfl) (fun _ _ _ h => h) (Or.inr ⟨by rfl, rfl⟩) (by assumption) ?_
      try simp only [Act.put, List.setIfInBounds_toArray, List.set_cons_zero, List.set_cons_succ]
      refine wpAnyH_take (i := 10) (v := undef) (List.getElem?_toArray.trans rfl) (by kernel_rfl) (by kernel_rfl) (by kernel_rfl) (fun _ _ _ h => h) (Or.inr ⟨by rfl, rfl⟩) (by assumption) ?_
      try simp only [Act.put, List.setIfInBounds_toArray, List.set_cons_zero, List.set_cons_succ]
      refine wpAnyH_take (i := 11) (v := undef) (List.getElem?_toArray.trans rfl) (by kernel_rfl) (by kernel_rfl) (by kernel_rfl) (fun _ _ _ h => h) (Or.inr ⟨by rfl, rfl⟩) (by assumption) ?_
      try simp only [Act.put, List.setIfInBounds_toArray, List.set_cons_zero, List.set_cons_succ]
      refine wpAnyH_take (i := 12) (v := undef) (List.getElem?_toArray.trans rfl) (by kernel_rfl) (by kernel_rfl) (by kernel_rfl) (fun _ _ _ h => h) (Or.inr ⟨by rfl, rfl⟩) (by assumption) ?_
      try simp only [Act.put, List.setIfInBounds_toArray, List.set_cons_zero, List.set_cons_succ]
      refine wpAnyH_take (i := 13) (v := undef) (List.getElem?_toArray.trans rfl) (by kernel_rfl) (by kernel_rfl) (by kernel_rfl) (fun _ _ _ h => h) (Or.inr ⟨by rfl, rfl⟩) (by assumption) ?_
      try simp only [Act.put, List.setIfInBounds_toArray, List.set_cons_zero, List.set_cons_succ]
      refine wpAnyH_take (i := 14) (v := ?_) (List.getElem?_toArray.trans rfl) (by kernel_rfl) (by kernel_rfl) (by kernel_rfl) (fun _ _ _ h => h) (Or.inl ⟨by rfl, ?_⟩) (by assumption) ?_
      rotate_left
      · intro wl hSw; go_simp; try (with_reducible rfl)
      try simp only [Act.put, List.setIfInBounds_toArray, List.set_cons_zero, List.set_cons_succ]
      refine wpAnyH_take (i := 15) (v := ?_) (List.getElem?_toArray.trans rfl) (by kernel_rfl) (by kernel_rfl) (by kernel_rfl) (fun _ _ _ h => h) (Or.inl ⟨by rfl, ?_⟩) (by assumption) ?_
      rotate_left
      · intro wl hSw; go_simp; try (with_reducible rfl)
      try simp only [Act.put, List.setIfInBounds_toArray, List.set_cons_zero, List.set_cons_succ]
      refine wpAnyH_done (by kernel_rfl) ?_ _
      have V42 := Lib.hid (V41.out.sub (fun _ h => h) (fun _ h => h))
      clear x10 x11 x12 x13 x20 x21 x22 x23 x30 x31 x32 x33
      go_wp2_with fail
      go_ret
      exact ⟨rfl, btwo B1.out V42.out.2.2⟩
    · have hne : ¬ p2 = 0 := fun h => h0 (F2.out.2 h)
      have hb0 : (a2 == 0) = false := by simpa using h0
      obtain ⟨x10, x11, x12, x13⟩ := V40.out.box (.head _)
      obtain ⟨x20, x21, x22, x23⟩ := V40.out.box (.tail _ (.head _))
      obtain ⟨x30, x31, x32, x33⟩ := V40.out.box (.tail _ (.tail _ (.head _)))
      refine wp_region_held_drew (S := fun w' => Below w39.heap.size w39 w') (by kernel_rfl) (Below.refl _ _).drew (fun hHeld => ?_)
      have V41 := Lib.hid (V40.out.go (Below.refl _ _).drew)
      refine wpAnyH_take (i := 0) (v := ?_) (List.getElem?_toArray.trans rfl) (by kernel_rfl) (by kernel_rfl) (by kernel_rfl) (fun _ _ _ h => h) (Or.inl ⟨by rfl, ?_⟩) (by assumption) ?_
      rotate_left
      · intro wl hSw; go_simp; try (with_reducible rfl)
      try simp only [Act.put, List.setIfInBounds_toArray, List.set_cons_zero, List.set_cons_succ]
      refine wpAnyH_take (i := 1) (v := ?_) (List.getElem?_toArray.trans rfl) (by kernel_rfl) (by kernel_rfl) (by kernel_rfl) (fun _ _ _ h => h) (Or.inl ⟨by rfl, ?_⟩) (by assumption) ?_
      rotate_left
      · intro wl hSw
        have hSw : Below w39.heap.size w39 wl := hSw
        have k0 := (hSw.cell (p := ⟨W.heap.size + 1, 0, none⟩) (by show W.heap.size + 1 < w39.heap.size; omega)).trans yy
        go_simp
        try (with_reducible rfl)
      try simp only [Act.put, List.setIfInBounds_toArray, List.set_cons_zero, List.set_cons_succ]
      refine wpAnyH_take (i := 2) (v := ?_) (List.getElem?_toArray.trans rfl) (by kernel_rfl) (by kernel_rfl) (by kernel_rfl) (fun _ _ _ h => h) (Or.inl ⟨by rfl, ?_⟩) (by assumption) ?_
      rotate_left
      · intro wl hSw; go_simp; try (with_reducible rfl)
      try simp only [Act.put, List.setIfInBounds_toArray, List.set_cons_zero, List.set_cons_succ]
      refine wpAnyH_take (i := 3) (v := ?_) (List.getElem?_toArray.trans rfl) (by kernel_rfl) (by kernel_rfl) (by kernel_rfl) (fun _ _ _ h => h) (Or.inl ⟨by rfl, ?_⟩) (by assumption) ?_
      rotate_left
      · intro wl hSw; go_simp; try (with_reducible rfl)
      try simp only [Act.put, List.setIfInBounds_toArray, List.set_cons_zero, List.set_cons_succ]
      refine wpAnyH_take (i := 4) (v := ?_) (List.getElem?_toArray.trans rfl) (by kernel_rfl) (by kernel_rfl) (by kernel_rfl) (fun _ _ _ h => h) (Or.inl ⟨by rfl, ?_⟩) (by assumption) ?_
      rotate_left
      · intro wl hSw; go_simp; try (with_reducible rfl)
      try simp only [Act.put, List.setIfInBounds_toArray, List.set_cons_zero, List.set_cons_succ]
      refine wpAnyH_take (i := 5) (v := ?_) (List.getElem?_toArray.trans rfl) (by kernel_rfl) (by kernel_rfl) (by kernel_rfl) (fun _ _ _ h => h) (Or.inl ⟨by rfl, ?_⟩) (by assumption) ?_
      rotate_left
      · intro wl hSw; go_simp; try (with_reducible rfl)
      try simp only [Act.put, List.setIfInBounds_toArray, List.set_cons_zero, List.set_cons_succ]
      refine wpAnyH_take (i := 6) (v := ?_) (List.getElem?_toArray.trans rfl) (by kernel_rfl) (by kernel_rfl) (by kernel_rfl) (fun _ _ _ h => h) (Or.inl ⟨by rfl, ?_⟩) (by assumption) ?_
      rotate_left
      · intro wl hSw; go_simp; try (with_reducible rfl)
      try simp only [Act.put, List.setIfInBounds_toArray, List.set_cons_zero, List.set_cons_succ]
      refine wpAnyH_take (i := 7) (v := ?_) (List.getElem?_toArray.trans rfl) (by kernel_rfl) (by kernel_rfl) (by kernel_rfl) (fun _ _ _ h => h) (Or.inl ⟨by rfl, ?_⟩) (by assumption) ?_
      rotate_left
      · intro wl hSw
        have hSw : Below w39.heap.size w39 wl := hSw
        have k0 := (hSw.cell (p := ⟨g1, 0, none⟩) (by show g1 < w39.heap.size; omega)).trans x10
        have k1 := (hSw.cell (p := ⟨g1, 1, none⟩) (by show g1 < w39.heap.size; omega)).trans x11
        have k2 := (hSw.cell (p := ⟨g1, 2, none⟩) (by show g1 < w39.heap.size; omega)).trans x12
        go_simp
        try (with_reducible rfl)
      try simp only [Act.put, List.setIfInBounds_toArray, List.set_cons_zero, List.set_cons_succ]
      refine wpAnyH_take (i := 8) (v := ?_) (List.getElem?_toArray.trans rfl) (by kernel_rfl) (by kernel_rfl) (by kernel_rfl) (fun _ _ _ h => h) (Or.inl ⟨by rfl, ?_⟩) (by assumption) ?_
      rotate_left
      · intro wl hSw
        have hSw : Below w39.heap.size w39 wl := hSw
        have k0 := (hSw.cell (p := ⟨g2, 0, none⟩) (by show g2 < w39.heap.size; omega)).trans x20
        have k1 := (hSw.cell (p := ⟨g2, 1, none⟩) (by show g2 < w39.heap.size; omega)).trans x21
        have k2 := (hSw.cell (p := ⟨g2, 2, none⟩) (by show g2 < w39.heap.size; omega)).trans x22
        go_simp
        try (with_reducible rfl)
      try simp only [Act.put, List.setIfInBounds_toArray, List.set_cons_zero, List.set_cons_succ]
      refine wpAnyH_take (i := 10) (v := ?_) (List.getElem?_toArray.trans rfl) (by kernel_rfl) (by kernel_rfl) (by kernel_rfl) (fun _ _ _ h => h) (Or.inl ⟨by rfl, ?_⟩) (by assumption) ?_
      rotate_left
      · intro wl hSw
        have hSw : Below w39.heap.size w39 wl := hSw
        have k0 := (hSw.cell (p := ⟨g2, 0, none⟩) (by show g2 < w39.heap.size; omega)).trans x20
        have k1 := (hSw.cell (p := ⟨g2, 1, none⟩) (by show g2 < w39.heap.size; omega)).trans x21
        have k2 := (hSw.cell (p := ⟨g2, 2, none⟩) (by show g2 < w39.heap.size; omega)).trans x22
        go_simp
        try (with_reducible rfl)
      try simp only [Act.put, List.setIfInBounds_toArray, List.set_cons_zero, List.set_cons_succ]
      refine wpAnyH_take (i := 12) (v := ?_) (List.getElem?_toArray.trans rfl) (by kernel_rfl) (by kernel_rfl) (by kernel_rfl) (fun _ _ _ h => h) (Or.inl ⟨by rfl, ?_⟩) (by assumption) ?_
      rotate_left
      · intro wl hSw
        have hSw : Below w39.heap.size w39 wl := hSw
        have k0 := (hSw.cell (p := ⟨g1, 0, none⟩) (by show g1 < w39.heap.size; omega)).trans x10
        have k1 := (hSw.cell (p := ⟨g1, 1, none⟩) (by show g1 < w39.heap.size; omega)).trans x11
        have k2 := (hSw.cell (p := ⟨g1, 2, none⟩) (by show g1 < w39.heap.size; omega)).trans x12
        go_simp
        try (with_reducible rfl)
      try simp only [Act.put, List.setIfInBounds_toArray, List.set_cons_zero, List.set_cons_succ]
      refine wpAnyH_ready (rs := [9]) (by kernel_rfl) (by simp) ?_
      refine AllReadyH.cons (List.getElem?_toArray.trans rfl) (fun K hK => ?_) AllReadyH.nil
      go_simp
      refine (two_mul 2 2 f1.s f2.s f1.n f1.c f1.m f1.d f2.n f2.c f2.m f2.d p1 q1 p2 q2 f1.A f1.B f2.A f2.B _ (V41.out.at (.tail _ (.tail _ (.tail _ (.tail _ (.head _)))))) (V41.out.at (.tail _ (.tail _ (.tail _ (.tail _ (.tail _ (.head _))))))) (V41.out.at (.tail _ (.tail _ (.head _)))) (V41.out.at (.tail _ (.tail _ (.tail _ (.head _))))) S1.out S2.out (by omega)).mono ?_
      rintro e w42 ⟨s42, p42, q42, A42, c42, n42, B42, d42, m42, rfl, nx, mx, zx, vx, bx⟩
      have Z42 := Lib.hid zx
      have E42 := Lib.hid vx
      have V42 := Lib.hid (((V41.out.go bx).num mx).num nx)
      clear nx mx zx vx
      try go_wp2_with fail
      refine hK.out _ _ (show Below w39.heap.size w39 _ from btwo (show Below w39.heap.size w39 _ from hHeld) bx) (fun hHeld => ?_)
      clear hK K bx
      try simp only [Act.put, List.setIfInBounds_toArray, List.set_cons_zero, List.set_cons_succ]
      refine wpAnyH_ready (rs := [11]) (by kernel_rfl) (by simp) ?_
      refine AllReadyH.cons (List.getElem?_toArray.trans rfl) (fun K hK => ?_) AllReadyH.nil
      go_simp
      refine (two_div 5 2 s42 f2.s n42 c42 m42 d42 f2.n f2.c f2.m f2.d p42 q42 p2 q2 A42 B42 f2.A f2.B _ (V42.out.at (.head _)) (V42.out.at (.tail _ (.head _))) (V42.out.at (.tail _ (.tail _ (.tail _ (.tail _ (.head _)))))) (V42.out.at (.tail _ (.tail _ (.tail _ (.tail _ (.tail _ (.head _))))))) Z42.out S2.out hne (by omega)).mono ?_
      rintro e w43 ⟨s43, p43, q43, A43, c43, n43, B43, d43, m43, rfl, nx, mx, zx, vx, bx⟩
      have Z43 := Lib.hid zx
      have E43 := Lib.hid vx
      have V43 := Lib.hid (((V42.out.go bx).num mx).num nx)
      clear nx mx zx vx
      try go_wp2_with fail
      refine hK.out _ _ (show Below w39.heap.size w39 _ from btwo (show Below w39.heap.size w39 _ from hHeld) bx) (fun hHeld => ?_)
      clear hK K bx
      try simp only [Act.put, List.setIfInBounds_toArray, List.set_cons_zero, List.set_cons_succ]
      refine wpAnyH_ready (rs := [13]) (by kernel_rfl) (by simp) ?_
      refine AllReadyH.cons (List.getElem?_toArray.trans rfl) (fun K hK => ?_) AllReadyH.nil
      go_simp
      refine (same_val s43 f1.s n43 c43 m43 d43 f1.n f1.c f1.m f1.d p43 q43 p1 q1 A43 B43 f1.A f1.B _ (V43.out.at (.head _)) (V43.out.at (.tail _ (.head _))) (V43.out.at (.tail _ (.tail _ (.tail _ (.tail _ (.tail _ (.tail _ (.tail _ (.tail _ (.head _)))))))))) (V43.out.at (.tail _ (.tail _ (.tail _ (.tail _ (.tail _ (.tail _ (.tail _ (.tail _ (.tail _ (.head _))))))))))) Z43.out.1 S1.out.1 (by rw [E43.out, E42.out]; rw [Rat.mul_assoc, Rat.mul_inv_cancel _ (fun h => hne (vf_zero S2.out.1.d h)), Rat.mul_one])).mono ?_
      rintro e w44 ⟨rfl, bx⟩
      have V44 := Lib.hid (V43.out.go bx)
      try go_wp2_with fail
      refine hK.out _ _ (show Below w39.heap.size w39 _ from btwo (show Below w39.heap.size w39 _ from hHeld) bx) (fun hHeld => ?_)
      clear hK K bx
      try simp only [Act.put, List.setIfInBounds_toArray, List.set_cons_zero, List.set_cons_succ]
      refine wpAnyH_take (i := 14) (v := ?_) (List.getElem?_toArray.trans rfl) (by kernel_rfl) (by kernel_rfl) (by kernel_rfl) (fun _ _ _ h => h) (Or.inl ⟨by rfl, ?_⟩) (by assumption) ?_
      rotate_left
      · intro wl hSw; go_simp; try (with_reducible rfl)
      try simp only [Act.put, List.setIfInBounds_toArray, List.set_cons_zero, List.set_cons_succ]
      refine wpAnyH_take (i := 15) (v := ?_) (List.getElem?_toArray.trans rfl) (by kernel_rfl) (by kernel_rfl) (by kernel_rfl) (fun _ _ _ h => h) (Or.inl ⟨by rfl, ?_⟩) (by assumption) ?_
      rotate_left
      · intro wl hSw; go_simp; try (with_reducible rfl)
      try simp only [Act.put, List.setIfInBounds_toArray, List.set_cons_zero, List.set_cons_succ]
      refine wpAnyH_done (by kernel_rfl) ?_ _
      have V45 := Lib.hid (V44.out.sub (fun _ h => h) (fun _ h => .tail _ (.tail _ (.tail _ (.tail _ h)))))
      clear x10 x11 x12 x13 x20 x21 x22 x23 x30 x31 x32 x33
      go_wp2_with fail
      go_ret
      exact ⟨rfl, btwo B1.out V45.out.2.2⟩)
  have st3_123_2 := Lib.hid (show ∀ (f1 : FB) (p1 q1 : Int) (f2 : FB) (p2 q2 : Int) (f3 : FB) (p3 q3 : Int) (g1 : Nat) (g2 : Nat) (g3 : Nat) (w : World) (V : Hid (BoxF w1 [(g1, f1), (g2, f2), (g3, ⟨false, none, 0, 0, none, 0, 0⟩)] [(.slice f3.A f3.n f3.c, p3), (.slice f3.B f3.m f3.d, q3), (.slice f2.A f2.n f2.c, p2), (.slice f2.B f2.m f2.d, q2), (.slice f1.A f1.n f1.c, p1), (.slice f1.B f1.m f1.d, q1)] w)) (F1 : Hid (Sz 2 f1.s p1 q1 ∧ (p1 = 0 → a = 0))) (F2 : Hid (Sz 2 f2.s p2 q2 ∧ (p2 = 0 → a2 = 0))) (F3 : Hid (Sz 2 f3.s p3 q3 ∧ (p3 = 0 → a3 = 0))) (D12 : ¬ g1 = g2) (D13 : ¬ g1 = g3) (D23 : ¬ g2 = g3), G 1 #[true, true, true, true, true, true, true, true, true, true, true, true, true, true, true, true, true, true, true, true, false] { tmps := #[.agg #[.int .i16 a, .int .u8 b], .agg #[.int .i16 a2, .int .u8 b2], .agg #[.int .i16 a3, .int .u8 b3], .pointer (some ⟨W.heap.size, 0, none⟩), .pointer (some ⟨W.heap.size + 1, 0, none⟩), .pointer (some ⟨W.heap.size + 1 + 1, 0, none⟩), .bool false, .pointer (some ⟨g1, 0, none⟩), .pointer (some ⟨g2, 0, none⟩), .pointer (some ⟨g3, 0, none⟩), undef, undef, undef, .bool true, .bool false, .pointer (some ⟨W.heap.size, 0, none⟩), .int .i16 a, .pointer (some ⟨W.heap.size, 1, none⟩), .int .u8 b, .agg #[.bool f1.s, .slice f1.A f1.n f1.c, .slice f1.B f1.m f1.d], .pointer (some ⟨W.heap.size + 1, 0, none⟩), .int .i16 a2, .pointer (some ⟨W.heap.size + 1, 1, none⟩), .int .u8 b2, .agg #[.bool f2.s, .slice f2.A f2.n f2.c, .slice f2.B f2.m f2.d], .pointer (some ⟨W.heap.size + 1 + 1, 0, none⟩), .int .i16 a3, .pointer (some ⟨W.heap.size + 1 + 1, 1, none⟩), .int .u8 b3, .agg #[.bool f3.s, .slice f3.A f3.n f3.c, .slice f3.B f3.m f3.d], undef, undef, undef, undef, undef, undef, undef, undef, undef, undef, undef, undef, undef, undef, undef, undef, undef, undef, undef, undef, undef, undef, undef, undef, undef, undef, undef, undef, undef, undef, undef, undef, undef, undef, undef, undef, undef, undef, undef, undef, undef, undef, undef, undef, undef, undef, undef, undef, undef, undef, undef, undef, undef, undef, undef, undef, undef, undef, undef, undef, undef, undef, undef, undef, undef, undef, undef, undef, undef, undef, undef, undef, undef, undef, undef, undef, undef, undef, undef, undef, undef, undef, undef, undef, undef, undef, undef, undef, undef, undef, undef, undef, undef, undef, undef, undef, undef, undef, undef, undef, undef, undef, undef, undef, undef, undef, undef, undef, undef, undef, undef, undef, undef, undef, undef, undef, undef, undef, undef, undef], defers := [] } w from by
    intro f1 p1 q1 f2 p2 q2 f3 p3 q3 g1 g2 g3 w V F1 F2 F3 D12 D13 D23
    rw [← HG.out]
    refine wpAnyH_ready (rs := [20]) (by kernel_rfl) (by simp) ?_
    refine AllReadyH.cons (List.getElem?_toArray.trans rfl) (fun K hK => ?_) ?_
    · obtain ⟨b0, b1, b2, b3⟩ := V.out.box (.tail _ (.tail _ (.head _)))
      obtain ⟨o0, o1, o2⟩ := V.out.open (.tail _ (.tail _ (.head _)))
      have VN := V.out.set (.tail _ (.tail _ (.head _))) f3 [(g1, f1), (g2, f2), (g3, f3)] (List.forall_mem_cons.2 ⟨.inr ⟨(.head _), by show ¬ g1 = g3; omega⟩, List.forall_mem_cons.2 ⟨.inr ⟨(.tail _ (.head _)), by show ¬ g2 = g3; omega⟩, List.forall_mem_cons.2 ⟨.inl rfl, fun _ h => by simp at h⟩⟩⟩)
      go_simp
      refine hK.out _ _ VN.2.2 (fun hHeld => ?_)
      clear hK K
      try simp only [Act.put, List.setIfInBounds_toArray, List.set_cons_zero, List.set_cons_succ]
      rw [HG.out]
      exact st3_123_3.out f1 p1 q1 f2 p2 q2 f3 p3 q3 g1 g2 g3 _ (Lib.hid (VN)) F1 F2 F3 D12 D13 D23
    exact AllReadyH.nil)
  have st3_123_1 := Lib.hid (show ∀ (f1 : FB) (p1 q1 : Int) (f2 : FB) (p2 q2 : Int) (f3 : FB) (p3 q3 : Int) (g1 : Nat) (g2 : Nat) (g3 : Nat) (w : World) (V : Hid (BoxF w1 [(g1, f1), (g2, ⟨false, none, 0, 0, none, 0, 0⟩), (g3, ⟨false, none, 0, 0, none, 0, 0⟩)] [(.slice f3.A f3.n f3.c, p3), (.slice f3.B f3.m f3.d, q3), (.slice f2.A f2.n f2.c, p2), (.slice f2.B f2.m f2.d, q2), (.slice f1.A f1.n f1.c, p1), (.slice f1.B f1.m f1.d, q1)] w)) (F1 : Hid (Sz 2 f1.s p1 q1 ∧ (p1 = 0 → a = 0))) (F2 : Hid (Sz 2 f2.s p2 q2 ∧ (p2 = 0 → a2 = 0))) (F3 : Hid (Sz 2 f3.s p3 q3 ∧ (p3 = 0 → a3 = 0))) (D12 : ¬ g1 = g2) (D13 : ¬ g1 = g3) (D23 : ¬ g2 = g3), G 2 #[true, true, true, true, true, true, true, true, true, true, true, true, true, true, true, true, true, true, true, false, false] { tmps := #[.agg #[.int .i16 a, .int .u8 b], .agg #[.int .i16 a2, .int .u8 b2], .agg #[.int .i16 a3, .int .u8 b3], .pointer (some ⟨W.heap.size, 0, none⟩), .pointer (some ⟨W.heap.size + 1, 0, none⟩), .pointer (some ⟨W.heap.size + 1 + 1, 0, none⟩), .bool false, .pointer (some ⟨g1, 0, none⟩), .pointer (some ⟨g2, 0, none⟩), .pointer (some ⟨g3, 0, none⟩), undef, undef, undef, .bool true, .bool false, .pointer (some ⟨W.heap.size, 0, none⟩), .int .i16 a, .pointer (some ⟨W.heap.size, 1, none⟩), .int .u8 b, .agg #[.bool f1.s, .slice f1.A f1.n f1.c, .slice f1.B f1.m f1.d], .pointer (some ⟨W.heap.size + 1, 0, none⟩), .int .i16 a2, .pointer (some ⟨W.heap.size + 1, 1, none⟩), .int .u8 b2, .agg #[.bool f2.s, .slice f2.A f2.n f2.c, .slice f2.B f2.m f2.d], .pointer (some ⟨W.heap.size + 1 + 1, 0, none⟩), .int .i16 a3, .pointer (some ⟨W.heap.size + 1 + 1, 1, none⟩), .int .u8 b3, .agg #[.bool f3.s, .slice f3.A f3.n f3.c, .slice f3.B f3.m f3.d], undef, undef, undef, undef, undef, undef, undef, undef, undef, undef, undef, undef, undef, undef, undef, undef, undef, undef, undef, undef, undef, undef, undef, undef, undef, undef, undef, undef, undef, undef, undef, undef, undef, undef, undef, undef, undef, undef, undef, undef, undef, undef, undef, undef, undef, undef, undef, undef, undef, undef, undef, undef, undef, undef, undef, undef, undef, undef, undef, undef, undef, undef, undef, undef, undef, undef, undef, undef, undef, undef, undef, undef, undef, undef, undef, undef, undef, undef, undef, undef, undef, undef, undef, undef, undef, undef, undef, undef, undef, undef, undef, undef, undef, undef, undef, undef, undef, undef, undef, undef, undef, undef, undef, undef, undef, undef, undef, undef, undef, undef, undef, undef, undef, undef, undef, undef, undef, undef, undef, undef], defers := [] } w from by
    intro f1 p1 q1 f2 p2 q2 f3 p3 q3 g1 g2 g3 w V F1 F2 F3 D12 D13 D23
    rw [← HG.out]
    refine wpAnyH_ready (rs := [19]) (by kernel_rfl) (by simp) ?_
    refine AllReadyH.cons (List.getElem?_toArray.trans rfl) (fun K hK => ?_) ?_
    · obtain ⟨b0, b1, b2, b3⟩ := V.out.box (.tail _ (.head _))
      obtain ⟨o0, o1, o2⟩ := V.out.open (.tail _ (.head _))
      have VN := V.out.set (.tail _ (.head _)) f2 [(g1, f1), (g2, f2), (g3, ⟨false, none, 0, 0, none, 0, 0⟩)] (List.forall_mem_cons.2 ⟨.inr ⟨(.head _), by show ¬ g1 = g2; omega⟩, List.forall_mem_cons.2 ⟨.inl rfl, List.forall_mem_cons.2 ⟨.inr ⟨(.tail _ (.tail _ (.head _))), by show ¬ g3 = g2; omega⟩, fun _ h => by simp at h⟩⟩⟩)
      go_simp
      refine hK.out _ _ VN.2.2 (fun hHeld => ?_)
      clear hK K
      try simp only [Act.put, List.setIfInBounds_toArray, List.set_cons_zero, List.set_cons_succ]
      rw [HG.out]
      exact st3_123_2.out f1 p1 q1 f2 p2 q2 f3 p3 q3 g1 g2 g3 _ (Lib.hid (VN)) F1 F2 F3 D12 D13 D23
    exact AllReadyH.nil)
  have st3_123_0 := Lib.hid (show ∀ (f1 : FB) (p1 q1 : Int) (f2 : FB) (p2 q2 : Int) (f3 : FB) (p3 q3 : Int) (g1 : Nat) (g2 : Nat) (g3 : Nat) (w : World) (V : Hid (BoxF w1 [(g1, ⟨false, none, 0, 0, none, 0, 0⟩), (g2, ⟨false, none, 0, 0, none, 0, 0⟩), (g3, ⟨false, none, 0, 0, none, 0, 0⟩)] [(.slice f3.A f3.n f3.c, p3), (.slice f3.B f3.m f3.d, q3), (.slice f2.A f2.n f2.c, p2), (.slice f2.B f2.m f2.d, q2), (.slice f1.A f1.n f1.c, p1), (.slice f1.B f1.m f1.d, q1)] w)) (F1 : Hid (Sz 2 f1.s p1 q1 ∧ (p1 = 0 → a = 0))) (F2 : Hid (Sz 2 f2.s p2 q2 ∧ (p2 = 0 → a2 = 0))) (F3 : Hid (Sz 2 f3.s p3 q3 ∧ (p3 = 0 → a3 = 0))) (D12 : ¬ g1 = g2) (D13 : ¬ g1 = g3) (D23 : ¬ g2 = g3), G 3 #[true, true, true, true, true, true, true, true, true, true, true, true, true, true, true, true, true, true, false, false, false] { tmps := #[.agg #[.int .i16 a, .int .u8 b], .agg #[.int .i16 a2, .int .u8 b2], .agg #[.int .i16 a3, .int .u8 b3], .pointer (some ⟨W.heap.size, 0, none⟩), .pointer (some ⟨W.heap.size + 1, 0, none⟩), .pointer (some ⟨W.heap.size + 1 + 1, 0, none⟩), .bool false, .pointer (some ⟨g1, 0, none⟩), .pointer (some ⟨g2, 0, none⟩), .pointer (some ⟨g3, 0, none⟩), undef, undef, undef, .bool true, .bool false, .pointer (some ⟨W.heap.size, 0, none⟩), .int .i16 a, .pointer (some ⟨W.heap.size, 1, none⟩), .int .u8 b, .agg #[.bool f1.s, .slice f1.A f1.n f1.c, .slice f1.B f1.m f1.d], .pointer (some ⟨W.heap.size + 1, 0, none⟩), .int .i16 a2, .pointer (some ⟨W.heap.size + 1, 1, none⟩), .int .u8 b2, .agg #[.bool f2.s, .slice f2.A f2.n f2.c, .slice f2.B f2.m f2.d], .pointer (some ⟨W.heap.size + 1 + 1, 0, none⟩), .int .i16 a3, .pointer (some ⟨W.heap.size + 1 + 1, 1, none⟩), .int .u8 b3, .agg #[.bool f3.s, .slice f3.A f3.n f3.c, .slice f3.B f3.m f3.d], undef, undef, undef, undef, undef, undef, undef, undef, undef, undef, undef, undef, undef, undef, undef, undef, undef, undef, undef, undef, undef, undef, undef, undef, undef, undef, undef, undef, undef, undef, undef, undef, undef, undef, undef, undef, undef, undef, undef, undef, undef, undef, undef, undef, undef, undef, undef, undef, undef, undef, undef, undef, undef, undef, undef, undef, undef, undef, undef, undef, undef, undef, undef, undef, undef, undef, undef, undef, undef, undef, undef, undef, undef, undef, undef, undef, undef, undef, undef, undef, undef, undef, undef, undef, undef, undef, undef, undef, undef, undef, undef, undef, undef, undef, undef, undef, undef, undef, undef, undef, undef, undef, undef, undef, undef, undef, undef, undef, undef, undef, undef, undef, undef, undef, undef, undef, undef, undef, undef, undef], defers := [] } w from by
    intro f1 p1 q1 f2 p2 q2 f3 p3 q3 g1 g2 g3 w V F1 F2 F3 D12 D13 D23
    rw [← HG.out]
    refine wpAnyH_ready (rs := [18]) (by kernel_rfl) (by simp) ?_
    refine AllReadyH.cons (List.getElem?_toArray.trans rfl) (fun K hK => ?_) ?_
    · obtain ⟨b0, b1, b2, b3⟩ := V.out.box (.head _)
      obtain ⟨o0, o1, o2⟩ := V.out.open (.head _)
      have VN := V.out.set (.head _) f1 [(g1, f1), (g2, ⟨false, none, 0, 0, none, 0, 0⟩), (g3, ⟨false, none, 0, 0, none, 0, 0⟩)] (List.forall_mem_cons.2 ⟨.inl rfl, List.forall_mem_cons.2 ⟨.inr ⟨(.tail _ (.head _)), by show ¬ g2 = g1; omega⟩, List.forall_mem_cons.2 ⟨.inr ⟨(.tail _ (.tail _ (.head _))), by show ¬ g3 = g1; omega⟩, fun _ h => by simp at h⟩⟩⟩)
      go_simp
      refine hK.out _ _ VN.2.2 (fun hHeld => ?_)
      clear hK K
      try simp only [Act.put, List.setIfInBounds_toArray, List.set_cons_zero, List.set_cons_succ]
      rw [HG.out]
      exact st3_123_1.out f1 p1 q1 f2 p2 q2 f3 p3 q3 g1 g2 g3 _ (Lib.hid (VN)) F1 F2 F3 D12 D13 D23
    exact AllReadyH.nil)
  have st2_123_0 := Lib.hid (show ∀ (f1 : FB) (p1 q1 : Int) (f2 : FB) (p2 q2 : Int) (g1 : Nat) (g2 : Nat) (g3 : Nat) (w : World) (V : Hid (BoxF w1 [(g1, ⟨false, none, 0, 0, none, 0, 0⟩), (g2, ⟨false, none, 0, 0, none, 0, 0⟩), (g3, ⟨false, none, 0, 0, none, 0, 0⟩)] [(.slice f2.A f2.n f2.c, p2), (.slice f2.B f2.m f2.d, q2), (.slice f1.A f1.n f1.c, p1), (.slice f1.B f1.m f1.d, q1)] w)) (F1 : Hid (Sz 2 f1.s p1 q1 ∧ (p1 = 0 → a = 0))) (F2 : Hid (Sz 2 f2.s p2 q2 ∧ (p2 = 0 → a2 = 0))) (D12 : ¬ g1 = g2) (D13 : ¬ g1 = g3) (D23 : ¬ g2 = g3), G 4 #[true, true, true, true, true, true, true, true, true, true, true, true, true, true, false, true, true, true, false, false, false] { tmps := #[.agg #[.int .i16 a, .int .u8 b], .agg #[.int .i16 a2, .int .u8 b2], .agg #[.int .i16 a3, .int .u8 b3], .pointer (some ⟨W.heap.size, 0, none⟩), .pointer (some ⟨W.heap.size + 1, 0, none⟩), .pointer (some ⟨W.heap.size + 1 + 1, 0, none⟩), .bool false, .pointer (some ⟨g1, 0, none⟩), .pointer (some ⟨g2, 0, none⟩), .pointer (some ⟨g3, 0, none⟩), undef, undef, undef, .bool true, .bool false, .pointer (some ⟨W.heap.size, 0, none⟩), .int .i16 a, .pointer (some ⟨W.heap.size, 1, none⟩), .int .u8 b, .agg #[.bool f1.s, .slice f1.A f1.n f1.c, .slice f1.B f1.m f1.d], .pointer (some ⟨W.heap.size + 1, 0, none⟩), .int .i16 a2, .pointer (some ⟨W.heap.size + 1, 1, none⟩), .int .u8 b2, .agg #[.bool f2.s, .slice f2.A f2.n f2.c, .slice f2.B f2.m f2.d], .pointer (some ⟨W.heap.size + 1 + 1, 0, none⟩), .int .i16 a3, .pointer (some ⟨W.heap.size + 1 + 1, 1, none⟩), .int .u8 b3, undef, undef, undef, undef, undef, undef, undef, undef, undef, undef, undef, undef, undef, undef, undef, undef, undef, undef, undef, undef, undef, undef, undef, undef, undef, undef, undef, undef, undef, undef, undef, undef, undef, undef, undef, undef, undef, undef, undef, undef, undef, undef, undef, undef, undef, undef, undef, undef, undef, undef, undef, undef, undef, undef, undef, undef, undef, undef, undef, undef, undef, undef, undef, undef, undef, undef, undef, undef, undef, undef, undef, undef, undef, undef, undef, undef, undef, undef, undef, undef, undef, undef, undef, undef, undef, undef, undef, undef, undef, undef, undef, undef, undef, undef, undef, undef, undef, undef, undef, undef, undef, undef, undef, undef, undef, undef, undef, undef, undef, undef, undef, undef, undef, undef, undef, undef, undef, undef, undef, undef, undef], defers := [] } w from by
    intro f1 p1 q1 f2 p2 q2 g1 g2 g3 w V F1 F2 D12 D13 D23
    rw [← HG.out]
    refine wpAnyH_ready (rs := [14]) (by kernel_rfl) (by simp) ?_
    refine AllReadyH.cons (List.getElem?_toArray.trans rfl) (fun K hK => ?_) ?_
    · go_simp
      refine (rmade_any a3 b3 _ he he2 hf hf2).mono ?_
      rintro e wn ⟨s, p, q, Ax, cx, kx, Bx, dx, lx, rfl, nx, mx, zx, ex, bx⟩
      try go_wp2_with fail
      have VN := ((V.out.go bx).num mx).num nx
      refine hK.out _ _ VN.2.2 (fun hHeld => ?_)
      clear hK K
      try simp only [Act.put, List.setIfInBounds_toArray, List.set_cons_zero, List.set_cons_succ]
      rw [HG.out]
      exact st3_123_0.out f1 p1 q1 f2 p2 q2 ⟨s, Ax, kx, cx, Bx, lx, dx⟩ p q g1 g2 g3 _ (Lib.hid (VN)) F1 F2 (Lib.hid ⟨zx, ex⟩) D12 D13 D23
    exact AllReadyH.nil)
  have st3_12_0 := Lib.hid (show ∀ (f1 : FB) (p1 q1 : Int) (f2 : FB) (p2 q2 : Int) (f3 : FB) (p3 q3 : Int) (g1 : Nat) (g2 : Nat) (w : World) (V : Hid (BoxF w1 [(g1, ⟨false, none, 0, 0, none, 0, 0⟩), (g2, ⟨false, none, 0, 0, none, 0, 0⟩)] [(.slice f3.A f3.n f3.c, p3), (.slice f3.B f3.m f3.d, q3), (.slice f2.A f2.n f2.c, p2), (.slice f2.B f2.m f2.d, q2), (.slice f1.A f1.n f1.c, p1), (.slice f1.B f1.m f1.d, q1)] w)) (F1 : Hid (Sz 2 f1.s p1 q1 ∧ (p1 = 0 → a = 0))) (F2 : Hid (Sz 2 f2.s p2 q2 ∧ (p2 = 0 → a2 = 0))) (F3 : Hid (Sz 2 f3.s p3 q3 ∧ (p3 = 0 → a3 = 0))) (D12 : ¬ g1 = g2), G 4 #[true, true, true, true, true, true, true, true, true, true, true, true, true, true, true, true, true, false, false, false, false] { tmps := #[.agg #[.int .i16 a, .int .u8 b], .agg #[.int .i16 a2, .int .u8 b2], .agg #[.int .i16 a3, .int .u8 b3], .pointer (some ⟨W.heap.size, 0, none⟩), .pointer (some ⟨W.heap.size + 1, 0, none⟩), .pointer (some ⟨W.heap.size + 1 + 1, 0, none⟩), .bool false, .pointer (some ⟨g1, 0, none⟩), .pointer (some ⟨g2, 0, none⟩), undef, undef, undef, undef, .bool true, .bool false, .pointer (some ⟨W.heap.size, 0, none⟩), .int .i16 a, .pointer (some ⟨W.heap.size, 1, none⟩), .int .u8 b, .agg #[.bool f1.s, .slice f1.A f1.n f1.c, .slice f1.B f1.m f1.d], .pointer (some ⟨W.heap.size + 1, 0, none⟩), .int .i16 a2, .pointer (some ⟨W.heap.size + 1, 1, none⟩), .int .u8 b2, .agg #[.bool f2.s, .slice f2.A f2.n f2.c, .slice f2.B f2.m f2.d], .pointer (some ⟨W.heap.size + 1 + 1, 0, none⟩), .int .i16 a3, .pointer (some ⟨W.heap.size + 1 + 1, 1, none⟩), .int .u8 b3, .agg #[.bool f3.s, .slice f3.A f3.n f3.c, .slice f3.B f3.m f3.d], undef, undef, undef, undef, undef, undef, undef, undef, undef, undef, undef, undef, undef, undef, undef, undef, undef, undef, undef, undef, undef, undef, undef, undef, undef, undef, undef, undef, undef, undef, undef, undef, undef, undef, undef, undef, undef, undef, undef, undef, undef, undef, undef, undef, undef, undef, undef, undef, undef, undef, undef, undef, undef, undef, undef, undef, undef, undef, undef, undef, undef, undef, undef, undef, undef, undef, undef, undef, undef, undef, undef, undef, undef, undef, undef, undef, undef, undef, undef, undef, undef, undef, undef, undef, undef, undef, undef, undef, undef, undef, undef, undef, undef, undef, undef, undef, undef, undef, undef, undef, undef, undef, undef, undef, undef, undef, undef, undef, undef, undef, undef, undef, undef, undef, undef, undef, undef, undef, undef, undef], defers := [] } w from by
    intro f1 p1 q1 f2 p2 q2 f3 p3 q3 g1 g2 w V F1 F2 F3 D12
    rw [← HG.out]
    refine wpAnyH_ready (rs := [17]) (by kernel_rfl) (by simp) ?_
    refine AllReadyH.cons (List.getElem?_toArray.trans rfl) (fun K hK => ?_) ?_
    · go_simp
      have VN := V.out.new false none 0 0 none 0 0
      refine hK.out _ _ VN.2.2 (fun hHeld => ?_)
      have L1 := (V.out.lt (.head _)).2
      have L2 := (V.out.lt (.tail _ (.head _))).2
      clear hK K
      try simp only [Act.put, List.setIfInBounds_toArray, List.set_cons_zero, List.set_cons_succ]
      rw [HG.out]
      exact st3_123_0.out f1 p1 q1 f2 p2 q2 f3 p3 q3 g1 g2 w.heap.size _ (Lib.hid (VN.sub (List.forall_mem_cons.2 ⟨(.tail _ (.head _)), List.forall_mem_cons.2 ⟨(.tail _ (.tail _ (.head _))), List.forall_mem_cons.2 ⟨(.head _), fun _ h => by simp at h⟩⟩⟩) (fun _ h => h))) F1 F2 F3 D12 (by omega) (by omega)
    exact AllReadyH.nil)
  have st3_13_0 := Lib.hid (show ∀ (f1 : FB) (p1 q1 : Int) (f2 : FB) (p2 q2 : Int) (f3 : FB) (p3 q3 : Int) (g1 : Nat) (g3 : Nat) (w : World) (V : Hid (BoxF w1 [(g1, ⟨false, none, 0, 0, none, 0, 0⟩), (g3, ⟨false, none, 0, 0, none, 0, 0⟩)] [(.slice f3.A f3.n f3.c, p3), (.slice f3.B f3.m f3.d, q3), (.slice f2.A f2.n f2.c, p2), (.slice f2.B f2.m f2.d, q2), (.slice f1.A f1.n f1.c, p1), (.slice f1.B f1.m f1.d, q1)] w)) (F1 : Hid (Sz 2 f1.s p1 q1 ∧ (p1 = 0 → a = 0))) (F2 : Hid (Sz 2 f2.s p2 q2 ∧ (p2 = 0 → a2 = 0))) (F3 : Hid (Sz 2 f3.s p3 q3 ∧ (p3 = 0 → a3 = 0))) (D13 : ¬ g1 = g3), G 4 #[true, true, true, true, true, true, true, true, true, true, true, true, true, true, true, true, false, true, false, false, false] { tmps := #[.agg #[.int .i16 a, .int .u8 b], .agg #[.int .i16 a2, .int .u8 b2], .agg #[.int .i16 a3, .int .u8 b3], .pointer (some ⟨W.heap.size, 0, none⟩), .pointer (some ⟨W.heap.size + 1, 0, none⟩), .pointer (some ⟨W.heap.size + 1 + 1, 0, none⟩), .bool false, .pointer (some ⟨g1, 0, none⟩), undef, .pointer (some ⟨g3, 0, none⟩), undef, undef, undef, .bool true, .bool false, .pointer (some ⟨W.heap.size, 0, none⟩), .int .i16 a, .pointer (some ⟨W.heap.size, 1, none⟩), .int .u8 b, .agg #[.bool f1.s, .slice f1.A f1.n f1.c, .slice f1.B f1.m f1.d], .pointer (some ⟨W.heap.size + 1, 0, none⟩), .int .i16 a2, .pointer (some ⟨W.heap.size + 1, 1, none⟩), .int .u8 b2, .agg #[.bool f2.s, .slice f2.A f2.n f2.c, .slice f2.B f2.m f2.d], .pointer (some ⟨W.heap.size + 1 + 1, 0, none⟩), .int .i16 a3, .pointer (some ⟨W.heap.size + 1 + 1, 1, none⟩), .int .u8 b3, .agg #[.bool f3.s, .slice f3.A f3.n f3.c, .slice f3.B f3.m f3.d], undef, undef, undef, undef, undef, undef, undef, undef, undef, undef, undef, undef, undef, undef, undef, undef, undef, undef, undef, undef, undef, undef, undef, undef, undef, undef, undef, undef, undef, undef, undef, undef, undef, undef, undef, undef, undef, undef, undef, undef, undef, undef, undef, undef, undef, undef, undef, undef, undef, undef, undef, undef, undef, undef, undef, undef, undef, undef, undef, undef, undef, undef, undef, undef, undef, undef, undef, undef, undef, undef, undef, undef, undef, undef, undef, undef, undef, undef, undef, undef, undef, undef, undef, undef, undef, undef, undef, undef, undef, undef, undef, undef, undef, undef, undef, undef, undef, undef, undef, undef, undef, undef, undef, undef, undef, undef, undef, undef, undef, undef, undef, undef, undef, undef, undef, undef, undef, undef, undef, undef], defers := [] } w from by
    intro f1 p1 q1 f2 p2 q2 f3 p3 q3 g1 g3 w V F1 F2 F3 D13
    rw [← HG.out]
    refine wpAnyH_ready (rs := [16]) (by kernel_rfl) (by simp) ?_
    refine AllReadyH.cons (List.getElem?_toArray.trans rfl) (fun K hK => ?_) ?_
    · go_simp
      have VN := V.out.new false none 0 0 none 0 0
      refine hK.out _ _ VN.2.2 (fun hHeld => ?_)
      have L1 := (V.out.lt (.head _)).2
      have L3 := (V.out.lt (.tail _ (.head _))).2
      clear hK K
      try simp only [Act.put, List.setIfInBounds_toArray, List.set_cons_zero, List.set_cons_succ]
      rw [HG.out]
      exact st3_123_0.out f1 p1 q1 f2 p2 q2 f3 p3 q3 g1 w.heap.size g3 _ (Lib.hid (VN.sub (List.forall_mem_cons.2 ⟨(.tail _ (.head _)), List.forall_mem_cons.2 ⟨(.head _), List.forall_mem_cons.2 ⟨(.tail _ (.tail _ (.head _))), fun _ h => by simp at h⟩⟩⟩) (fun _ h => h))) F1 F2 F3 (by omega) D13 (by omega)
    exact AllReadyH.nil)
  have st3_23_0 := Lib.hid (show ∀ (f1 : FB) (p1 q1 : Int) (f2 : FB) (p2 q2 : Int) (f3 : FB) (p3 q3 : Int) (g2 : Nat) (g3 : Nat) (w : World) (V : Hid (BoxF w1 [(g2, ⟨false, none, 0, 0, none, 0, 0⟩), (g3, ⟨false, none, 0, 0, none, 0, 0⟩)] [(.slice f3.A f3.n f3.c, p3), (.slice f3.B f3.m f3.d, q3), (.slice f2.A f2.n f2.c, p2), (.slice f2.B f2.m f2.d, q2), (.slice f1.A f1.n f1.c, p1), (.slice f1.B f1.m f1.d, q1)] w)) (F1 : Hid (Sz 2 f1.s p1 q1 ∧ (p1 = 0 → a = 0))) (F2 : Hid (Sz 2 f2.s p2 q2 ∧ (p2 = 0 → a2 = 0))) (F3 : Hid (Sz 2 f3.s p3 q3 ∧ (p3 = 0 → a3 = 0))) (D23 : ¬ g2 = g3), G 4 #[true, true, true, true, true, true, true, true, true, true, true, true, true, true, true, false, true, true, false, false, false] { tmps := #[.agg #[.int .i16 a, .int .u8 b], .agg #[.int .i16 a2, .int .u8 b2], .agg #[.int .i16 a3, .int .u8 b3], .pointer (some ⟨W.heap.size, 0, none⟩), .pointer (some ⟨W.heap.size + 1, 0, none⟩), .pointer (some ⟨W.heap.size + 1 + 1, 0, none⟩), .bool false, undef, .pointer (some ⟨g2, 0, none⟩), .pointer (some ⟨g3, 0, none⟩), undef, undef, undef, .bool true, .bool false, .pointer (some ⟨W.heap.size, 0, none⟩), .int .i16 a, .pointer (some ⟨W.heap.size, 1, none⟩), .int .u8 b, .agg #[.bool f1.s, .slice f1.A f1.n f1.c, .slice f1.B f1.m f1.d], .pointer (some ⟨W.heap.size + 1, 0, none⟩), .int .i16 a2, .pointer (some ⟨W.heap.size + 1, 1, none⟩), .int .u8 b2, .agg #[.bool f2.s, .slice f2.A f2.n f2.c, .slice f2.B f2.m f2.d], .pointer (some ⟨W.heap.size + 1 + 1, 0, none⟩), .int .i16 a3, .pointer (some ⟨W.heap.size + 1 + 1, 1, none⟩), .int .u8 b3, .agg #[.bool f3.s, .slice f3.A f3.n f3.c, .slice f3.B f3.m f3.d], undef, undef, undef, undef, undef, undef, undef, undef, undef, undef, undef, undef, undef, undef, undef, undef, undef, undef, undef, undef, undef, undef, undef, undef, undef, undef, undef, undef, undef, undef, undef, undef, undef, undef, undef, undef, undef, undef, undef, undef, undef, undef, undef, undef, undef, undef, undef, undef, undef, undef, undef, undef, undef, undef, undef, undef, undef, undef, undef, undef, undef, undef, undef, undef, undef, undef, undef, undef, undef, undef, undef, undef, undef, undef, undef, undef, undef, undef, undef, undef, undef, undef, undef, undef, undef, undef, undef, undef, undef, undef, undef, undef, undef, undef, undef, undef, undef, undef, undef, undef, undef, undef, undef, undef, undef, undef, undef, undef, undef, undef, undef, undef, undef, undef, undef, undef, undef, undef, undef, undef], defers := [] } w from by
    intro f1 p1 q1 f2 p2 q2 f3 p3 q3 g2 g3 w V F1 F2 F3 D23
    rw [← HG.out]
    refine wpAnyH_ready (rs := [15]) (by kernel_rfl) (by simp) ?_
    refine AllReadyH.cons (List.getElem?_toArray.trans rfl) (fun K hK => ?_) ?_
    · go_simp
      have VN := V.out.new false none 0 0 none 0 0
      refine hK.out _ _ VN.2.2 (fun hHeld => ?_)
      have L2 := (V.out.lt (.head _)).2
      have L3 := (V.out.lt (.tail _ (.head _))).2
      clear hK K
      try simp only [Act.put, List.setIfInBounds_toArray, List.set_cons_zero, List.set_cons_succ]
      rw [HG.out]
      exact st3_123_0.out f1 p1 q1 f2 p2 q2 f3 p3 q3 w.heap.size g2 g3 _ (Lib.hid (VN.sub (List.forall_mem_cons.2 ⟨(.head _), List.forall_mem_cons.2 ⟨(.tail _ (.head _)), List.forall_mem_cons.2 ⟨(.tail _ (.tail _ (.head _))), fun _ h => by simp at h⟩⟩⟩) (fun _ h => h))) F1 F2 F3 (by omega) (by omega) D23
    exact AllReadyH.nil)
  have st1_123_0 := Lib.hid (show ∀ (f1 : FB) (p1 q1 : Int) (g1 : Nat) (g2 : Nat) (g3 : Nat) (w : World) (V : Hid (BoxF w1 [(g1, ⟨false, none, 0, 0, none, 0, 0⟩), (g2, ⟨false, none, 0, 0, none, 0, 0⟩), (g3, ⟨false, none, 0, 0, none, 0, 0⟩)] [(.slice f1.A f1.n f1.c, p1), (.slice f1.B f1.m f1.d, q1)] w)) (F1 : Hid (Sz 2 f1.s p1 q1 ∧ (p1 = 0 → a = 0))) (D12 : ¬ g1 = g2) (D13 : ¬ g1 = g3) (D23 : ¬ g2 = g3), G 5 #[true, true, true, true, true, true, true, true, true, false, true, true, true, true, false, true, true, true, false, false, false] { tmps := #[.agg #[.int .i16 a, .int .u8 b], .agg #[.int .i16 a2, .int .u8 b2], .agg #[.int .i16 a3, .int .u8 b3], .pointer (some ⟨W.heap.size, 0, none⟩), .pointer (some ⟨W.heap.size + 1, 0, none⟩), .pointer (some ⟨W.heap.size + 1 + 1, 0, none⟩), .bool false, .pointer (some ⟨g1, 0, none⟩), .pointer (some ⟨g2, 0, none⟩), .pointer (some ⟨g3, 0, none⟩), undef, undef, undef, .bool true, .bool false, .pointer (some ⟨W.heap.size, 0, none⟩), .int .i16 a, .pointer (some ⟨W.heap.size, 1, none⟩), .int .u8 b, .agg #[.bool f1.s, .slice f1.A f1.n f1.c, .slice f1.B f1.m f1.d], .pointer (some ⟨W.heap.size + 1, 0, none⟩), .int .i16 a2, .pointer (some ⟨W.heap.size + 1, 1, none⟩), .int .u8 b2, undef, .pointer (some ⟨W.heap.size + 1 + 1, 0, none⟩), .int .i16 a3, .pointer (some ⟨W.heap.size + 1 + 1, 1, none⟩), .int .u8 b3, undef, undef, undef, undef, undef, undef, undef, undef, undef, undef, undef, undef, undef, undef, undef, undef, undef, undef, undef, undef, undef, undef, undef, undef, undef, undef, undef, undef, undef, undef, undef, undef, undef, undef, undef, undef, undef, undef, undef, undef, undef, undef, undef, undef, undef, undef, undef, undef, undef, undef, undef, undef, undef, undef, undef, undef, undef, undef, undef, undef, undef, undef, undef, undef, undef, undef, undef, undef, undef, undef, undef, undef, undef, undef, undef, undef, undef, undef, undef, undef, undef, undef, undef, undef, undef, undef, undef, undef, undef, undef, undef, undef, undef, undef, undef, undef, undef, undef, undef, undef, undef, undef, undef, undef, undef, undef, undef, undef, undef, undef, undef, undef, undef, undef, undef, undef, undef, undef, undef, undef, undef], defers := [] } w from by
    intro f1 p1 q1 g1 g2 g3 w V F1 D12 D13 D23
    rw [← HG.out]
    refine wpAnyH_ready (rs := [9]) (by kernel_rfl) (by simp) ?_
    refine AllReadyH.cons (List.getElem?_toArray.trans rfl) (fun K hK => ?_) ?_
    · go_simp
      refine (rmade_any a2 b2 _ hc hc2 hd hd2).mono ?_
      rintro e wn ⟨s, p, q, Ax, cx, kx, Bx, dx, lx, rfl, nx, mx, zx, ex, bx⟩
      try go_wp2_with fail
      have VN := ((V.out.go bx).num mx).num nx
      refine hK.out _ _ VN.2.2 (fun hHeld => ?_)
      clear hK K
      try simp only [Act.put, List.setIfInBounds_toArray, List.set_cons_zero, List.set_cons_succ]
      rw [HG.out]
      exact st2_123_0.out f1 p1 q1 ⟨s, Ax, kx, cx, Bx, lx, dx⟩ p q g1 g2 g3 _ (Lib.hid (VN)) F1 (Lib.hid ⟨zx, ex⟩) D12 D13 D23
    exact AllReadyH.nil)
  have st2_12_0 := Lib.hid (show ∀ (f1 : FB) (p1 q1 : Int) (f2 : FB) (p2 q2 : Int) (g1 : Nat) (g2 : Nat) (w : World) (V : Hid (BoxF w1 [(g1, ⟨false, none, 0, 0, none, 0, 0⟩), (g2, ⟨false, none, 0, 0, none, 0, 0⟩)] [(.slice f2.A f2.n f2.c, p2), (.slice f2.B f2.m f2.d, q2), (.slice f1.A f1.n f1.c, p1), (.slice f1.B f1.m f1.d, q1)] w)) (F1 : Hid (Sz 2 f1.s p1 q1 ∧ (p1 = 0 → a = 0))) (F2 : Hid (Sz 2 f2.s p2 q2 ∧ (p2 = 0 → a2 = 0))) (D12 : ¬ g1 = g2), G 5 #[true, true, true, true, true, true, true, true, true, true, true, true, true, true, false, true, true, false, false, false, false] { tmps := #[.agg #[.int .i16 a, .int .u8 b], .agg #[.int .i16 a2, .int .u8 b2], .agg #[.int .i16 a3, .int .u8 b3], .pointer (some ⟨W.heap.size, 0, none⟩), .pointer (some ⟨W.heap.size + 1, 0, none⟩), .pointer (some ⟨W.heap.size + 1 + 1, 0, none⟩), .bool false, .pointer (some ⟨g1, 0, none⟩), .pointer (some ⟨g2, 0, none⟩), undef, undef, undef, undef, .bool true, .bool false, .pointer (some ⟨W.heap.size, 0, none⟩), .int .i16 a, .pointer (some ⟨W.heap.size, 1, none⟩), .int .u8 b, .agg #[.bool f1.s, .slice f1.A f1.n f1.c, .slice f1.B f1.m f1.d], .pointer (some ⟨W.heap.size + 1, 0, none⟩), .int .i16 a2, .pointer (some ⟨W.heap.size + 1, 1, none⟩), .int .u8 b2, .agg #[.bool f2.s, .slice f2.A f2.n f2.c, .slice f2.B f2.m f2.d], .pointer (some ⟨W.heap.size + 1 + 1, 0, none⟩), .int .i16 a3, .pointer (some ⟨W.heap.size + 1 + 1, 1, none⟩), .int .u8 b3, undef, undef, undef, undef, undef, undef, undef, undef, undef, undef, undef, undef, undef, undef, undef, undef, undef, undef, undef, undef, undef, undef, undef, undef, undef, undef, undef, undef, undef, undef, undef, undef, undef, undef, undef, undef, undef, undef, undef, undef, undef, undef, undef, undef, undef, undef, undef, undef, undef, undef, undef, undef, undef, undef, undef, undef, undef, undef, undef, undef, undef, undef, undef, undef, undef, undef, undef, undef, undef, undef, undef, undef, undef, undef, undef, undef, undef, undef, undef, undef, undef, undef, undef, undef, undef, undef, undef, undef, undef, undef, undef, undef, undef, undef, undef, undef, undef, undef, undef, undef, undef, undef, undef, undef, undef, undef, undef, undef, undef, undef, undef, undef, undef, undef, undef, undef, undef, undef, undef, undef, undef], defers := [] } w from by
    intro f1 p1 q1 f2 p2 q2 g1 g2 w V F1 F2 D12
    rw [← HG.out]
    refine wpAnyH_ready (rs := [14, 17]) (by kernel_rfl) (by simp) ?_
    refine AllReadyH.cons (List.getElem?_toArray.trans rfl) (fun K hK => ?_) ?_
    · go_simp
      refine (rmade_any a3 b3 _ he he2 hf hf2).mono ?_
      rintro e wn ⟨s, p, q, Ax, cx, kx, Bx, dx, lx, rfl, nx, mx, zx, ex, bx⟩
      try go_wp2_with fail
      have VN := ((V.out.go bx).num mx).num nx
      refine hK.out _ _ VN.2.2 (fun hHeld => ?_)
      clear hK K
      try simp only [Act.put, List.setIfInBounds_toArray, List.set_cons_zero, List.set_cons_succ]
      rw [HG.out]
      exact st3_12_0.out f1 p1 q1 f2 p2 q2 ⟨s, Ax, kx, cx, Bx, lx, dx⟩ p q g1 g2 _ (Lib.hid (VN)) F1 F2 (Lib.hid ⟨zx, ex⟩) D12
    refine AllReadyH.cons (List.getElem?_toArray.trans rfl) (fun K hK => ?_) ?_
    · go_simp
      have VN := V.out.new false none 0 0 none 0 0
      refine hK.out _ _ VN.2.2 (fun hHeld => ?_)
      have L1 := (V.out.lt (.head _)).2
      have L2 := (V.out.lt (.tail _ (.head _))).2
      clear hK K
      try simp only [Act.put, List.setIfInBounds_toArray, List.set_cons_zero, List.set_cons_succ]
      rw [HG.out]
      exact st2_123_0.out f1 p1 q1 f2 p2 q2 g1 g2 w.heap.size _ (Lib.hid (VN.sub (List.forall_mem_cons.2 ⟨(.tail _ (.head _)), List.forall_mem_cons.2 ⟨(.tail _ (.tail _ (.head _))), List.forall_mem_cons.2 ⟨(.head _), fun _ h => by simp at h⟩⟩⟩) (fun _ h => h))) F1 F2 D12 (by omega) (by omega)
    exact AllReadyH.nil)
  have st2_13_0 := Lib.hid (show ∀ (f1 : FB) (p1 q1 : Int) (f2 : FB) (p2 q2 : Int) (g1 : Nat) (g3 : Nat) (w : World) (V : Hid (BoxF w1 [(g1, ⟨false, none, 0, 0, none, 0, 0⟩), (g3, ⟨false, none, 0, 0, none, 0, 0⟩)] [(.slice f2.A f2.n f2.c, p2), (.slice f2.B f2.m f2.d, q2), (.slice f1.A f1.n f1.c, p1), (.slice f1.B f1.m f1.d, q1)] w)) (F1 : Hid (Sz 2 f1.s p1 q1 ∧ (p1 = 0 → a = 0))) (F2 : Hid (Sz 2 f2.s p2 q2 ∧ (p2 = 0 → a2 = 0))) (D13 : ¬ g1 = g3), G 5 #[true, true, true, true, true, true, true, true, true, true, true, true, true, true, false, true, false, true, false, false, false] { tmps := #[.agg #[.int .i16 a, .int .u8 b], .agg #[.int .i16 a2, .int .u8 b2], .agg #[.int .i16 a3, .int .u8 b3], .pointer (some ⟨W.heap.size, 0, none⟩), .pointer (some ⟨W.heap.size + 1, 0, none⟩), .pointer (some ⟨W.heap.size + 1 + 1, 0, none⟩), .bool false, .pointer (some ⟨g1, 0, none⟩), undef, .pointer (some ⟨g3, 0, none⟩), undef, undef, undef, .bool true, .bool false, .pointer (some ⟨W.heap.size, 0, none⟩), .int .i16 a, .pointer (some ⟨W.heap.size, 1, none⟩), .int .u8 b, .agg #[.bool f1.s, .slice f1.A f1.n f1.c, .slice f1.B f1.m f1.d], .pointer (some ⟨W.heap.size + 1, 0, none⟩), .int .i16 a2, .pointer (some ⟨W.heap.size + 1, 1, none⟩), .int .u8 b2, .agg #[.bool f2.s, .slice f2.A f2.n f2.c, .slice f2.B f2.m f2.d], .pointer (some ⟨W.heap.size + 1 + 1, 0, none⟩), .int .i16 a3, .pointer (some ⟨W.heap.size + 1 + 1, 1, none⟩), .int .u8 b3, undef, undef, undef, undef, undef, undef, undef, undef, undef, undef, undef, undef, undef, undef, undef, undef, undef, undef, undef, undef, undef, undef, undef, undef, undef, undef, undef, undef, undef, undef, undef, undef, undef, undef, undef, undef, undef, undef, undef, undef, undef, undef, undef, undef, undef, undef, undef, undef, undef, undef, undef, undef, undef, undef, undef, undef, undef, undef, undef, undef, undef, undef, undef, undef, undef, undef, undef, undef, undef, undef, undef, undef, undef, undef, undef, undef, undef, undef, undef, undef, undef, undef, undef, undef, undef, undef, undef, undef, undef, undef, undef, undef, undef, undef, undef, undef, undef, undef, undef, undef, undef, undef, undef, undef, undef, undef, undef, undef, undef, undef, undef, undef, undef, undef, undef, undef, undef, undef, undef, undef, undef], defers := [] } w from by
    intro f1 p1 q1 f2 p2 q2 g1 g3 w V F1 F2 D13
    rw [← HG.out]
    refine wpAnyH_ready (rs := [14, 16]) (by kernel_rfl) (by simp) ?_
    refine AllReadyH.cons (List.getElem?_toArray.trans rfl) (fun K hK => ?_) ?_
    · go_simp
      refine (rmade_any a3 b3 _ he he2 hf hf2).mono ?_
      rintro e wn ⟨s, p, q, Ax, cx, kx, Bx, dx, lx, rfl, nx, mx, zx, ex, bx⟩
      try go_wp2_with fail
      have VN := ((V.out.go bx).num mx).num nx
      refine hK.out _ _ VN.2.2 (fun hHeld => ?_)
      clear hK K
      try simp only [Act.put, List.setIfInBounds_toArray, List.set_cons_zero, List.set_cons_succ]
      rw [HG.out]
      exact st3_13_0.out f1 p1 q1 f2 p2 q2 ⟨s, Ax, kx, cx, Bx, lx, dx⟩ p q g1 g3 _ (Lib.hid (VN)) F1 F2 (Lib.hid ⟨zx, ex⟩) D13
    refine AllReadyH.cons (List.getElem?_toArray.trans rfl) (fun K hK => ?_) ?_
    · go_simp
      have VN := V.out.new false none 0 0 none 0 0
      refine hK.out _ _ VN.2.2 (fun hHeld => ?_)
      have L1 := (V.out.lt (.head _)).2
      have L3 := (V.out.lt (.tail _ (.head _))).2
      clear hK K
      try simp only [Act.put, List.setIfInBounds_toArray, List.set_cons_zero, List.set_cons_succ]
      rw [HG.out]
      exact st2_123_0.out f1 p1 q1 f2 p2 q2 g1 w.heap.size g3 _ (Lib.hid (VN.sub (List.forall_mem_cons.2 ⟨(.tail _ (.head _)), List.forall_mem_cons.2 ⟨(.head _), List.forall_mem_cons.2 ⟨(.tail _ (.tail _ (.head _))), fun _ h => by simp at h⟩⟩⟩) (fun _ h => h))) F1 F2 (by omega) D13 (by omega)
    exact AllReadyH.nil)
  have st2_23_0 := Lib.hid (show ∀ (f1 : FB) (p1 q1 : Int) (f2 : FB) (p2 q2 : Int) (g2 : Nat) (g3 : Nat) (w : World) (V : Hid (BoxF w1 [(g2, ⟨false, none, 0, 0, none, 0, 0⟩), (g3, ⟨false, none, 0, 0, none, 0, 0⟩)] [(.slice f2.A f2.n f2.c, p2), (.slice f2.B f2.m f2.d, q2), (.slice f1.A f1.n f1.c, p1), (.slice f1.B f1.m f1.d, q1)] w)) (F1 : Hid (Sz 2 f1.s p1 q1 ∧ (p1 = 0 → a = 0))) (F2 : Hid (Sz 2 f2.s p2 q2 ∧ (p2 = 0 → a2 = 0))) (D23 : ¬ g2 = g3), G 5 #[true, true, true, true, true, true, true, true, true, true, true, true, true, true, false, false, true, true, false, false, false] { tmps := #[.agg #[.int .i16 a, .int .u8 b], .agg #[.int .i16 a2, .int .u8 b2], .agg #[.int .i16 a3, .int .u8 b3], .pointer (some ⟨W.heap.size, 0, none⟩), .pointer (some ⟨W.heap.size + 1, 0, none⟩), .pointer (some ⟨W.heap.size + 1 + 1, 0, none⟩), .bool false, undef, .pointer (some ⟨g2, 0, none⟩), .pointer (some ⟨g3, 0, none⟩), undef, undef, undef, .bool true, .bool false, .pointer (some ⟨W.heap.size, 0, none⟩), .int .i16 a, .pointer (some ⟨W.heap.size, 1, none⟩), .int .u8 b, .agg #[.bool f1.s, .slice f1.A f1.n f1.c, .slice f1.B f1.m f1.d], .pointer (some ⟨W.heap.size + 1, 0, none⟩), .int .i16 a2, .pointer (some ⟨W.heap.size + 1, 1, none⟩), .int .u8 b2, .agg #[.bool f2.s, .slice f2.A f2.n f2.c, .slice f2.B f2.m f2.d], .pointer (some ⟨W.heap.size + 1 + 1, 0, none⟩), .int .i16 a3, .pointer (some ⟨W.heap.size + 1 + 1, 1, none⟩), .int .u8 b3, undef, undef, undef, undef, undef, undef, undef, undef, undef, undef, undef, undef, undef, undef, undef, undef, undef, undef, undef, undef, undef, undef, undef, undef, undef, undef, undef, undef, undef, undef, undef, undef, undef, undef, undef, undef, undef, undef, undef, undef, undef, undef, undef, undef, undef, undef, undef, undef, undef, undef, undef, undef, undef, undef, undef, undef, undef, undef, undef, undef, undef, undef, undef, undef, undef, undef, undef, undef, undef, undef, undef, undef, undef, undef, undef, undef, undef, undef, undef, undef, undef, undef, undef, undef, undef, undef, undef, undef, undef, undef, undef, undef, undef, undef, undef, undef, undef, undef, undef, undef, undef, undef, undef, undef, undef, undef, undef, undef, undef, undef, undef, undef, undef, undef, undef, undef, undef, undef, undef, undef, undef], defers := [] } w from by
    intro f1 p1 q1 f2 p2 q2 g2 g3 w V F1 F2 D23
    rw [← HG.out]
    refine wpAnyH_ready (rs := [14, 15]) (by kernel_rfl) (by simp) ?_
    refine AllReadyH.cons (List.getElem?_toArray.trans rfl) (fun K hK => ?_) ?_
    · go_simp
      refine (rmade_any a3 b3 _ he he2 hf hf2).mono ?_
      rintro e wn ⟨s, p, q, Ax, cx, kx, Bx, dx, lx, rfl, nx, mx, zx, ex, bx⟩
      try go_wp2_with fail
      have VN := ((V.out.go bx).num mx).num nx
      refine hK.out _ _ VN.2.2 (fun hHeld => ?_)
      clear hK K
      try simp only [Act.put, List.setIfInBounds_toArray, List.set_cons_zero, List.set_cons_succ]
      rw [HG.out]
      exact st3_23_0.out f1 p1 q1 f2 p2 q2 ⟨s, Ax, kx, cx, Bx, lx, dx⟩ p q g2 g3 _ (Lib.hid (VN)) F1 F2 (Lib.hid ⟨zx, ex⟩) D23
    refine AllReadyH.cons (List.getElem?_toArray.trans rfl) (fun K hK => ?_) ?_
    · go_simp
      have VN := V.out.new false none 0 0 none 0 0
      refine hK.out _ _ VN.2.2 (fun hHeld => ?_)
      have L2 := (V.out.lt (.head _)).2
      have L3 := (V.out.lt (.tail _ (.head _))).2
      clear hK K
      try simp only [Act.put, List.setIfInBounds_toArray, List.set_cons_zero, List.set_cons_succ]
      rw [HG.out]
      exact st2_123_0.out f1 p1 q1 f2 p2 q2 w.heap.size g2 g3 _ (Lib.hid (VN.sub (List.forall_mem_cons.2 ⟨(.head _), List.forall_mem_cons.2 ⟨(.tail _ (.head _)), List.forall_mem_cons.2 ⟨(.tail _ (.tail _ (.head _))), fun _ h => by simp at h⟩⟩⟩) (fun _ h => h))) F1 F2 (by omega) (by omega) D23
    exact AllReadyH.nil)
  have st3_1_0 := Lib.hid (show ∀ (f1 : FB) (p1 q1 : Int) (f2 : FB) (p2 q2 : Int) (f3 : FB) (p3 q3 : Int) (g1 : Nat) (w : World) (V : Hid (BoxF w1 [(g1, ⟨false, none, 0, 0, none, 0, 0⟩)] [(.slice f3.A f3.n f3.c, p3), (.slice f3.B f3.m f3.d, q3), (.slice f2.A f2.n f2.c, p2), (.slice f2.B f2.m f2.d, q2), (.slice f1.A f1.n f1.c, p1), (.slice f1.B f1.m f1.d, q1)] w)) (F1 : Hid (Sz 2 f1.s p1 q1 ∧ (p1 = 0 → a = 0))) (F2 : Hid (Sz 2 f2.s p2 q2 ∧ (p2 = 0 → a2 = 0))) (F3 : Hid (Sz 2 f3.s p3 q3 ∧ (p3 = 0 → a3 = 0))), G 5 #[true, true, true, true, true, true, true, true, true, true, true, true, true, true, true, true, false, false, false, false, false] { tmps := #[.agg #[.int .i16 a, .int .u8 b], .agg #[.int .i16 a2, .int .u8 b2], .agg #[.int .i16 a3, .int .u8 b3], .pointer (some ⟨W.heap.size, 0, none⟩), .pointer (some ⟨W.heap.size + 1, 0, none⟩), .pointer (some ⟨W.heap.size + 1 + 1, 0, none⟩), .bool false, .pointer (some ⟨g1, 0, none⟩), undef, undef, undef, undef, undef, .bool true, .bool false, .pointer (some ⟨W.heap.size, 0, none⟩), .int .i16 a, .pointer (some ⟨W.heap.size, 1, none⟩), .int .u8 b, .agg #[.bool f1.s, .slice f1.A f1.n f1.c, .slice f1.B f1.m f1.d], .pointer (some ⟨W.heap.size + 1, 0, none⟩), .int .i16 a2, .pointer (some ⟨W.heap.size + 1, 1, none⟩), .int .u8 b2, .agg #[.bool f2.s, .slice f2.A f2.n f2.c, .slice f2.B f2.m f2.d], .pointer (some ⟨W.heap.size + 1 + 1, 0, none⟩), .int .i16 a3, .pointer (some ⟨W.heap.size + 1 + 1, 1, none⟩), .int .u8 b3, .agg #[.bool f3.s, .slice f3.A f3.n f3.c, .slice f3.B f3.m f3.d], undef, undef, undef, undef, undef, undef, undef, undef, undef, undef, undef, undef, undef, undef, undef, undef, undef, undef, undef, undef, undef, undef, undef, undef, undef, undef, undef, undef, undef, undef, undef, undef, undef, undef, undef, undef, undef, undef, undef, undef, undef, undef, undef, undef, undef, undef, undef, undef, undef, undef, undef, undef, undef, undef, undef, undef, undef, undef, undef, undef, undef, undef, undef, undef, undef, undef, undef, undef, undef, undef, undef, undef, undef, undef, undef, undef, undef, undef, undef, undef, undef, undef, undef, undef, undef, undef, undef, undef, undef, undef, undef, undef, undef, undef, undef, undef, undef, undef, undef, undef, undef, undef, undef, undef, undef, undef, undef, undef, undef, undef, undef, undef, undef, undef, undef, undef, undef, undef, undef, undef], defers := [] } w from by
    intro f1 p1 q1 f2 p2 q2 f3 p3 q3 g1 w V F1 F2 F3
    rw [← HG.out]
    refine wpAnyH_ready (rs := [16, 17]) (by kernel_rfl) (by simp) ?_
    refine AllReadyH.cons (List.getElem?_toArray.trans rfl) (fun K hK => ?_) ?_
    · go_simp
      have VN := V.out.new false none 0 0 none 0 0
      refine hK.out _ _ VN.2.2 (fun hHeld => ?_)
      have L1 := (V.out.lt (.head _)).2
      clear hK K
      try simp only [Act.put, List.setIfInBounds_toArray, List.set_cons_zero, List.set_cons_succ]
      rw [HG.out]
      exact st3_12_0.out f1 p1 q1 f2 p2 q2 f3 p3 q3 g1 w.heap.size _ (Lib.hid (VN.sub (List.forall_mem_cons.2 ⟨(.tail _ (.head _)), List.forall_mem_cons.2 ⟨(.head _), fun _ h => by simp at h⟩⟩) (fun _ h => h))) F1 F2 F3 (by omega)
    refine AllReadyH.cons (List.getElem?_toArray.trans rfl) (fun K hK => ?_) ?_
    · go_simp
      have VN := V.out.new false none 0 0 none 0 0
      refine hK.out _ _ VN.2.2 (fun hHeld => ?_)
      have L1 := (V.out.lt (.head _)).2
      clear hK K
      try simp only [Act.put, List.setIfInBounds_toArray, List.set_cons_zero, List.set_cons_succ]
      rw [HG.out]
      exact st3_13_0.out f1 p1 q1 f2 p2 q2 f3 p3 q3 g1 w.heap.size _ (Lib.hid (VN.sub (List.forall_mem_cons.2 ⟨(.tail _ (.head _)), List.forall_mem_cons.2 ⟨(.head _), fun _ h => by simp at h⟩⟩) (fun _ h => h))) F1 F2 F3 (by omega)
    exact AllReadyH.nil)
  have st3_2_0 := Lib.hid (show ∀ (f1 : FB) (p1 q1 : Int) (f2 : FB) (p2 q2 : Int) (f3 : FB) (p3 q3 : Int) (g2 : Nat) (w : World) (V : Hid (BoxF w1 [(g2, ⟨false, none, 0, 0, none, 0, 0⟩)] [(.slice f3.A f3.n f3.c, p3), (.slice f3.B f3.m f3.d, q3), (.slice f2.A f2.n f2.c, p2), (.slice f2.B f2.m f2.d, q2), (.slice f1.A f1.n f1.c, p1), (.slice f1.B f1.m f1.d, q1)] w)) (F1 : Hid (Sz 2 f1.s p1 q1 ∧ (p1 = 0 → a = 0))) (F2 : Hid (Sz 2 f2.s p2 q2 ∧ (p2 = 0 → a2 = 0))) (F3 : Hid (Sz 2 f3.s p3 q3 ∧ (p3 = 0 → a3 = 0))), G 5 #[true, true, true, true, true, true, true, true, true, true, true, true, true, true, true, false, true, false, false, false, false] { tmps := #[.agg #[.int .i16 a, .int .u8 b], .agg #[.int .i16 a2, .int .u8 b2], .agg #[.int .i16 a3, .int .u8 b3], .pointer (some ⟨W.heap.size, 0, none⟩), .pointer (some ⟨W.heap.size + 1, 0, none⟩), .pointer (some ⟨W.heap.size + 1 + 1, 0, none⟩), .bool false, undef, .pointer (some ⟨g2, 0, none⟩), undef, undef, undef, undef, .bool true, .bool false, .pointer (some ⟨W.heap.size, 0, none⟩), .int .i16 a, .pointer (some ⟨W.heap.size, 1, none⟩), .int .u8 b, .agg #[.bool f1.s, .slice f1.A f1.n f1.c, .slice f1.B f1.m f1.d], .pointer (some ⟨W.heap.size + 1, 0, none⟩), .int .i16 a2, .pointer (some ⟨W.heap.size + 1, 1, none⟩), .int .u8 b2, .agg #[.bool f2.s, .slice f2.A f2.n f2.c, .slice f2.B f2.m f2.d], .pointer (some ⟨W.heap.size + 1 + 1, 0, none⟩), .int .i16 a3, .pointer (some ⟨W.heap.size + 1 + 1, 1, none⟩), .int .u8 b3, .agg #[.bool f3.s, .slice f3.A f3.n f3.c, .slice f3.B f3.m f3.d], undef, undef, undef, undef, undef, undef, undef, undef, undef, undef, undef, undef, undef, undef, undef, undef, undef, undef, undef, undef, undef, undef, undef, undef, undef, undef, undef, undef, undef, undef, undef, undef, undef, undef, undef, undef, undef, undef, undef, undef, undef, undef, undef, undef, undef, undef, undef, undef, undef, undef, undef, undef, undef, undef, undef, undef, undef, undef, undef, undef, undef, undef, undef, undef, undef, undef, undef, undef, undef, undef, undef, undef, undef, undef, undef, undef, undef, undef, undef, undef, undef, undef, undef, undef, undef, undef, undef, undef, undef, undef, undef, undef, undef, undef, undef, undef, undef, undef, undef, undef, undef, undef, undef, undef, undef, undef, undef, undef, undef, undef, undef, undef, undef, undef, undef, undef, undef, undef, undef, undef], defers := [] } w from by
    intro f1 p1 q1 f2 p2 q2 f3 p3 q3 g2 w V F1 F2 F3
    rw [← HG.out]
    refine wpAnyH_ready (rs := [15, 17]) (by kernel_rfl) (by simp) ?_
    refine AllReadyH.cons (List.getElem?_toArray.trans rfl) (fun K hK => ?_) ?_
    · go_simp
      have VN := V.out.new false none 0 0 none 0 0
      refine hK.out _ _ VN.2.2 (fun hHeld => ?_)
      have L2 := (V.out.lt (.head _)).2
      clear hK K
      try simp only [Act.put, List.setIfInBounds_toArray, List.set_cons_zero, List.set_cons_succ]
      rw [HG.out]
      exact st3_12_0.out f1 p1 q1 f2 p2 q2 f3 p3 q3 w.heap.size g2 _ (Lib.hid (VN.sub (List.forall_mem_cons.2 ⟨(.head _), List.forall_mem_cons.2 ⟨(.tail _ (.head _)), fun _ h => by simp at h⟩⟩) (fun _ h => h))) F1 F2 F3 (by omega)
    refine AllReadyH.cons (List.getElem?_toArray.trans rfl) (fun K hK => ?_) ?_
    · go_simp
      have VN := V.out.new false none 0 0 none 0 0
      refine hK.out _ _ VN.2.2 (fun hHeld => ?_)
      have L2 := (V.out.lt (.head _)).2
      clear hK K
      try simp only [Act.put, List.setIfInBounds_toArray, List.set_cons_zero, List.set_cons_succ]
      rw [HG.out]
      exact st3_23_0.out f1 p1 q1 f2 p2 q2 f3 p3 q3 g2 w.heap.size _ (Lib.hid (VN.sub (List.forall_mem_cons.2 ⟨(.tail _ (.head _)), List.forall_mem_cons.2 ⟨(.head _), fun _ h => by simp at h⟩⟩) (fun _ h => h))) F1 F2 F3 (by omega)
    exact AllReadyH.nil)
  have st3_3_0 := Lib.hid (show ∀ (f1 : FB) (p1 q1 : Int) (f2 : FB) (p2 q2 : Int) (f3 : FB) (p3 q3 : Int) (g3 : Nat) (w : World) (V : Hid (BoxF w1 [(g3, ⟨false, none, 0, 0, none, 0, 0⟩)] [(.slice f3.A f3.n f3.c, p3), (.slice f3.B f3.m f3.d, q3), (.slice f2.A f2.n f2.c, p2), (.slice f2.B f2.m f2.d, q2), (.slice f1.A f1.n f1.c, p1), (.slice f1.B f1.m f1.d, q1)] w)) (F1 : Hid (Sz 2 f1.s p1 q1 ∧ (p1 = 0 → a = 0))) (F2 : Hid (Sz 2 f2.s p2 q2 ∧ (p2 = 0 → a2 = 0))) (F3 : Hid (Sz 2 f3.s p3 q3 ∧ (p3 = 0 → a3 = 0))), G 5 #[true, true, true, true, true, true, true, true, true, true, true, true, true, true, true, false, false, true, false, false, false] { tmps := #[.agg #[.int .i16 a, .int .u8 b], .agg #[.int .i16 a2, .int .u8 b2], .agg #[.int .i16 a3, .int .u8 b3], .pointer (some ⟨W.heap.size, 0, none⟩), .pointer (some ⟨W.heap.size + 1, 0, none⟩), .pointer (some ⟨W.heap.size + 1 + 1, 0, none⟩), .bool false, undef, undef, .pointer (some ⟨g3, 0, none⟩), undef, undef, undef, .bool true, .bool false, .pointer (some ⟨W.heap.size, 0, none⟩), .int .i16 a, .pointer (some ⟨W.heap.size, 1, none⟩), .int .u8 b, .agg #[.bool f1.s, .slice f1.A f1.n f1.c, .slice f1.B f1.m f1.d], .pointer (some ⟨W.heap.size + 1, 0, none⟩), .int .i16 a2, .pointer (some ⟨W.heap.size + 1, 1, none⟩), .int .u8 b2, .agg #[.bool f2.s, .slice f2.A f2.n f2.c, .slice f2.B f2.m f2.d], .pointer (some ⟨W.heap.size + 1 + 1, 0, none⟩), .int .i16 a3, .pointer (some ⟨W.heap.size + 1 + 1, 1, none⟩), .int .u8 b3, .agg #[.bool f3.s, .slice f3.A f3.n f3.c, .slice f3.B f3.m f3.d], undef, undef, undef, undef, undef, undef, undef, undef, undef, undef, undef, undef, undef, undef, undef, undef, undef, undef, undef, undef, undef, undef, undef, undef, undef, undef, undef, undef, undef, undef, undef, undef, undef, undef, undef, undef, undef, undef, undef, undef, undef, undef, undef, undef, undef, undef, undef, undef, undef, undef, undef, undef, undef, undef, undef, undef, undef, undef, undef, undef, undef, undef, undef, undef, undef, undef, undef, undef, undef, undef, undef, undef, undef, undef, undef, undef, undef, undef, undef, undef, undef, undef, undef, undef, undef, undef, undef, undef, undef, undef, undef, undef, undef, undef, undef, undef, undef, undef, undef, undef, undef, undef, undef, undef, undef, undef, undef, undef, undef, undef, undef, undef, undef, undef, undef, undef, undef, undef, undef, undef], defers := [] } w from by
    intro f1 p1 q1 f2 p2 q2 f3 p3 q3 g3 w V F1 F2 F3
    rw [← HG.out]
    refine wpAnyH_ready (rs := [15, 16]) (by kernel_rfl) (by simp) ?_
    refine AllReadyH.cons (List.getElem?_toArray.trans rfl) (fun K hK => ?_) ?_
    · go_simp
      have VN := V.out.new false none 0 0 none 0 0
      refine hK.out _ _ VN.2.2 (fun hHeld => ?_)
      have L3 := (V.out.lt (.head _)).2
      clear hK K
      try simp only [Act.put, List.setIfInBounds_toArray, List.set_cons_zero, List.set_cons_succ]
      rw [HG.out]
      exact st3_13_0.out f1 p1 q1 f2 p2 q2 f3 p3 q3 w.heap.size g3 _ (Lib.hid (VN.sub (List.forall_mem_cons.2 ⟨(.head _), List.forall_mem_cons.2 ⟨(.tail _ (.head _)), fun _ h => by simp at h⟩⟩) (fun _ h => h))) F1 F2 F3 (by omega)
    refine AllReadyH.cons (List.getElem?_toArray.trans rfl) (fun K hK => ?_) ?_
    · go_simp
      have VN := V.out.new false none 0 0 none 0 0
      refine hK.out _ _ VN.2.2 (fun hHeld => ?_)
      have L3 := (V.out.lt (.head _)).2
      clear hK K
      try simp only [Act.put, List.setIfInBounds_toArray, List.set_cons_zero, List.set_cons_succ]
      rw [HG.out]
      exact st3_23_0.out f1 p1 q1 f2 p2 q2 f3 p3 q3 w.heap.size g3 _ (Lib.hid (VN.sub (List.forall_mem_cons.2 ⟨(.head _), List.forall_mem_cons.2 ⟨(.tail _ (.head _)), fun _ h => by simp at h⟩⟩) (fun _ h => h))) F1 F2 F3 (by omega)
    exact AllReadyH.nil)
  have st0_123_0 := Lib.hid (show ∀ (g1 : Nat) (g2 : Nat) (g3 : Nat) (w : World) (V : Hid (BoxF w1 [(g1, ⟨false, none, 0, 0, none, 0, 0⟩), (g2, ⟨false, none, 0, 0, none, 0, 0⟩), (g3, ⟨false, none, 0, 0, none, 0, 0⟩)] [] w)) (D12 : ¬ g1 = g2) (D13 : ¬ g1 = g3) (D23 : ¬ g2 = g3), G 6 #[true, true, true, true, false, true, true, true, true, false, true, true, true, true, false, true, true, true, false, false, false] { tmps := #[.agg #[.int .i16 a, .int .u8 b], .agg #[.int .i16 a2, .int .u8 b2], .agg #[.int .i16 a3, .int .u8 b3], .pointer (some ⟨W.heap.size, 0, none⟩), .pointer (some ⟨W.heap.size + 1, 0, none⟩), .pointer (some ⟨W.heap.size + 1 + 1, 0, none⟩), .bool false, .pointer (some ⟨g1, 0, none⟩), .pointer (some ⟨g2, 0, none⟩), .pointer (some ⟨g3, 0, none⟩), undef, undef, undef, .bool true, .bool false, .pointer (some ⟨W.heap.size, 0, none⟩), .int .i16 a, .pointer (some ⟨W.heap.size, 1, none⟩), .int .u8 b, undef, .pointer (some ⟨W.heap.size + 1, 0, none⟩), .int .i16 a2, .pointer (some ⟨W.heap.size + 1, 1, none⟩), .int .u8 b2, undef, .pointer (some ⟨W.heap.size + 1 + 1, 0, none⟩), .int .i16 a3, .pointer (some ⟨W.heap.size + 1 + 1, 1, none⟩), .int .u8 b3, undef, undef, undef, undef, undef, undef, undef, undef, undef, undef, undef, undef, undef, undef, undef, undef, undef, undef, undef, undef, undef, undef, undef, undef, undef, undef, undef, undef, undef, undef, undef, undef, undef, undef, undef, undef, undef, undef, undef, undef, undef, undef, undef, undef, undef, undef, undef, undef, undef, undef, undef, undef, undef, undef, undef, undef, undef, undef, undef, undef, undef, undef, undef, undef, undef, undef, undef, undef, undef, undef, undef, undef, undef, undef, undef, undef, undef, undef, undef, undef, undef, undef, undef, undef, undef, undef, undef, undef, undef, undef, undef, undef, undef, undef, undef, undef, undef, undef, undef, undef, undef, undef, undef, undef, undef, undef, undef, undef, undef, undef, undef, undef, undef, undef, undef, undef, undef, undef, undef, undef, undef], defers := [] } w from by
    intro g1 g2 g3 w V D12 D13 D23
    rw [← HG.out]
    refine wpAnyH_ready (rs := [4]) (by kernel_rfl) (by simp) ?_
    refine AllReadyH.cons (List.getElem?_toArray.trans rfl) (fun K hK => ?_) ?_
    · go_simp
      refine (rmade_any a b _ ha ha2 hb hb2).mono ?_
      rintro e wn ⟨s, p, q, Ax, cx, kx, Bx, dx, lx, rfl, nx, mx, zx, ex, bx⟩
      try go_wp2_with fail
      have VN := ((V.out.go bx).num mx).num nx
      refine hK.out _ _ VN.2.2 (fun hHeld => ?_)
      clear hK K
      try simp only [Act.put, List.setIfInBounds_toArray, List.set_cons_zero, List.set_cons_succ]
      rw [HG.out]
      exact st1_123_0.out ⟨s, Ax, kx, cx, Bx, lx, dx⟩ p q g1 g2 g3 _ (Lib.hid (VN)) (Lib.hid ⟨zx, ex⟩) D12 D13 D23
    exact AllReadyH.nil)
  have st1_12_0 := Lib.hid (show ∀ (f1 : FB) (p1 q1 : Int) (g1 : Nat) (g2 : Nat) (w : World) (V : Hid (BoxF w1 [(g1, ⟨false, none, 0, 0, none, 0, 0⟩), (g2, ⟨false, none, 0, 0, none, 0, 0⟩)] [(.slice f1.A f1.n f1.c, p1), (.slice f1.B f1.m f1.d, q1)] w)) (F1 : Hid (Sz 2 f1.s p1 q1 ∧ (p1 = 0 → a = 0))) (D12 : ¬ g1 = g2), G 6 #[true, true, true, true, true, true, true, true, true, false, true, true, true, true, false, true, true, false, false, false, false] { tmps := #[.agg #[.int .i16 a, .int .u8 b], .agg #[.int .i16 a2, .int .u8 b2], .agg #[.int .i16 a3, .int .u8 b3], .pointer (some ⟨W.heap.size, 0, none⟩), .pointer (some ⟨W.heap.size + 1, 0, none⟩), .pointer (some ⟨W.heap.size + 1 + 1, 0, none⟩), .bool false, .pointer (some ⟨g1, 0, none⟩), .pointer (some ⟨g2, 0, none⟩), undef, undef, undef, undef, .bool true, .bool false, .pointer (some ⟨W.heap.size, 0, none⟩), .int .i16 a, .pointer (some ⟨W.heap.size, 1, none⟩), .int .u8 b, .agg #[.bool f1.s, .slice f1.A f1.n f1.c, .slice f1.B f1.m f1.d], .pointer (some ⟨W.heap.size + 1, 0, none⟩), .int .i16 a2, .pointer (some ⟨W.heap.size + 1, 1, none⟩), .int .u8 b2, undef, .pointer (some ⟨W.heap.size + 1 + 1, 0, none⟩), .int .i16 a3, .pointer (some ⟨W.heap.size + 1 + 1, 1, none⟩), .int .u8 b3, undef, undef, undef, undef, undef, undef, undef, undef, undef, undef, undef, undef, undef, undef, undef, undef, undef, undef, undef, undef, undef, undef, undef, undef, undef, undef, undef, undef, undef, undef, undef, undef, undef, undef, undef, undef, undef, undef, undef, undef, undef, undef, undef, undef, undef, undef, undef, undef, undef, undef, undef, undef, undef, undef, undef, undef, undef, undef, undef, undef, undef, undef, undef, undef, undef, undef, undef, undef, undef, undef, undef, undef, undef, undef, undef, undef, undef, undef, undef, undef, undef, undef, undef, undef, undef, undef, undef, undef, undef, undef, undef, undef, undef, undef, undef, undef, undef, undef, undef, undef, undef, undef, undef, undef, undef, undef, undef, undef, undef, undef, undef, undef, undef, undef, undef, undef, undef, undef, undef, undef, undef], defers := [] } w from by
    intro f1 p1 q1 g1 g2 w V F1 D12
    rw [← HG.out]
    refine wpAnyH_ready (rs := [9, 17]) (by kernel_rfl) (by simp) ?_
    refine AllReadyH.cons (List.getElem?_toArray.trans rfl) (fun K hK => ?_) ?_
    · go_simp
      refine (rmade_any a2 b2 _ hc hc2 hd hd2).mono ?_
      rintro e wn ⟨s, p, q, Ax, cx, kx, Bx, dx, lx, rfl, nx, mx, zx, ex, bx⟩
      try go_wp2_with fail
      have VN := ((V.out.go bx).num mx).num nx
      refine hK.out _ _ VN.2.2 (fun hHeld => ?_)
      clear hK K
      try simp only [Act.put, List.setIfInBounds_toArray, List.set_cons_zero, List.set_cons_succ]
      rw [HG.out]
      exact st2_12_0.out f1 p1 q1 ⟨s, Ax, kx, cx, Bx, lx, dx⟩ p q g1 g2 _ (Lib.hid (VN)) F1 (Lib.hid ⟨zx, ex⟩) D12
    refine AllReadyH.cons (List.getElem?_toArray.trans rfl) (fun K hK => ?_) ?_
    · go_simp
      have VN := V.out.new false none 0 0 none 0 0
      refine hK.out _ _ VN.2.2 (fun hHeld => ?_)
      have L1 := (V.out.lt (.head _)).2
      have L2 := (V.out.lt (.tail _ (.head _))).2
      clear hK K
      try simp only [Act.put, List.setIfInBounds_toArray, List.set_cons_zero, List.set_cons_succ]
      rw [HG.out]
      exact st1_123_0.out f1 p1 q1 g1 g2 w.heap.size _ (Lib.hid (VN.sub (List.forall_mem_cons.2 ⟨(.tail _ (.head _)), List.forall_mem_cons.2 ⟨(.tail _ (.tail _ (.head _))), List.forall_mem_cons.2 ⟨(.head _), fun _ h => by simp at h⟩⟩⟩) (fun _ h => h))) F1 D12 (by omega) (by omega)
    exact AllReadyH.nil)
  have st1_13_0 := Lib.hid (show ∀ (f1 : FB) (p1 q1 : Int) (g1 : Nat) (g3 : Nat) (w : World) (V : Hid (BoxF w1 [(g1, ⟨false, none, 0, 0, none, 0, 0⟩), (g3, ⟨false, none, 0, 0, none, 0, 0⟩)] [(.slice f1.A f1.n f1.c, p1), (.slice f1.B f1.m f1.d, q1)] w)) (F1 : Hid (Sz 2 f1.s p1 q1 ∧ (p1 = 0 → a = 0))) (D13 : ¬ g1 = g3), G 6 #[true, true, true, true, true, true, true, true, true, false, true, true, true, true, false, true, false, true, false, false, false] { tmps := #[.agg #[.int .i16 a, .int .u8 b], .agg #[.int .i16 a2, .int .u8 b2], .agg #[.int .i16 a3, .int .u8 b3], .pointer (some ⟨W.heap.size, 0, none⟩), .pointer (some ⟨W.heap.size + 1, 0, none⟩), .pointer (some ⟨W.heap.size + 1 + 1, 0, none⟩), .bool false, .pointer (some ⟨g1, 0, none⟩), undef, .pointer (some ⟨g3, 0, none⟩), undef, undef, undef, .bool true, .bool false, .pointer (some ⟨W.heap.size, 0, none⟩), .int .i16 a, .pointer (some ⟨W.heap.size, 1, none⟩), .int .u8 b, .agg #[.bool f1.s, .slice f1.A f1.n f1.c, .slice f1.B f1.m f1.d], .pointer (some ⟨W.heap.size + 1, 0, none⟩), .int .i16 a2, .pointer (some ⟨W.heap.size + 1, 1, none⟩), .int .u8 b2, undef, .pointer (some ⟨W.heap.size + 1 + 1, 0, none⟩), .int .i16 a3, .pointer (some ⟨W.heap.size + 1 + 1, 1, none⟩), .int .u8 b3, undef, undef, undef, undef, undef, undef, undef, undef, undef, undef, undef, undef, undef, undef, undef, undef, undef, undef, undef, undef, undef, undef, undef, undef, undef, undef, undef, undef, undef, undef, undef, undef, undef, undef, undef, undef, undef, undef, undef, undef, undef, undef, undef, undef, undef, undef, undef, undef, undef, undef, undef, undef, undef, undef, undef, undef, undef, undef, undef, undef, undef, undef, undef, undef, undef, undef, undef, undef, undef, undef, undef, undef, undef, undef, undef, undef, undef, undef, undef, undef, undef, undef, undef, undef, undef, undef, undef, undef, undef, undef, undef, undef, undef, undef, undef, undef, undef, undef, undef, undef, undef, undef, undef, undef, undef, undef, undef, undef, undef, undef, undef, undef, undef, undef, undef, undef, undef, undef, undef, undef, undef], defers := [] } w from by
    intro f1 p1 q1 g1 g3 w V F1 D13
    rw [← HG.out]
    refine wpAnyH_ready (rs := [9, 16]) (by kernel_rfl) (by simp) ?_
    refine AllReadyH.cons (List.getElem?_toArray.trans rfl) (fun K hK => ?_) ?_
    · go_simp
      refine (rmade_any a2 b2 _ hc hc2 hd hd2).mono ?_
      rintro e wn ⟨s, p, q, Ax, cx, kx, Bx, dx, lx, rfl, nx, mx, zx, ex, bx⟩
      try go_wp2_with fail
      have VN := ((V.out.go bx).num mx).num nx
      refine hK.out _ _ VN.2.2 (fun hHeld => ?_)
      clear hK K
      try simp only [Act.put, List.setIfInBounds_toArray, List.set_cons_zero, List.set_cons_succ]
      rw [HG.out]
      exact st2_13_0.out f1 p1 q1 ⟨s, Ax, kx, cx, Bx, lx, dx⟩ p q g1 g3 _ (Lib.hid (VN)) F1 (Lib.hid ⟨zx, ex⟩) D13
    refine AllReadyH.cons (List.getElem?_toArray.trans rfl) (fun K hK => ?_) ?_
    · go_simp
      have VN := V.out.new false none 0 0 none 0 0
      refine hK.out _ _ VN.2.2 (fun hHeld => ?_)
      have L1 := (V.out.lt (.head _)).2
      have L3 := (V.out.lt (.tail _ (.head _))).2
      clear hK K
      try simp only [Act.put, List.setIfInBounds_toArray, List.set_cons_zero, List.set_cons_succ]
      rw [HG.out]
      exact st1_123_0.out f1 p1 q1 g1 w.heap.size g3 _ (Lib.hid (VN.sub (List.forall_mem_cons.2 ⟨(.tail _ (.head _)), List.forall_mem_cons.2 ⟨(.head _), List.forall_mem_cons.2 ⟨(.tail _ (.tail _ (.head _))), fun _ h => by simp at h⟩⟩⟩) (fun _ h => h))) F1 (by omega) D13 (by omega)
    exact AllReadyH.nil)
  have st1_23_0 := Lib.hid (show ∀ (f1 : FB) (p1 q1 : Int) (g2 : Nat) (g3 : Nat) (w : World) (V : Hid (BoxF w1 [(g2, ⟨false, none, 0, 0, none, 0, 0⟩), (g3, ⟨false, none, 0, 0, none, 0, 0⟩)] [(.slice f1.A f1.n f1.c, p1), (.slice f1.B f1.m f1.d, q1)] w)) (F1 : Hid (Sz 2 f1.s p1 q1 ∧ (p1 = 0 → a = 0))) (D23 : ¬ g2 = g3), G 6 #[true, true, true, true, true, true, true, true, true, false, true, true, true, true, false, false, true, true, false, false, false] { tmps := #[.agg #[.int .i16 a, .int .u8 b], .agg #[.int .i16 a2, .int .u8 b2], .agg #[.int .i16 a3, .int .u8 b3], .pointer (some ⟨W.heap.size, 0, none⟩), .pointer (some ⟨W.heap.size + 1, 0, none⟩), .pointer (some ⟨W.heap.size + 1 + 1, 0, none⟩), .bool false, undef, .pointer (some ⟨g2, 0, none⟩), .pointer (some ⟨g3, 0, none⟩), undef, undef, undef, .bool true, .bool false, .pointer (some ⟨W.heap.size, 0, none⟩), .int .i16 a, .pointer (some ⟨W.heap.size, 1, none⟩), .int .u8 b, .agg #[.bool f1.s, .slice f1.A f1.n f1.c, .slice f1.B f1.m f1.d], .pointer (some ⟨W.heap.size + 1, 0, none⟩), .int .i16 a2, .pointer (some ⟨W.heap.size + 1, 1, none⟩), .int .u8 b2, undef, .pointer (some ⟨W.heap.size + 1 + 1, 0, none⟩), .int .i16 a3, .pointer (some ⟨W.heap.size + 1 + 1, 1, none⟩), .int .u8 b3, undef, undef, undef, undef, undef, undef, undef, undef, undef, undef, undef, undef, undef, undef, undef, undef, undef, undef, undef, undef, undef, undef, undef, undef, undef, undef, undef, undef, undef, undef, undef, undef, undef, undef, undef, undef, undef, undef, undef, undef, undef, undef, undef, undef, undef, undef, undef, undef, undef, undef, undef, undef, undef, undef, undef, undef, undef, undef, undef, undef, undef, undef, undef, undef, undef, undef, undef, undef, undef, undef, undef, undef, undef, undef, undef, undef, undef, undef, undef, undef, undef, undef, undef, undef, undef, undef, undef, undef, undef, undef, undef, undef, undef, undef, undef, undef, undef, undef, undef, undef, undef, undef, undef, undef, undef, undef, undef, undef, undef, undef, undef, undef, undef, undef, undef, undef, undef, undef, undef, undef, undef], defers := [] } w from by
    intro f1 p1 q1 g2 g3 w V F1 D23
    rw [← HG.out]
    refine wpAnyH_ready (rs := [9, 15]) (by kernel_rfl) (by simp) ?_
    refine AllReadyH.cons (List.getElem?_toArray.trans rfl) (fun K hK => ?_) ?_
    · go_simp
      refine (rmade_any a2 b2 _ hc hc2 hd hd2).mono ?_
      rintro e wn ⟨s, p, q, Ax, cx, kx, Bx, dx, lx, rfl, nx, mx, zx, ex, bx⟩
      try go_wp2_with fail
      have VN := ((V.out.go bx).num mx).num nx
      refine hK.out _ _ VN.2.2 (fun hHeld => ?_)
      clear hK K
      try simp only [Act.put, List.setIfInBounds_toArray, List.set_cons_zero, List.set_cons_succ]
      rw [HG.out]
      exact st2_23_0.out f1 p1 q1 ⟨s, Ax, kx, cx, Bx, lx, dx⟩ p q g2 g3 _ (Lib.hid (VN)) F1 (Lib.hid ⟨zx, ex⟩) D23
    refine AllReadyH.cons (List.getElem?_toArray.trans rfl) (fun K hK => ?_) ?_
    · go_simp
      have VN := V.out.new false none 0 0 none 0 0
      refine hK.out _ _ VN.2.2 (fun hHeld => ?_)
      have L2 := (V.out.lt (.head _)).2
      have L3 := (V.out.lt (.tail _ (.head _))).2
      clear hK K
      try simp only [Act.put, List.setIfInBounds_toArray, List.set_cons_zero, List.set_cons_succ]
      rw [HG.out]
      exact st1_123_0.out f1 p1 q1 w.heap.size g2 g3 _ (Lib.hid (VN.sub (List.forall_mem_cons.2 ⟨(.head _), List.forall_mem_cons.2 ⟨(.tail _ (.head _)), List.forall_mem_cons.2 ⟨(.tail _ (.tail _ (.head _))), fun _ h => by simp at h⟩⟩⟩) (fun _ h => h))) F1 (by omega) (by omega) D23
    exact AllReadyH.nil)
  have st2_1_0 := Lib.hid (show ∀ (f1 : FB) (p1 q1 : Int) (f2 : FB) (p2 q2 : Int) (g1 : Nat) (w : World) (V : Hid (BoxF w1 [(g1, ⟨false, none, 0, 0, none, 0, 0⟩)] [(.slice f2.A f2.n f2.c, p2), (.slice f2.B f2.m f2.d, q2), (.slice f1.A f1.n f1.c, p1), (.slice f1.B f1.m f1.d, q1)] w)) (F1 : Hid (Sz 2 f1.s p1 q1 ∧ (p1 = 0 → a = 0))) (F2 : Hid (Sz 2 f2.s p2 q2 ∧ (p2 = 0 → a2 = 0))), G 6 #[true, true, true, true, true, true, true, true, true, true, true, true, true, true, false, true, false, false, false, false, false] { tmps := #[.agg #[.int .i16 a, .int .u8 b], .agg #[.int .i16 a2, .int .u8 b2], .agg #[.int .i16 a3, .int .u8 b3], .pointer (some ⟨W.heap.size, 0, none⟩), .pointer (some ⟨W.heap.size + 1, 0, none⟩), .pointer (some ⟨W.heap.size + 1 + 1, 0, none⟩), .bool false, .pointer (some ⟨g1, 0, none⟩), undef, undef, undef, undef, undef, .bool true, .bool false, .pointer (some ⟨W.heap.size, 0, none⟩), .int .i16 a, .pointer (some ⟨W.heap.size, 1, none⟩), .int .u8 b, .agg #[.bool f1.s, .slice f1.A f1.n f1.c, .slice f1.B f1.m f1.d], .pointer (some ⟨W.heap.size + 1, 0, none⟩), .int .i16 a2, .pointer (some ⟨W.heap.size + 1, 1, none⟩), .int .u8 b2, .agg #[.bool f2.s, .slice f2.A f2.n f2.c, .slice f2.B f2.m f2.d], .pointer (some ⟨W.heap.size + 1 + 1, 0, none⟩), .int .i16 a3, .pointer (some ⟨W.heap.size + 1 + 1, 1, none⟩), .int .u8 b3, undef, undef, undef, undef, undef, undef, undef, undef, undef, undef, undef, undef, undef, undef, undef, undef, undef, undef, undef, undef, undef, undef, undef, undef, undef, undef, undef, undef, undef, undef, undef, undef, undef, undef, undef, undef, undef, undef, undef, undef, undef, undef, undef, undef, undef, undef, undef, undef, undef, undef, undef, undef, undef, undef, undef, undef, undef, undef, undef, undef, undef, undef, undef, undef, undef, undef, undef, undef, undef, undef, undef, undef, undef, undef, undef, undef, undef, undef, undef, undef, undef, undef, undef, undef, undef, undef, undef, undef, undef, undef, undef, undef, undef, undef, undef, undef, undef, undef, undef, undef, undef, undef, undef, undef, undef, undef, undef, undef, undef, undef, undef, undef, undef, undef, undef, undef, undef, undef, undef, undef, undef], defers := [] } w from by
    intro f1 p1 q1 f2 p2 q2 g1 w V F1 F2
    rw [← HG.out]
    refine wpAnyH_ready (rs := [14, 16, 17]) (by kernel_rfl) (by simp) ?_
    refine AllReadyH.cons (List.getElem?_toArray.trans rfl) (fun K hK => ?_) ?_
    · go_simp
      refine (rmade_any a3 b3 _ he he2 hf hf2).mono ?_
      rintro e wn ⟨s, p, q, Ax, cx, kx, Bx, dx, lx, rfl, nx, mx, zx, ex, bx⟩
      try go_wp2_with fail
      have VN := ((V.out.go bx).num mx).num nx
      refine hK.out _ _ VN.2.2 (fun hHeld => ?_)
      clear hK K
      try simp only [Act.put, List.setIfInBounds_toArray, List.set_cons_zero, List.set_cons_succ]
      rw [HG.out]
      exact st3_1_0.out f1 p1 q1 f2 p2 q2 ⟨s, Ax, kx, cx, Bx, lx, dx⟩ p q g1 _ (Lib.hid (VN)) F1 F2 (Lib.hid ⟨zx, ex⟩)
    refine AllReadyH.cons (List.getElem?_toArray.trans rfl) (fun K hK => ?_) ?_
    · go_simp
      have VN := V.out.new false none 0 0 none 0 0
      refine hK.out _ _ VN.2.2 (fun hHeld => ?_)
      have L1 := (V.out.lt (.head _)).2
      clear hK K
      try simp only [Act.put, List.setIfInBounds_toArray, List.set_cons_zero, List.set_cons_succ]
      rw [HG.out]
      exact st2_12_0.out f1 p1 q1 f2 p2 q2 g1 w.heap.size _ (Lib.hid (VN.sub (List.forall_mem_cons.2 ⟨(.tail _ (.head _)), List.forall_mem_cons.2 ⟨(.head _), fun _ h => by simp at h⟩⟩) (fun _ h => h))) F1 F2 (by omega)
    refine AllReadyH.cons (List.getElem?_toArray.trans rfl) (fun K hK => ?_) ?_
    · go_simp
      have VN := V.out.new false none 0 0 none 0 0
      refine hK.out _ _ VN.2.2 (fun hHeld => ?_)
      have L1 := (V.out.lt (.head _)).2
      clear hK K
      try simp only [Act.put, List.setIfInBounds_toArray, List.set_cons_zero, List.set_cons_succ]
      rw [HG.out]
      exact st2_13_0.out f1 p1 q1 f2 p2 q2 g1 w.heap.size _ (Lib.hid (VN.sub (List.forall_mem_cons.2 ⟨(.tail _ (.head _)), List.forall_mem_cons.2 ⟨(.head _), fun _ h => by simp at h⟩⟩) (fun _ h => h))) F1 F2 (by omega)
    exact AllReadyH.nil)
  have st2_2_0 := Lib.hid (show ∀ (f1 : FB) (p1 q1 : Int) (f2 : FB) (p2 q2 : Int) (g2 : Nat) (w : World) (V : Hid (BoxF w1 [(g2, ⟨false, none, 0, 0, none, 0, 0⟩)] [(.slice f2.A f2.n f2.c, p2), (.slice f2.B f2.m f2.d, q2), (.slice f1.A f1.n f1.c, p1), (.slice f1.B f1.m f1.d, q1)] w)) (F1 : Hid (Sz 2 f1.s p1 q1 ∧ (p1 = 0 → a = 0))) (F2 : Hid (Sz 2 f2.s p2 q2 ∧ (p2 = 0 → a2 = 0))), G 6 #[true, true, true, true, true, true, true, true, true, true, true, true, true, true, false, false, true, false, false, false, false] { tmps := #[.agg #[.int .i16 a, .int .u8 b], .agg #[.int .i16 a2, .int .u8 b2], .agg #[.int .i16 a3, .int .u8 b3], .pointer (some ⟨W.heap.size, 0, none⟩), .pointer (some ⟨W.heap.size + 1, 0, none⟩), .pointer (some ⟨W.heap.size + 1 + 1, 0, none⟩), .bool false, undef, .pointer (some ⟨g2, 0, none⟩), undef, undef, undef, undef, .bool true, .bool false, .pointer (some ⟨W.heap.size, 0, none⟩), .int .i16 a, .pointer (some ⟨W.heap.size, 1, none⟩), .int .u8 b, .agg #[.bool f1.s, .slice f1.A f1.n f1.c, .slice f1.B f1.m f1.d], .pointer (some ⟨W.heap.size + 1, 0, none⟩), .int .i16 a2, .pointer (some ⟨W.heap.size + 1, 1, none⟩), .int .u8 b2, .agg #[.bool f2.s, .slice f2.A f2.n f2.c, .slice f2.B f2.m f2.d], .pointer (some ⟨W.heap.size + 1 + 1, 0, none⟩), .int .i16 a3, .pointer (some ⟨W.heap.size + 1 + 1, 1, none⟩), .int .u8 b3, undef, undef, undef, undef, undef, undef, undef, undef, undef, undef, undef, undef, undef, undef, undef, undef, undef, undef, undef, undef, undef, undef, undef, undef, undef, undef, undef, undef, undef, undef, undef, undef, undef, undef, undef, undef, undef, undef, undef, undef, undef, undef, undef, undef, undef, undef, undef, undef, undef, undef, undef, undef, undef, undef, undef, undef, undef, undef, undef, undef, undef, undef, undef, undef, undef, undef, undef, undef, undef, undef, undef, undef, undef, undef, undef, undef, undef, undef, undef, undef, undef, undef, undef, undef, undef, undef, undef, undef, undef, undef, undef, undef, undef, undef, undef, undef, undef, undef, undef, undef, undef, undef, undef, undef, undef, undef, undef, undef, undef, undef, undef, undef, undef, undef, undef, undef, undef, undef, undef, undef, undef], defers := [] } w from by
    intro f1 p1 q1 f2 p2 q2 g2 w V F1 F2
    rw [← HG.out]
    refine wpAnyH_ready (rs := [14, 15, 17]) (by kernel_rfl) (by simp) ?_
    refine AllReadyH.cons (List.getElem?_toArray.trans rfl) (fun K hK => ?_) ?_
    · go_simp
      refine (rmade_any a3 b3 _ he he2 hf hf2).mono ?_
      rintro e wn ⟨s, p, q, Ax, cx, kx, Bx, dx, lx, rfl, nx, mx, zx, ex, bx⟩
      try go_wp2_with fail
      have VN := ((V.out.go bx).num mx).num nx
      refine hK.out _ _ VN.2.2 (fun hHeld => ?_)
      clear hK K
      try simp only [Act.put, List.setIfInBounds_toArray, List.set_cons_zero, List.set_cons_succ]
      rw [HG.out]
      exact st3_2_0.out f1 p1 q1 f2 p2 q2 ⟨s, Ax, kx, cx, Bx, lx, dx⟩ p q g2 _ (Lib.hid (VN)) F1 F2 (Lib.hid ⟨zx, ex⟩)
    refine AllReadyH.cons (List.getElem?_toArray.trans rfl) (fun K hK => ?_) ?_
    · go_simp
      have VN := V.out.new false none 0 0 none 0 0
      refine hK.out _ _ VN.2.2 (fun hHeld => ?_)
      have L2 := (V.out.lt (.head _)).2
      clear hK K
      try simp only [Act.put, List.setIfInBounds_toArray, List.set_cons_zero, List.set_cons_succ]
      rw [HG.out]
      exact st2_12_0.out f1 p1 q1 f2 p2 q2 w.heap.size g2 _ (Lib.hid (VN.sub (List.forall_mem_cons.2 ⟨(.head _), List.forall_mem_cons.2 ⟨(.tail _ (.head _)), fun _ h => by simp at h⟩⟩) (fun _ h => h))) F1 F2 (by omega)
    refine AllReadyH.cons (List.getElem?_toArray.trans rfl) (fun K hK => ?_) ?_
    · go_simp
      have VN := V.out.new false none 0 0 none 0 0
      refine hK.out _ _ VN.2.2 (fun hHeld => ?_)
      have L2 := (V.out.lt (.head _)).2
      clear hK K
      try simp only [Act.put, List.setIfInBounds_toArray, List.set_cons_zero, List.set_cons_succ]
      rw [HG.out]
      exact st2_23_0.out f1 p1 q1 f2 p2 q2 g2 w.heap.size _ (Lib.hid (VN.sub (List.forall_mem_cons.2 ⟨(.tail _ (.head _)), List.forall_mem_cons.2 ⟨(.head _), fun _ h => by simp at h⟩⟩) (fun _ h => h))) F1 F2 (by omega)
    exact AllReadyH.nil)
  have st2_3_0 := Lib.hid (show ∀ (f1 : FB) (p1 q1 : Int) (f2 : FB) (p2 q2 : Int) (g3 : Nat) (w : World) (V : Hid (BoxF w1 [(g3, ⟨false, none, 0, 0, none, 0, 0⟩)] [(.slice f2.A f2.n f2.c, p2), (.slice f2.B f2.m f2.d, q2), (.slice f1.A f1.n f1.c, p1), (.slice f1.B f1.m f1.d, q1)] w)) (F1 : Hid (Sz 2 f1.s p1 q1 ∧ (p1 = 0 → a = 0))) (F2 : Hid (Sz 2 f2.s p2 q2 ∧ (p2 = 0 → a2 = 0))), G 6 #[true, true, true, true, true, true, true, true, true, true, true, true, true, true, false, false, false, true, false, false, false] { tmps := #[.agg #[.int .i16 a, .int .u8 b], .agg #[.int .i16 a2, .int .u8 b2], .agg #[.int .i16 a3, .int .u8 b3], .pointer (some ⟨W.heap.size, 0, none⟩), .pointer (some ⟨W.heap.size + 1, 0, none⟩), .pointer (some ⟨W.heap.size + 1 + 1, 0, none⟩), .bool false, undef, undef, .pointer (some ⟨g3, 0, none⟩), undef, undef, undef, .bool true, .bool false, .pointer (some ⟨W.heap.size, 0, none⟩), .int .i16 a, .pointer (some ⟨W.heap.size, 1, none⟩), .int .u8 b, .agg #[.bool f1.s, .slice f1.A f1.n f1.c, .slice f1.B f1.m f1.d], .pointer (some ⟨W.heap.size + 1, 0, none⟩), .int .i16 a2, .pointer (some ⟨W.heap.size + 1, 1, none⟩), .int .u8 b2, .agg #[.bool f2.s, .slice f2.A f2.n f2.c, .slice f2.B f2.m f2.d], .pointer (some ⟨W.heap.size + 1 + 1, 0, none⟩), .int .i16 a3, .pointer (some ⟨W.heap.size + 1 + 1, 1, none⟩), .int .u8 b3, undef, undef, undef, undef, undef, undef, undef, undef, undef, undef, undef, undef, undef, undef, undef, undef, undef, undef, undef, undef, undef, undef, undef, undef, undef, undef, undef, undef, undef, undef, undef, undef, undef, undef, undef, undef, undef, undef, undef, undef, undef, undef, undef, undef, undef, undef, undef, undef, undef, undef, undef, undef, undef, undef, undef, undef, undef, undef, undef, undef, undef, undef, undef, undef, undef, undef, undef, undef, undef, undef, undef, undef, undef, undef, undef, undef, undef, undef, undef, undef, undef, undef, undef, undef, undef, undef, undef, undef, undef, undef, undef, undef, undef, undef, undef, undef, undef, undef, undef, undef, undef, undef, undef, undef, undef, undef, undef, undef, undef, undef, undef, undef, undef, undef, undef, undef, undef, undef, undef, undef, undef], defers := [] } w from by
    intro f1 p1 q1 f2 p2 q2 g3 w V F1 F2
    rw [← HG.out]
    refine wpAnyH_ready (rs := [14, 15, 16]) (by kernel_rfl) (by simp) ?_
    refine AllReadyH.cons (List.getElem?_toArray.trans rfl) (fun K hK => ?_) ?_
    · go_simp
      refine (rmade_any a3 b3 _ he he2 hf hf2).mono ?_
      rintro e wn ⟨s, p, q, Ax, cx, kx, Bx, dx, lx, rfl, nx, mx, zx, ex, bx⟩
      try go_wp2_with fail
      have VN := ((V.out.go bx).num mx).num nx
      refine hK.out _ _ VN.2.2 (fun hHeld => ?_)
      clear hK K
      try simp only [Act.put, List.setIfInBounds_toArray, List.set_cons_zero, List.set_cons_succ]
      rw [HG.out]
      exact st3_3_0.out f1 p1 q1 f2 p2 q2 ⟨s, Ax, kx, cx, Bx, lx, dx⟩ p q g3 _ (Lib.hid (VN)) F1 F2 (Lib.hid ⟨zx, ex⟩)
    refine AllReadyH.cons (List.getElem?_toArray.trans rfl) (fun K hK => ?_) ?_
    · go_simp
      have VN := V.out.new false none 0 0 none 0 0
      refine hK.out _ _ VN.2.2 (fun hHeld => ?_)
      have L3 := (V.out.lt (.head _)).2
      clear hK K
      try simp only [Act.put, List.setIfInBounds_toArray, List.set_cons_zero, List.set_cons_succ]
      rw [HG.out]
      exact st2_13_0.out f1 p1 q1 f2 p2 q2 w.heap.size g3 _ (Lib.hid (VN.sub (List.forall_mem_cons.2 ⟨(.head _), List.forall_mem_cons.2 ⟨(.tail _ (.head _)), fun _ h => by simp at h⟩⟩) (fun _ h => h))) F1 F2 (by omega)
    refine AllReadyH.cons (List.getElem?_toArray.trans rfl) (fun K hK => ?_) ?_
    · go_simp
      have VN := V.out.new false none 0 0 none 0 0
      refine hK.out _ _ VN.2.2 (fun hHeld => ?_)
      have L3 := (V.out.lt (.head _)).2
      clear hK K
      try simp only [Act.put, List.setIfInBounds_toArray, List.set_cons_zero, List.set_cons_succ]
      rw [HG.out]
      exact st2_23_0.out f1 p1 q1 f2 p2 q2 w.heap.size g3 _ (Lib.hid (VN.sub (List.forall_mem_cons.2 ⟨(.head _), List.forall_mem_cons.2 ⟨(.tail _ (.head _)), fun _ h => by simp at h⟩⟩) (fun _ h => h))) F1 F2 (by omega)
    exact AllReadyH.nil)
  have st3_0_0 := Lib.hid (show ∀ (f1 : FB) (p1 q1 : Int) (f2 : FB) (p2 q2 : Int) (f3 : FB) (p3 q3 : Int) (w : World) (V : Hid (BoxF w1 [] [(.slice f3.A f3.n f3.c, p3), (.slice f3.B f3.m f3.d, q3), (.slice f2.A f2.n f2.c, p2), (.slice f2.B f2.m f2.d, q2), (.slice f1.A f1.n f1.c, p1), (.slice f1.B f1.m f1.d, q1)] w)) (F1 : Hid (Sz 2 f1.s p1 q1 ∧ (p1 = 0 → a = 0))) (F2 : Hid (Sz 2 f2.s p2 q2 ∧ (p2 = 0 → a2 = 0))) (F3 : Hid (Sz 2 f3.s p3 q3 ∧ (p3 = 0 → a3 = 0))), G 6 #[true, true, true, true, true, true, true, true, true, true, true, true, true, true, true, false, false, false, false, false, false] { tmps := #[.agg #[.int .i16 a, .int .u8 b], .agg #[.int .i16 a2, .int .u8 b2], .agg #[.int .i16 a3, .int .u8 b3], .pointer (some ⟨W.heap.size, 0, none⟩), .pointer (some ⟨W.heap.size + 1, 0, none⟩), .pointer (some ⟨W.heap.size + 1 + 1, 0, none⟩), .bool false, undef, undef, undef, undef, undef, undef, .bool true, .bool false, .pointer (some ⟨W.heap.size, 0, none⟩), .int .i16 a, .pointer (some ⟨W.heap.size, 1, none⟩), .int .u8 b, .agg #[.bool f1.s, .slice f1.A f1.n f1.c, .slice f1.B f1.m f1.d], .pointer (some ⟨W.heap.size + 1, 0, none⟩), .int .i16 a2, .pointer (some ⟨W.heap.size + 1, 1, none⟩), .int .u8 b2, .agg #[.bool f2.s, .slice f2.A f2.n f2.c, .slice f2.B f2.m f2.d], .pointer (some ⟨W.heap.size + 1 + 1, 0, none⟩), .int .i16 a3, .pointer (some ⟨W.heap.size + 1 + 1, 1, none⟩), .int .u8 b3, .agg #[.bool f3.s, .slice f3.A f3.n f3.c, .slice f3.B f3.m f3.d], undef, undef, undef, undef, undef, undef, undef, undef, undef, undef, undef, undef, undef, undef, undef, undef, undef, undef, undef, undef, undef, undef, undef, undef, undef, undef, undef, undef, undef, undef, undef, undef, undef, undef, undef, undef, undef, undef, undef, undef, undef, undef, undef, undef, undef, undef, undef, undef, undef, undef, undef, undef, undef, undef, undef, undef, undef, undef, undef, undef, undef, undef, undef, undef, undef, undef, undef, undef, undef, undef, undef, undef, undef, undef, undef, undef, undef, undef, undef, undef, undef, undef, undef, undef, undef, undef, undef, undef, undef, undef, undef, undef, undef, undef, undef, undef, undef, undef, undef, undef, undef, undef, undef, undef, undef, undef, undef, undef, undef, undef, undef, undef, undef, undef, undef, undef, undef, undef, undef, undef], defers := [] } w from by
    intro f1 p1 q1 f2 p2 q2 f3 p3 q3 w V F1 F2 F3
    rw [← HG.out]
    refine wpAnyH_ready (rs := [15, 16, 17]) (by kernel_rfl) (by simp) ?_
    refine AllReadyH.cons (List.getElem?_toArray.trans rfl) (fun K hK => ?_) ?_
    · go_simp
      have VN := V.out.new false none 0 0 none 0 0
      refine hK.out _ _ VN.2.2 (fun hHeld => ?_)
      clear hK K
      try simp only [Act.put, List.setIfInBounds_toArray, List.set_cons_zero, List.set_cons_succ]
      rw [HG.out]
      exact st3_1_0.out f1 p1 q1 f2 p2 q2 f3 p3 q3 w.heap.size _ (Lib.hid (VN.sub (List.forall_mem_cons.2 ⟨(.head _), fun _ h => by simp at h⟩) (fun _ h => h))) F1 F2 F3
    refine AllReadyH.cons (List.getElem?_toArray.trans rfl) (fun K hK => ?_) ?_
    · go_simp
      have VN := V.out.new false none 0 0 none 0 0
      refine hK.out _ _ VN.2.2 (fun hHeld => ?_)
      clear hK K
      try simp only [Act.put, List.setIfInBounds_toArray, List.set_cons_zero, List.set_cons_succ]
      rw [HG.out]
      exact st3_2_0.out f1 p1 q1 f2 p2 q2 f3 p3 q3 w.heap.size _ (Lib.hid (VN.sub (List.forall_mem_cons.2 ⟨(.head _), fun _ h => by simp at h⟩) (fun _ h => h))) F1 F2 F3
    refine AllReadyH.cons (List.getElem?_toArray.trans rfl) (fun K hK => ?_) ?_
    · go_simp
      have VN := V.out.new false none 0 0 none 0 0
      refine hK.out _ _ VN.2.2 (fun hHeld => ?_)
      clear hK K
      try simp only [Act.put, List.setIfInBounds_toArray, List.set_cons_zero, List.set_cons_succ]
      rw [HG.out]
      exact st3_3_0.out f1 p1 q1 f2 p2 q2 f3 p3 q3 w.heap.size _ (Lib.hid (VN.sub (List.forall_mem_cons.2 ⟨(.head _), fun _ h => by simp at h⟩) (fun _ h => h))) F1 F2 F3
    exact AllReadyH.nil)
  have st0_12_0 := Lib.hid (show ∀ (g1 : Nat) (g2 : Nat) (w : World) (V : Hid (BoxF w1 [(g1, ⟨false, none, 0, 0, none, 0, 0⟩), (g2, ⟨false, none, 0, 0, none, 0, 0⟩)] [] w)) (D12 : ¬ g1 = g2), G 7 #[true, true, true, true, false, true, true, true, true, false, true, true, true, true, false, true, true, false, false, false, false] { tmps := #[.agg #[.int .i16 a, .int .u8 b], .agg #[.int .i16 a2, .int .u8 b2], .agg #[.int .i16 a3, .int .u8 b3], .pointer (some ⟨W.heap.size, 0, none⟩), .pointer (some ⟨W.heap.size + 1, 0, none⟩), .pointer (some ⟨W.heap.size + 1 + 1, 0, none⟩), .bool false, .pointer (some ⟨g1, 0, none⟩), .pointer (some ⟨g2, 0, none⟩), undef, undef, undef, undef, .bool true, .bool false, .pointer (some ⟨W.heap.size, 0, none⟩), .int .i16 a, .pointer (some ⟨W.heap.size, 1, none⟩), .int .u8 b, undef, .pointer (some ⟨W.heap.size + 1, 0, none⟩), .int .i16 a2, .pointer (some ⟨W.heap.size + 1, 1, none⟩), .int .u8 b2, undef, .pointer (some ⟨W.heap.size + 1 + 1, 0, none⟩), .int .i16 a3, .pointer (some ⟨W.heap.size + 1 + 1, 1, none⟩), .int .u8 b3, undef, undef, undef, undef, undef, undef, undef, undef, undef, undef, undef, undef, undef, undef, undef, undef, undef, undef, undef, undef, undef, undef, undef, undef, undef, undef, undef, undef, undef, undef, undef, undef, undef, undef, undef, undef, undef, undef, undef, undef, undef, undef, undef, undef, undef, undef, undef, undef, undef, undef, undef, undef, undef, undef, undef, undef, undef, undef, undef, undef, undef, undef, undef, undef, undef, undef, undef, undef, undef, undef, undef, undef, undef, undef, undef, undef, undef, undef, undef, undef, undef, undef, undef, undef, undef, undef, undef, undef, undef, undef, undef, undef, undef, undef, undef, undef, undef, undef, undef, undef, undef, undef, undef, undef, undef, undef, undef, undef, undef, undef, undef, undef, undef, undef, undef, undef, undef, undef, undef, undef, undef], defers := [] } w from by
    intro g1 g2 w V D12
    rw [← HG.out]
    refine wpAnyH_ready (rs := [4, 17]) (by kernel_rfl) (by simp) ?_
    refine AllReadyH.cons (List.getElem?_toArray.trans rfl) (fun K hK => ?_) ?_
    · go_simp
      refine (rmade_any a b _ ha ha2 hb hb2).mono ?_
      rintro e wn ⟨s, p, q, Ax, cx, kx, Bx, dx, lx, rfl, nx, mx, zx, ex, bx⟩
      try go_wp2_with fail
      have VN := ((V.out.go bx).num mx).num nx
      refine hK.out _ _ VN.2.2 (fun hHeld => ?_)
      clear hK K
      try simp only [Act.put, List.setIfInBounds_toArray, List.set_cons_zero, List.set_cons_succ]
      rw [HG.out]
      exact st1_12_0.out ⟨s, Ax, kx, cx, Bx, lx, dx⟩ p q g1 g2 _ (Lib.hid (VN)) (Lib.hid ⟨zx, ex⟩) D12
    refine AllReadyH.cons (List.getElem?_toArray.trans rfl) (fun K hK => ?_) ?_
    · go_simp
      have VN := V.out.new false none 0 0 none 0 0
      refine hK.out _ _ VN.2.2 (fun hHeld => ?_)
      have L1 := (V.out.lt (.head _)).2
      have L2 := (V.out.lt (.tail _ (.head _))).2
      clear hK K
      try simp only [Act.put, List.setIfInBounds_toArray, List.set_cons_zero, List.set_cons_succ]
      rw [HG.out]
      exact st0_123_0.out g1 g2 w.heap.size _ (Lib.hid (VN.sub (List.forall_mem_cons.2 ⟨(.tail _ (.head _)), List.forall_mem_cons.2 ⟨(.tail _ (.tail _ (.head _))), List.forall_mem_cons.2 ⟨(.head _), fun _ h => by simp at h⟩⟩⟩) (fun _ h => h))) D12 (by omega) (by omega)
    exact AllReadyH.nil)
  have st0_13_0 := Lib.hid (show ∀ (g1 : Nat) (g3 : Nat) (w : World) (V : Hid (BoxF w1 [(g1, ⟨false, none, 0, 0, none, 0, 0⟩), (g3, ⟨false, none, 0, 0, none, 0, 0⟩)] [] w)) (D13 : ¬ g1 = g3), G 7 #[true, true, true, true, false, true, true, true, true, false, true, true, true, true, false, true, false, true, false, false, false] { tmps := #[.agg #[.int .i16 a, .int .u8 b], .agg #[.int .i16 a2, .int .u8 b2], .agg #[.int .i16 a3, .int .u8 b3], .pointer (some ⟨W.heap.size, 0, none⟩), .pointer (some ⟨W.heap.size + 1, 0, none⟩), .pointer (some ⟨W.heap.size + 1 + 1, 0, none⟩), .bool false, .pointer (some ⟨g1, 0, none⟩), undef, .pointer (some ⟨g3, 0, none⟩), undef, undef, undef, .bool true, .bool false, .pointer (some ⟨W.heap.size, 0, none⟩), .int .i16 a, .pointer (some ⟨W.heap.size, 1, none⟩), .int .u8 b, undef, .pointer (some ⟨W.heap.size + 1, 0, none⟩), .int .i16 a2, .pointer (some ⟨W.heap.size + 1, 1, none⟩), .int .u8 b2, undef, .pointer (some ⟨W.heap.size + 1 + 1, 0, none⟩), .int .i16 a3, .pointer (some ⟨W.heap.size + 1 + 1, 1, none⟩), .int .u8 b3, undef, undef, undef, undef, undef, undef, undef, undef, undef, undef, undef, undef, undef, undef, undef, undef, undef, undef, undef, undef, undef, undef, undef, undef, undef, undef, undef, undef, undef, undef, undef, undef, undef, undef, undef, undef, undef, undef, undef, undef, undef, undef, undef, undef, undef, undef, undef, undef, undef, undef, undef, undef, undef, undef, undef, undef, undef, undef, undef, undef, undef, undef, undef, undef, undef, undef, undef, undef, undef, undef, undef, undef, undef, undef, undef, undef, undef, undef, undef, undef, undef, undef, undef, undef, undef, undef, undef, undef, undef, undef, undef, undef, undef, undef, undef, undef, undef, undef, undef, undef, undef, undef, undef, undef, undef, undef, undef, undef, undef, undef, undef, undef, undef, undef, undef, undef, undef, undef, undef, undef, undef], defers := [] } w from by
    intro g1 g3 w V D13
    rw [← HG.out]
    refine wpAnyH_ready (rs := [4, 16]) (by kernel_rfl) (by simp) ?_
    refine AllReadyH.cons (List.getElem?_toArray.trans rfl) (fun K hK => ?_) ?_
    · go_simp
      refine (rmade_any a b _ ha ha2 hb hb2).mono ?_
      rintro e wn ⟨s, p, q, Ax, cx, kx, Bx, dx, lx, rfl, nx, mx, zx, ex, bx⟩
      try go_wp2_with fail
      have VN := ((V.out.go bx).num mx).num nx
      refine hK.out _ _ VN.2.2 (fun hHeld => ?_)
      clear hK K
      try simp only [Act.put, List.setIfInBounds_toArray, List.set_cons_zero, List.set_cons_succ]
      rw [HG.out]
      exact st1_13_0.out ⟨s, Ax, kx, cx, Bx, lx, dx⟩ p q g1 g3 _ (Lib.hid (VN)) (Lib.hid ⟨zx, ex⟩) D13
    refine AllReadyH.cons (List.getElem?_toArray.trans rfl) (fun K hK => ?_) ?_
    · go_simp
      have VN := V.out.new false none 0 0 none 0 0
      refine hK.out _ _ VN.2.2 (fun hHeld => ?_)
      have L1 := (V.out.lt (.head _)).2
      have L3 := (V.out.lt (.tail _ (.head _))).2
      clear hK K
      try simp only [Act.put, List.setIfInBounds_toArray, List.set_cons_zero, List.set_cons_succ]
      rw [HG.out]
      exact st0_123_0.out g1 w.heap.size g3 _ (Lib.hid (VN.sub (List.forall_mem_cons.2 ⟨(.tail _ (.head _)), List.forall_mem_cons.2 ⟨(.head _), List.forall_mem_cons.2 ⟨(.tail _ (.tail _ (.head _))), fun _ h => by simp at h⟩⟩⟩) (fun _ h => h))) (by omega) D13 (by omega)
    exact AllReadyH.nil)
  have st0_23_0 := Lib.hid (show ∀ (g2 : Nat) (g3 : Nat) (w : World) (V : Hid (BoxF w1 [(g2, ⟨false, none, 0, 0, none, 0, 0⟩), (g3, ⟨false, none, 0, 0, none, 0, 0⟩)] [] w)) (D23 : ¬ g2 = g3), G 7 #[true, true, true, true, false, true, true, true, true, false, true, true, true, true, false, false, true, true, false, false, false] { tmps := #[.agg #[.int .i16 a, .int .u8 b], .agg #[.int .i16 a2, .int .u8 b2], .agg #[.int .i16 a3, .int .u8 b3], .pointer (some ⟨W.heap.size, 0, none⟩), .pointer (some ⟨W.heap.size + 1, 0, none⟩), .pointer (some ⟨W.heap.size + 1 + 1, 0, none⟩), .bool false, undef, .pointer (some ⟨g2, 0, none⟩), .pointer (some ⟨g3, 0, none⟩), undef, undef, undef, .bool true, .bool false, .pointer (some ⟨W.heap.size, 0, none⟩), .int .i16 a, .pointer (some ⟨W.heap.size, 1, none⟩), .int .u8 b, undef, .pointer (some ⟨W.heap.size + 1, 0, none⟩), .int .i16 a2, .pointer (some ⟨W.heap.size + 1, 1, none⟩), .int .u8 b2, undef, .pointer (some ⟨W.heap.size + 1 + 1, 0, none⟩), .int .i16 a3, .pointer (some ⟨W.heap.size + 1 + 1, 1, none⟩), .int .u8 b3, undef, undef, undef, undef, undef, undef, undef, undef, undef, undef, undef, undef, undef, undef, undef, undef, undef, undef, undef, undef, undef, undef, undef, undef, undef, undef, undef, undef, undef, undef, undef, undef, undef, undef, undef, undef, undef, undef, undef, undef, undef, undef, undef, undef, undef, undef, undef, undef, undef, undef, undef, undef, undef, undef, undef, undef, undef, undef, undef, undef, undef, undef, undef, undef, undef, undef, undef, undef, undef, undef, undef, undef, undef, undef, undef, undef, undef, undef, undef, undef, undef, undef, undef, undef, undef, undef, undef, undef, undef, undef, undef, undef, undef, undef, undef, undef, undef, undef, undef, undef, undef, undef, undef, undef, undef, undef, undef, undef, undef, undef, undef, undef, undef, undef, undef, undef, undef, undef, undef, undef, undef], defers := [] } w from by
    intro g2 g3 w V D23
    rw [← HG.out]
    refine wpAnyH_ready (rs := [4, 15]) (by kernel_rfl) (by simp) ?_
    refine AllReadyH.cons (List.getElem?_toArray.trans rfl) (fun K hK => ?_) ?_
    · go_simp
      refine (rmade_any a b _ ha ha2 hb hb2).mono ?_
      rintro e wn ⟨s, p, q, Ax, cx, kx, Bx, dx, lx, rfl, nx, mx, zx, ex, bx⟩
      try go_wp2_with fail
      have VN := ((V.out.go bx).num mx).num nx
      refine hK.out _ _ VN.2.2 (fun hHeld => ?_)
      clear hK K
      try simp only [Act.put, List.setIfInBounds_toArray, List.set_cons_zero, List.set_cons_succ]
      rw [HG.out]
      exact st1_23_0.out ⟨s, Ax, kx, cx, Bx, lx, dx⟩ p q g2 g3 _ (Lib.hid (VN)) (Lib.hid ⟨zx, ex⟩) D23
    refine AllReadyH.cons (List.getElem?_toArray.trans rfl) (fun K hK => ?_) ?_
    · go_simp
      have VN := V.out.new false none 0 0 none 0 0
      refine hK.out _ _ VN.2.2 (fun hHeld => ?_)
      have L2 := (V.out.lt (.head _)).2
      have L3 := (V.out.lt (.tail _ (.head _))).2
      clear hK K
      try simp only [Act.put, List.setIfInBounds_toArray, List.set_cons_zero, List.set_cons_succ]
      rw [HG.out]
      exact st0_123_0.out w.heap.size g2 g3 _ (Lib.hid (VN.sub (List.forall_mem_cons.2 ⟨(.head _), List.forall_mem_cons.2 ⟨(.tail _ (.head _)), List.forall_mem_cons.2 ⟨(.tail _ (.tail _ (.head _))), fun _ h => by simp at h⟩⟩⟩) (fun _ h => h))) (by omega) (by omega) D23
    exact AllReadyH.nil)
  have st1_1_0 := Lib.hid (show ∀ (f1 : FB) (p1 q1 : Int) (g1 : Nat) (w : World) (V : Hid (BoxF w1 [(g1, ⟨false, none, 0, 0, none, 0, 0⟩)] [(.slice f1.A f1.n f1.c, p1), (.slice f1.B f1.m f1.d, q1)] w)) (F1 : Hid (Sz 2 f1.s p1 q1 ∧ (p1 = 0 → a = 0))), G 7 #[true, true, true, true, true, true, true, true, true, false, true, true, true, true, false, true, false, false, false, false, false] { tmps := #[.agg #[.int .i16 a, .int .u8 b], .agg #[.int .i16 a2, .int .u8 b2], .agg #[.int .i16 a3, .int .u8 b3], .pointer (some ⟨W.heap.size, 0, none⟩), .pointer (some ⟨W.heap.size + 1, 0, none⟩), .pointer (some ⟨W.heap.size + 1 + 1, 0, none⟩), .bool false, .pointer (some ⟨g1, 0, none⟩), undef, undef, undef, undef, undef, .bool true, .bool false, .pointer (some ⟨W.heap.size, 0, none⟩), .int .i16 a, .pointer (some ⟨W.heap.size, 1, none⟩), .int .u8 b, .agg #[.bool f1.s, .slice f1.A f1.n f1.c, .slice f1.B f1.m f1.d], .pointer (some ⟨W.heap.size + 1, 0, none⟩), .int .i16 a2, .pointer (some ⟨W.heap.size + 1, 1, none⟩), .int .u8 b2, undef, .pointer (some ⟨W.heap.size + 1 + 1, 0, none⟩), .int .i16 a3, .pointer (some ⟨W.heap.size + 1 + 1, 1, none⟩), .int .u8 b3, undef, undef, undef, undef, undef, undef, undef, undef, undef, undef, undef, undef, undef, undef, undef, undef, undef, undef, undef, undef, undef, undef, undef, undef, undef, undef, undef, undef, undef, undef, undef, undef, undef, undef, undef, undef, undef, undef, undef, undef, undef, undef, undef, undef, undef, undef, undef, undef, undef, undef, undef, undef, undef, undef, undef, undef, undef, undef, undef, undef, undef, undef, undef, undef, undef, undef, undef, undef, undef, undef, undef, undef, undef, undef, undef, undef, undef, undef, undef, undef, undef, undef, undef, undef, undef, undef, undef, undef, undef, undef, undef, undef, undef, undef, undef, undef, undef, undef, undef, undef, undef, undef, undef, undef, undef, undef, undef, undef, undef, undef, undef, undef, undef, undef, undef, undef, undef, undef, undef, undef, undef], defers := [] } w from by
    intro f1 p1 q1 g1 w V F1
    rw [← HG.out]
    refine wpAnyH_ready (rs := [9, 16, 17]) (by kernel_rfl) (by simp) ?_
    refine AllReadyH.cons (List.getElem?_toArray.trans rfl) (fun K hK => ?_) ?_
    · go_simp
      refine (rmade_any a2 b2 _ hc hc2 hd hd2).mono ?_
      rintro e wn ⟨s, p, q, Ax, cx, kx, Bx, dx, lx, rfl, nx, mx, zx, ex, bx⟩
      try go_wp2_with fail
      have VN := ((V.out.go bx).num mx).num nx
      refine hK.out _ _ VN.2.2 (fun hHeld => ?_)
      clear hK K
      try simp only [Act.put, List.setIfInBounds_toArray, List.set_cons_zero, List.set_cons_succ]
      rw [HG.out]
      exact st2_1_0.out f1 p1 q1 ⟨s, Ax, kx, cx, Bx, lx, dx⟩ p q g1 _ (Lib.hid (VN)) F1 (Lib.hid ⟨zx, ex⟩)
    refine AllReadyH.cons (List.getElem?_toArray.trans rfl) (fun K hK => ?_) ?_
    · go_simp
      have VN := V.out.new false none 0 0 none 0 0
      refine hK.out _ _ VN.2.2 (fun hHeld => ?_)
      have L1 := (V.out.lt (.head _)).2
      clear hK K
      try simp only [Act.put, List.setIfInBounds_toArray, List.set_cons_zero, List.set_cons_succ]
      rw [HG.out]
      exact st1_12_0.out f1 p1 q1 g1 w.heap.size _ (Lib.hid (VN.sub (List.forall_mem_cons.2 ⟨(.tail _ (.head _)), List.forall_mem_cons.2 ⟨(.head _), fun _ h => by simp at h⟩⟩) (fun _ h => h))) F1 (by omega)
    refine AllReadyH.cons (List.getElem?_toArray.trans rfl) (fun K hK => ?_) ?_
    · go_simp
      have VN := V.out.new false none 0 0 none 0 0
      refine hK.out _ _ VN.2.2 (fun hHeld => ?_)
      have L1 := (V.out.lt (.head _)).2
      clear hK K
      try simp only [Act.put, List.setIfInBounds_toArray, List.set_cons_zero, List.set_cons_succ]
      rw [HG.out]
      exact st1_13_0.out f1 p1 q1 g1 w.heap.size _ (Lib.hid (VN.sub (List.forall_mem_cons.2 ⟨(.tail _ (.head _)), List.forall_mem_cons.2 ⟨(.head _), fun _ h => by simp at h⟩⟩) (fun _ h => h))) F1 (by omega)
    exact AllReadyH.nil)
  have st1_2_0 := Lib.hid (show ∀ (f1 : FB) (p1 q1 : Int) (g2 : Nat) (w : World) (V : Hid (BoxF w1 [(g2, ⟨false, none, 0, 0, none, 0, 0⟩)] [(.slice f1.A f1.n f1.c, p1), (.slice f1.B f1.m f1.d, q1)] w)) (F1 : Hid (Sz 2 f1.s p1 q1 ∧ (p1 = 0 → a = 0))), G 7 #[true, true, true, true, true, true, true, true, true, false, true, true, true, true, false, false, true, false, false, false, false] { tmps := #[.agg #[.int .i16 a, .int .u8 b], .agg #[.int .i16 a2, .int .u8 b2], .agg #[.int .i16 a3, .int .u8 b3], .pointer (some ⟨W.heap.size, 0, none⟩), .pointer (some ⟨W.heap.size + 1, 0, none⟩), .pointer (some ⟨W.heap.size + 1 + 1, 0, none⟩), .bool false, undef, .pointer (some ⟨g2, 0, none⟩), undef, undef, undef, undef, .bool true, .bool false, .pointer (some ⟨W.heap.size, 0, none⟩), .int .i16 a, .pointer (some ⟨W.heap.size, 1, none⟩), .int .u8 b, .agg #[.bool f1.s, .slice f1.A f1.n f1.c, .slice f1.B f1.m f1.d], .pointer (some ⟨W.heap.size + 1, 0, none⟩), .int .i16 a2, .pointer (some ⟨W.heap.size + 1, 1, none⟩), .int .u8 b2, undef, .pointer (some ⟨W.heap.size + 1 + 1, 0, none⟩), .int .i16 a3, .pointer (some ⟨W.heap.size + 1 + 1, 1, none⟩), .int .u8 b3, undef, undef, undef, undef, undef, undef, undef, undef, undef, undef, undef, undef, undef, undef, undef, undef, undef, undef, undef, undef, undef, undef, undef, undef, undef, undef, undef, undef, undef, undef, undef, undef, undef, undef, undef, undef, undef, undef, undef, undef, undef, undef, undef, undef, undef, undef, undef, undef, undef, undef, undef, undef, undef, undef, undef, undef, undef, undef, undef, undef, undef, undef, undef, undef, undef, undef, undef, undef, undef, undef, undef, undef, undef, undef, undef, undef, undef, undef, undef, undef, undef, undef, undef, undef, undef, undef, undef, undef, undef, undef, undef, undef, undef, undef, undef, undef, undef, undef, undef, undef, undef, undef, undef, undef, undef, undef, undef, undef, undef, undef, undef, undef, undef, undef, undef, undef, undef, undef, undef, undef, undef], defers := [] } w from by
    intro f1 p1 q1 g2 w V F1
    rw [← HG.out]
    refine wpAnyH_ready (rs := [9, 15, 17]) (by kernel_rfl) (by simp) ?_
    refine AllReadyH.cons (List.getElem?_toArray.trans rfl) (fun K hK => ?_) ?_
    · go_simp
      refine (rmade_any a2 b2 _ hc hc2 hd hd2).mono ?_
      rintro e wn ⟨s, p, q, Ax, cx, kx, Bx, dx, lx, rfl, nx, mx, zx, ex, bx⟩
      try go_wp2_with fail
      have VN := ((V.out.go bx).num mx).num nx
      refine hK.out _ _ VN.2.2 (fun hHeld => ?_)
      clear hK K
      try simp only [Act.put, List.setIfInBounds_toArray, List.set_cons_zero, List.set_cons_succ]
      rw [HG.out]
      exact st2_2_0.out f1 p1 q1 ⟨s, Ax, kx, cx, Bx, lx, dx⟩ p q g2 _ (Lib.hid (VN)) F1 (Lib.hid ⟨zx, ex⟩)
    refine AllReadyH.cons (List.getElem?_toArray.trans rfl) (fun K hK => ?_) ?_
    · go_simp
      have VN := V.out.new false none 0 0 none 0 0
      refine hK.out _ _ VN.2.2 (fun hHeld => ?_)
      have L2 := (V.out.lt (.head _)).2
      clear hK K
      try simp only [Act.put, List.setIfInBounds_toArray, List.set_cons_zero, List.set_cons_succ]
      rw [HG.out]
      exact st1_12_0.out f1 p1 q1 w.heap.size g2 _ (Lib.hid (VN.sub (List.forall_mem_cons.2 ⟨(.head _), List.forall_mem_cons.2 ⟨(.tail _ (.head _)), fun _ h => by simp at h⟩⟩) (fun _ h => h))) F1 (by omega)
    refine AllReadyH.cons (List.getElem?_toArray.trans rfl) (fun K hK => ?_) ?_
    · go_simp
      have VN := V.out.new false none 0 0 none 0 0
      refine hK.out _ _ VN.2.2 (fun hHeld => ?_)
      have L2 := (V.out.lt (.head _)).2
      clear hK K
      try simp only [Act.put, List.setIfInBounds_toArray, List.set_cons_zero, List.set_cons_succ]
      rw [HG.out]
      exact st1_23_0.out f1 p1 q1 g2 w.heap.size _ (Lib.hid (VN.sub (List.forall_mem_cons.2 ⟨(.tail _ (.head _)), List.forall_mem_cons.2 ⟨(.head _), fun _ h => by simp at h⟩⟩) (fun _ h => h))) F1 (by omega)
    exact AllReadyH.nil)
  have st1_3_0 := Lib.hid (show ∀ (f1 : FB) (p1 q1 : Int) (g3 : Nat) (w : World) (V : Hid (BoxF w1 [(g3, ⟨false, none, 0, 0, none, 0, 0⟩)] [(.slice f1.A f1.n f1.c, p1), (.slice f1.B f1.m f1.d, q1)] w)) (F1 : Hid (Sz 2 f1.s p1 q1 ∧ (p1 = 0 → a = 0))), G 7 #[true, true, true, true, true, true, true, true, true, false, true, true, true, true, false, false, false, true, false, false, false] { tmps := #[.agg #[.int .i16 a, .int .u8 b], .agg #[.int .i16 a2, .int .u8 b2], .agg #[.int .i16 a3, .int .u8 b3], .pointer (some ⟨W.heap.size, 0, none⟩), .pointer (some ⟨W.heap.size + 1, 0, none⟩), .pointer (some ⟨W.heap.size + 1 + 1, 0, none⟩), .bool false, undef, undef, .pointer (some ⟨g3, 0, none⟩), undef, undef, undef, .bool true, .bool false, .pointer (some ⟨W.heap.size, 0, none⟩), .int .i16 a, .pointer (some ⟨W.heap.size, 1, none⟩), .int .u8 b, .agg #[.bool f1.s, .slice f1.A f1.n f1.c, .slice f1.B f1.m f1.d], .pointer (some ⟨W.heap.size + 1, 0, none⟩), .int .i16 a2, .pointer (some ⟨W.heap.size + 1, 1, none⟩), .int .u8 b2, undef, .pointer (some ⟨W.heap.size + 1 + 1, 0, none⟩), .int .i16 a3, .pointer (some ⟨W.heap.size + 1 + 1, 1, none⟩), .int .u8 b3, undef, undef, undef, undef, undef, undef, undef, undef, undef, undef, undef, undef, undef, undef, undef, undef, undef, undef, undef, undef, undef, undef, undef, undef, undef, undef, undef, undef, undef, undef, undef, undef, undef, undef, undef, undef, undef, undef, undef, undef, undef, undef, undef, undef, undef, undef, undef, undef, undef, undef, undef, undef, undef, undef, undef, undef, undef, undef, undef, undef, undef, undef, undef, undef, undef, undef, undef, undef, undef, undef, undef, undef, undef, undef, undef, undef, undef, undef, undef, undef, undef, undef, undef, undef, undef, undef, undef, undef, undef, undef, undef, undef, undef, undef, undef, undef, undef, undef, undef, undef, undef, undef, undef, undef, undef, undef, undef, undef, undef, undef, undef, undef, undef, undef, undef, undef, undef, undef, undef, undef, undef], defers := [] } w from by
    intro f1 p1 q1 g3 w V F1
    rw [← HG.out]
    refine wpAnyH_ready (rs := [9, 15, 16]) (by kernel_rfl) (by simp) ?_
    refine AllReadyH.cons (List.getElem?_toArray.trans rfl) (fun K hK => ?_) ?_
    · go_simp
      refine (rmade_any a2 b2 _ hc hc2 hd hd2).mono ?_
      rintro e wn ⟨s, p, q, Ax, cx, kx, Bx, dx, lx, rfl, nx, mx, zx, ex, bx⟩
      try go_wp2_with fail
      have VN := ((V.out.go bx).num mx).num nx
      refine hK.out _ _ VN.2.2 (fun hHeld => ?_)
      clear hK K
      try simp only [Act.put, List.setIfInBounds_toArray, List.set_cons_zero, List.set_cons_succ]
      rw [HG.out]
      exact st2_3_0.out f1 p1 q1 ⟨s, Ax, kx, cx, Bx, lx, dx⟩ p q g3 _ (Lib.hid (VN)) F1 (Lib.hid ⟨zx, ex⟩)
    refine AllReadyH.cons (List.getElem?_toArray.trans rfl) (fun K hK => ?_) ?_
    · go_simp
      have VN := V.out.new false none 0 0 none 0 0
      refine hK.out _ _ VN.2.2 (fun hHeld => ?_)
      have L3 := (V.out.lt (.head _)).2
      clear hK K
      try simp only [Act.put, List.setIfInBounds_toArray, List.set_cons_zero, List.set_cons_succ]
      rw [HG.out]
      exact st1_13_0.out f1 p1 q1 w.heap.size g3 _ (Lib.hid (VN.sub (List.forall_mem_cons.2 ⟨(.head _), List.forall_mem_cons.2 ⟨(.tail _ (.head _)), fun _ h => by simp at h⟩⟩) (fun _ h => h))) F1 (by omega)
    refine AllReadyH.cons (List.getElem?_toArray.trans rfl) (fun K hK => ?_) ?_
    · go_simp
      have VN := V.out.new false none 0 0 none 0 0
      refine hK.out _ _ VN.2.2 (fun hHeld => ?_)
      have L3 := (V.out.lt (.head _)).2
      clear hK K
      try simp only [Act.put, List.setIfInBounds_toArray, List.set_cons_zero, List.set_cons_succ]
      rw [HG.out]
      exact st1_23_0.out f1 p1 q1 w.heap.size g3 _ (Lib.hid (VN.sub (List.forall_mem_cons.2 ⟨(.head _), List.forall_mem_cons.2 ⟨(.tail _ (.head _)), fun _ h => by simp at h⟩⟩) (fun _ h => h))) F1 (by omega)
    exact AllReadyH.nil)
  have st2_0_0 := Lib.hid (show ∀ (f1 : FB) (p1 q1 : Int) (f2 : FB) (p2 q2 : Int) (w : World) (V : Hid (BoxF w1 [] [(.slice f2.A f2.n f2.c, p2), (.slice f2.B f2.m f2.d, q2), (.slice f1.A f1.n f1.c, p1), (.slice f1.B f1.m f1.d, q1)] w)) (F1 : Hid (Sz 2 f1.s p1 q1 ∧ (p1 = 0 → a = 0))) (F2 : Hid (Sz 2 f2.s p2 q2 ∧ (p2 = 0 → a2 = 0))), G 7 #[true, true, true, true, true, true, true, true, true, true, true, true, true, true, false, false, false, false, false, false, false] { tmps := #[.agg #[.int .i16 a, .int .u8 b], .agg #[.int .i16 a2, .int .u8 b2], .agg #[.int .i16 a3, .int .u8 b3], .pointer (some ⟨W.heap.size, 0, none⟩), .pointer (some ⟨W.heap.size + 1, 0, none⟩), .pointer (some ⟨W.heap.size + 1 + 1, 0, none⟩), .bool false, undef, undef, undef, undef, undef, undef, .bool true, .bool false, .pointer (some ⟨W.heap.size, 0, none⟩), .int .i16 a, .pointer (some ⟨W.heap.size, 1, none⟩), .int .u8 b, .agg #[.bool f1.s, .slice f1.A f1.n f1.c, .slice f1.B f1.m f1.d], .pointer (some ⟨W.heap.size + 1, 0, none⟩), .int .i16 a2, .pointer (some ⟨W.heap.size + 1, 1, none⟩), .int .u8 b2, .agg #[.bool f2.s, .slice f2.A f2.n f2.c, .slice f2.B f2.m f2.d], .pointer (some ⟨W.heap.size + 1 + 1, 0, none⟩), .int .i16 a3, .pointer (some ⟨W.heap.size + 1 + 1, 1, none⟩), .int .u8 b3, undef, undef, undef, undef, undef, undef, undef, undef, undef, undef, undef, undef, undef, undef, undef, undef, undef, undef, undef, undef, undef, undef, undef, undef, undef, undef, undef, undef, undef, undef, undef, undef, undef, undef, undef, undef, undef, undef, undef, undef, undef, undef, undef, undef, undef, undef, undef, undef, undef, undef, undef, undef, undef, undef, undef, undef, undef, undef, undef, undef, undef, undef, undef, undef, undef, undef, undef, undef, undef, undef, undef, undef, undef, undef, undef, undef, undef, undef, undef, undef, undef, undef, undef, undef, undef, undef, undef, undef, undef, undef, undef, undef, undef, undef, undef, undef, undef, undef, undef, undef, undef, undef, undef, undef, undef, undef, undef, undef, undef, undef, undef, undef, undef, undef, undef, undef, undef, undef, undef, undef, undef], defers := [] } w from by
    intro f1 p1 q1 f2 p2 q2 w V F1 F2
    rw [← HG.out]
    refine wpAnyH_ready (rs := [14, 15, 16, 17]) (by kernel_rfl) (by simp) ?_
    refine AllReadyH.cons (List.getElem?_toArray.trans rfl) (fun K hK => ?_) ?_
    · go_simp
      refine (rmade_any a3 b3 _ he he2 hf hf2).mono ?_
      rintro e wn ⟨s, p, q, Ax, cx, kx, Bx, dx, lx, rfl, nx, mx, zx, ex, bx⟩
      try go_wp2_with fail
      have VN := ((V.out.go bx).num mx).num nx
      refine hK.out _ _ VN.2.2 (fun hHeld => ?_)
      clear hK K
      try simp only [Act.put, List.setIfInBounds_toArray, List.set_cons_zero, List.set_cons_succ]
      rw [HG.out]
      exact st3_0_0.out f1 p1 q1 f2 p2 q2 ⟨s, Ax, kx, cx, Bx, lx, dx⟩ p q _ (Lib.hid (VN)) F1 F2 (Lib.hid ⟨zx, ex⟩)
    refine AllReadyH.cons (List.getElem?_toArray.trans rfl) (fun K hK => ?_) ?_
    · go_simp
      have VN := V.out.new false none 0 0 none 0 0
      refine hK.out _ _ VN.2.2 (fun hHeld => ?_)
      clear hK K
      try simp only [Act.put, List.setIfInBounds_toArray, List.set_cons_zero, List.set_cons_succ]
      rw [HG.out]
      exact st2_1_0.out f1 p1 q1 f2 p2 q2 w.heap.size _ (Lib.hid (VN.sub (List.forall_mem_cons.2 ⟨(.head _), fun _ h => by simp at h⟩) (fun _ h => h))) F1 F2
    refine AllReadyH.cons (List.getElem?_toArray.trans rfl) (fun K hK => ?_) ?_
    · go_simp
      have VN := V.out.new false none 0 0 none 0 0
      refine hK.out _ _ VN.2.2 (fun hHeld => ?_)
      clear hK K
      try simp only [Act.put, List.setIfInBounds_toArray, List.set_cons_zero, List.set_cons_succ]
      rw [HG.out]
      exact st2_2_0.out f1 p1 q1 f2 p2 q2 w.heap.size _ (Lib.hid (VN.sub (List.forall_mem_cons.2 ⟨(.head _), fun _ h => by simp at h⟩) (fun _ h => h))) F1 F2
    refine AllReadyH.cons (List.getElem?_toArray.trans rfl) (fun K hK => ?_) ?_
    · go_simp
      have VN := V.out.new false none 0 0 none 0 0
      refine hK.out _ _ VN.2.2 (fun hHeld => ?_)
      clear hK K
      try simp only [Act.put, List.setIfInBounds_toArray, List.set_cons_zero, List.set_cons_succ]
      rw [HG.out]
      exact st2_3_0.out f1 p1 q1 f2 p2 q2 w.heap.size _ (Lib.hid (VN.sub (List.forall_mem_cons.2 ⟨(.head _), fun _ h => by simp at h⟩) (fun _ h => h))) F1 F2
    exact AllReadyH.nil)
  have st0_1_0 := Lib.hid (show ∀ (g1 : Nat) (w : World) (V : Hid (BoxF w1 [(g1, ⟨false, none, 0, 0, none, 0, 0⟩)] [] w)), G 8 #[true, true, true, true, false, true, true, true, true, false, true, true, true, true, false, true, false, false, false, false, false] { tmps := #[.agg #[.int .i16 a, .int .u8 b], .agg #[.int .i16 a2, .int .u8 b2], .agg #[.int .i16 a3, .int .u8 b3], .pointer (some ⟨W.heap.size, 0, none⟩), .pointer (some ⟨W.heap.size + 1, 0, none⟩), .pointer (some ⟨W.heap.size + 1 + 1, 0, none⟩), .bool false, .pointer (some ⟨g1, 0, none⟩), undef, undef, undef, undef, undef, .bool true, .bool false, .pointer (some ⟨W.heap.size, 0, none⟩), .int .i16 a, .pointer (some ⟨W.heap.size, 1, none⟩), .int .u8 b, undef, .pointer (some ⟨W.heap.size + 1, 0, none⟩), .int .i16 a2, .pointer (some ⟨W.heap.size + 1, 1, none⟩), .int .u8 b2, undef, .pointer (some ⟨W.heap.size + 1 + 1, 0, none⟩), .int .i16 a3, .pointer (some ⟨W.heap.size + 1 + 1, 1, none⟩), .int .u8 b3, undef, undef, undef, undef, undef, undef, undef, undef, undef, undef, undef, undef, undef, undef, undef, undef, undef, undef, undef, undef, undef, undef, undef, undef, undef, undef, undef, undef, undef, undef, undef, undef, undef, undef, undef, undef, undef, undef, undef, undef, undef, undef, undef, undef, undef, undef, undef, undef, undef, undef, undef, undef, undef, undef, undef, undef, undef, undef, undef, undef, undef, undef, undef, undef, undef, undef, undef, undef, undef, undef, undef, undef, undef, undef, undef, undef, undef, undef, undef, undef, undef, undef, undef, undef, undef, undef, undef, undef, undef, undef, undef, undef, undef, undef, undef, undef, undef, undef, undef, undef, undef, undef, undef, undef, undef, undef, undef, undef, undef, undef, undef, undef, undef, undef, undef, undef, undef, undef, undef, undef, undef], defers := [] } w from by
    intro g1 w V
    rw [← HG.out]
    refine wpAnyH_ready (rs := [4, 16, 17]) (by kernel_rfl) (by simp) ?_
    refine AllReadyH.cons (List.getElem?_toArray.trans rfl) (fun K hK => ?_) ?_
    · go_simp
      refine (rmade_any a b _ ha ha2 hb hb2).mono ?_
      rintro e wn ⟨s, p, q, Ax, cx, kx, Bx, dx, lx, rfl, nx, mx, zx, ex, bx⟩
      try go_wp2_with fail
      have VN := ((V.out.go bx).num mx).num nx
      refine hK.out _ _ VN.2.2 (fun hHeld => ?_)
      clear hK K
      try simp only [Act.put, List.setIfInBounds_toArray, List.set_cons_zero, List.set_cons_succ]
      rw [HG.out]
      exact st1_1_0.out ⟨s, Ax, kx, cx, Bx, lx, dx⟩ p q g1 _ (Lib.hid (VN)) (Lib.hid ⟨zx, ex⟩)
    refine AllReadyH.cons (List.getElem?_toArray.trans rfl) (fun K hK => ?_) ?_
    · go_simp
      have VN := V.out.new false none 0 0 none 0 0
      refine hK.out _ _ VN.2.2 (fun hHeld => ?_)
      have L1 := (V.out.lt (.head _)).2
      clear hK K
      try simp only [Act.put, List.setIfInBounds_toArray, List.set_cons_zero, List.set_cons_succ]
      rw [HG.out]
      exact st0_12_0.out g1 w.heap.size _ (Lib.hid (VN.sub (List.forall_mem_cons.2 ⟨(.tail _ (.head _)), List.forall_mem_cons.2 ⟨(.head _), fun _ h => by simp at h⟩⟩) (fun _ h => h))) (by omega)
    refine AllReadyH.cons (List.getElem?_toArray.trans rfl) (fun K hK => ?_) ?_
    · go_simp
      have VN := V.out.new false none 0 0 none 0 0
      refine hK.out _ _ VN.2.2 (fun hHeld => ?_)
      have L1 := (V.out.lt (.head _)).2
      clear hK K
      try simp only [Act.put, List.setIfInBounds_toArray, List.set_cons_zero, List.set_cons_succ]
      rw [HG.out]
      exact st0_13_0.out g1 w.heap.size _ (Lib.hid (VN.sub (List.forall_mem_cons.2 ⟨(.tail _ (.head _)), List.forall_mem_cons.2 ⟨(.head _), fun _ h => by simp at h⟩⟩) (fun _ h => h))) (by omega)
    exact AllReadyH.nil)
  have st0_2_0 := Lib.hid (show ∀ (g2 : Nat) (w : World) (V : Hid (BoxF w1 [(g2, ⟨false, none, 0, 0, none, 0, 0⟩)] [] w)), G 8 #[true, true, true, true, false, true, true, true, true, false, true, true, true, true, false, false, true, false, false, false, false] { tmps := #[.agg #[.int .i16 a, .int .u8 b], .agg #[.int .i16 a2, .int .u8 b2], .agg #[.int .i16 a3, .int .u8 b3], .pointer (some ⟨W.heap.size, 0, none⟩), .pointer (some ⟨W.heap.size + 1, 0, none⟩), .pointer (some ⟨W.heap.size + 1 + 1, 0, none⟩), .bool false, undef, .pointer (some ⟨g2, 0, none⟩), undef, undef, undef, undef, .bool true, .bool false, .pointer (some ⟨W.heap.size, 0, none⟩), .int .i16 a, .pointer (some ⟨W.heap.size, 1, none⟩), .int .u8 b, undef, .pointer (some ⟨W.heap.size + 1, 0, none⟩), .int .i16 a2, .pointer (some ⟨W.heap.size + 1, 1, none⟩), .int .u8 b2, undef, .pointer (some ⟨W.heap.size + 1 + 1, 0, none⟩), .int .i16 a3, .pointer (some ⟨W.heap.size + 1 + 1, 1, none⟩), .int .u8 b3, undef, undef, undef, undef, undef, undef, undef, undef, undef, undef, undef, undef, undef, undef, undef, undef, undef, undef, undef, undef, undef, undef, undef, undef, undef, undef, undef, undef, undef, undef, undef, undef, undef, undef, undef, undef, undef, undef, undef, undef, undef, undef, undef, undef, undef, undef, undef, undef, undef, undef, undef, undef, undef, undef, undef, undef, undef, undef, undef, undef, undef, undef, undef, undef, undef, undef, undef, undef, undef, undef, undef, undef, undef, undef, undef, undef, undef, undef, undef, undef, undef, undef, undef, undef, undef, undef, undef, undef, undef, undef, undef, undef, undef, undef, undef, undef, undef, undef, undef, undef, undef, undef, undef, undef, undef, undef, undef, undef, undef, undef, undef, undef, undef, undef, undef, undef, undef, undef, undef, undef, undef], defers := [] } w from by
    intro g2 w V
    rw [← HG.out]
    refine wpAnyH_ready (rs := [4, 15, 17]) (by kernel_rfl) (by simp) ?_
    refine AllReadyH.cons (List.getElem?_toArray.trans rfl) (fun K hK => ?_) ?_
    · go_simp
      refine (rmade_any a b _ ha ha2 hb hb2).mono ?_
      rintro e wn ⟨s, p, q, Ax, cx, kx, Bx, dx, lx, rfl, nx, mx, zx, ex, bx⟩
      try go_wp2_with fail
      have VN := ((V.out.go bx).num mx).num nx
      refine hK.out _ _ VN.2.2 (fun hHeld => ?_)
      clear hK K
      try simp only [Act.put, List.setIfInBounds_toArray, List.set_cons_zero, List.set_cons_succ]
      rw [HG.out]
      exact st1_2_0.out ⟨s, Ax, kx, cx, Bx, lx, dx⟩ p q g2 _ (Lib.hid (VN)) (Lib.hid ⟨zx, ex⟩)
    refine AllReadyH.cons (List.getElem?_toArray.trans rfl) (fun K hK => ?_) ?_
    · go_simp
      have VN := V.out.new false none 0 0 none 0 0
      refine hK.out _ _ VN.2.2 (fun hHeld => ?_)
      have L2 := (V.out.lt (.head _)).2
      clear hK K
      try simp only [Act.put, List.setIfInBounds_toArray, List.set_cons_zero, List.set_cons_succ]
      rw [HG.out]
      exact st0_12_0.out w.heap.size g2 _ (Lib.hid (VN.sub (List.forall_mem_cons.2 ⟨(.head _), List.forall_mem_cons.2 ⟨(.tail _ (.head _)), fun _ h => by simp at h⟩⟩) (fun _ h => h))) (by omega)
    refine AllReadyH.cons (List.getElem?_toArray.trans rfl) (fun K hK => ?_) ?_
    · go_simp
      have VN := V.out.new false none 0 0 none 0 0
      refine hK.out _ _ VN.2.2 (fun hHeld => ?_)
      have L2 := (V.out.lt (.head _)).2
      clear hK K
      try simp only [Act.put, List.setIfInBounds_toArray, List.set_cons_zero, List.set_cons_succ]
      rw [HG.out]
      exact st0_23_0.out g2 w.heap.size _ (Lib.hid (VN.sub (List.forall_mem_cons.2 ⟨(.tail _ (.head _)), List.forall_mem_cons.2 ⟨(.head _), fun _ h => by simp at h⟩⟩) (fun _ h => h))) (by omega)
    exact AllReadyH.nil)
  have st0_3_0 := Lib.hid (show ∀ (g3 : Nat) (w : World) (V : Hid (BoxF w1 [(g3, ⟨false, none, 0, 0, none, 0, 0⟩)] [] w)), G 8 #[true, true, true, true, false, true, true, true, true, false, true, true, true, true, false, false, false, true, false, false, false] { tmps := #[.agg #[.int .i16 a, .int .u8 b], .agg #[.int .i16 a2, .int .u8 b2], .agg #[.int .i16 a3, .int .u8 b3], .pointer (some ⟨W.heap.size, 0, none⟩), .pointer (some ⟨W.heap.size + 1, 0, none⟩), .pointer (some ⟨W.heap.size + 1 + 1, 0, none⟩), .bool false, undef, undef, .pointer (some ⟨g3, 0, none⟩), undef, undef, undef, .bool true, .bool false, .pointer (some ⟨W.heap.size, 0, none⟩), .int .i16 a, .pointer (some ⟨W.heap.size, 1, none⟩), .int .u8 b, undef, .pointer (some ⟨W.heap.size + 1, 0, none⟩), .int .i16 a2, .pointer (some ⟨W.heap.size + 1, 1, none⟩), .int .u8 b2, undef, .pointer (some ⟨W.heap.size + 1 + 1, 0, none⟩), .int .i16 a3, .pointer (some ⟨W.heap.size + 1 + 1, 1, none⟩), .int .u8 b3, undef, undef, undef, undef, undef, undef, undef, undef, undef, undef, undef, undef, undef, undef, undef, undef, undef, undef, undef, undef, undef, undef, undef, undef, undef, undef, undef, undef, undef, undef, undef, undef, undef, undef, undef, undef, undef, undef, undef, undef, undef, undef, undef, undef, undef, undef, undef, undef, undef, undef, undef, undef, undef, undef, undef, undef, undef, undef, undef, undef, undef, undef, undef, undef, undef, undef, undef, undef, undef, undef, undef, undef, undef, undef, undef, undef, undef, undef, undef, undef, undef, undef, undef, undef, undef, undef, undef, undef, undef, undef, undef, undef, undef, undef, undef, undef, undef, undef, undef, undef, undef, undef, undef, undef, undef, undef, undef, undef, undef, undef, undef, undef, undef, undef, undef, undef, undef, undef, undef, undef, undef], defers := [] } w from by
    intro g3 w V
    rw [← HG.out]
    refine wpAnyH_ready (rs := [4, 15, 16]) (by kernel_rfl) (by simp) ?_
    refine AllReadyH.cons (List.getElem?_toArray.trans rfl) (fun K hK => ?_) ?_
    · go_simp
      refine (rmade_any a b _ ha ha2 hb hb2).mono ?_
      rintro e wn ⟨s, p, q, Ax, cx, kx, Bx, dx, lx, rfl, nx, mx, zx, ex, bx⟩
      try go_wp2_with fail
      have VN := ((V.out.go bx).num mx).num nx
      refine hK.out _ _ VN.2.2 (fun hHeld => ?_)
      clear hK K
      try simp only [Act.put, List.setIfInBounds_toArray, List.set_cons_zero, List.set_cons_succ]
      rw [HG.out]
      exact st1_3_0.out ⟨s, Ax, kx, cx, Bx, lx, dx⟩ p q g3 _ (Lib.hid (VN)) (Lib.hid ⟨zx, ex⟩)
    refine AllReadyH.cons (List.getElem?_toArray.trans rfl) (fun K hK => ?_) ?_
    · go_simp
      have VN := V.out.new false none 0 0 none 0 0
      refine hK.out _ _ VN.2.2 (fun hHeld => ?_)
      have L3 := (V.out.lt (.head _)).2
      clear hK K
      try simp only [Act.put, List.setIfInBounds_toArray, List.set_cons_zero, List.set_cons_succ]
      rw [HG.out]
      exact st0_13_0.out w.heap.size g3 _ (Lib.hid (VN.sub (List.forall_mem_cons.2 ⟨(.head _), List.forall_mem_cons.2 ⟨(.tail _ (.head _)), fun _ h => by simp at h⟩⟩) (fun _ h => h))) (by omega)
    refine AllReadyH.cons (List.getElem?_toArray.trans rfl) (fun K hK => ?_) ?_
    · go_simp
      have VN := V.out.new false none 0 0 none 0 0
      refine hK.out _ _ VN.2.2 (fun hHeld => ?_)
      have L3 := (V.out.lt (.head _)).2
      clear hK K
      try simp only [Act.put, List.setIfInBounds_toArray, List.set_cons_zero, List.set_cons_succ]
      rw [HG.out]
      exact st0_23_0.out w.heap.size g3 _ (Lib.hid (VN.sub (List.forall_mem_cons.2 ⟨(.head _), List.forall_mem_cons.2 ⟨(.tail _ (.head _)), fun _ h => by simp at h⟩⟩) (fun _ h => h))) (by omega)
    exact AllReadyH.nil)
  have st1_0_0 := Lib.hid (show ∀ (f1 : FB) (p1 q1 : Int) (w : World) (V : Hid (BoxF w1 [] [(.slice f1.A f1.n f1.c, p1), (.slice f1.B f1.m f1.d, q1)] w)) (F1 : Hid (Sz 2 f1.s p1 q1 ∧ (p1 = 0 → a = 0))), G 8 #[true, true, true, true, true, true, true, true, true, false, true, true, true, true, false, false, false, false, false, false, false] { tmps := #[.agg #[.int .i16 a, .int .u8 b], .agg #[.int .i16 a2, .int .u8 b2], .agg #[.int .i16 a3, .int .u8 b3], .pointer (some ⟨W.heap.size, 0, none⟩), .pointer (some ⟨W.heap.size + 1, 0, none⟩), .pointer (some ⟨W.heap.size + 1 + 1, 0, none⟩), .bool false, undef, undef, undef, undef, undef, undef, .bool true, .bool false, .pointer (some ⟨W.heap.size, 0, none⟩), .int .i16 a, .pointer (some ⟨W.heap.size, 1, none⟩), .int .u8 b, .agg #[.bool f1.s, .slice f1.A f1.n f1.c, .slice f1.B f1.m f1.d], .pointer (some ⟨W.heap.size + 1, 0, none⟩), .int .i16 a2, .pointer (some ⟨W.heap.size + 1, 1, none⟩), .int .u8 b2, undef, .pointer (some ⟨W.heap.size + 1 + 1, 0, none⟩), .int .i16 a3, .pointer (some ⟨W.heap.size + 1 + 1, 1, none⟩), .int .u8 b3, undef, undef, undef, undef, undef, undef, undef, undef, undef, undef, undef, undef, undef, undef, undef, undef, undef, undef, undef, undef, undef, undef, undef, undef, undef, undef, undef, undef, undef, undef, undef, undef, undef, undef, undef, undef, undef, undef, undef, undef, undef, undef, undef, undef, undef, undef, undef, undef, undef, undef, undef, undef, undef, undef, undef, undef, undef, undef, undef, undef, undef, undef, undef, undef, undef, undef, undef, undef, undef, undef, undef, undef, undef, undef, undef, undef, undef, undef, undef, undef, undef, undef, undef, undef, undef, undef, undef, undef, undef, undef, undef, undef, undef, undef, undef, undef, undef, undef, undef, undef, undef, undef, undef, undef, undef, undef, undef, undef, undef, undef, undef, undef, undef, undef, undef, undef, undef, undef, undef, undef, undef], defers := [] } w from by
    intro f1 p1 q1 w V F1
    rw [← HG.out]
    refine wpAnyH_ready (rs := [9, 15, 16, 17]) (by kernel_rfl) (by simp) ?_
    refine AllReadyH.cons (List.getElem?_toArray.trans rfl) (fun K hK => ?_) ?_
    · go_simp
      refine (rmade_any a2 b2 _ hc hc2 hd hd2).mono ?_
      rintro e wn ⟨s, p, q, Ax, cx, kx, Bx, dx, lx, rfl, nx, mx, zx, ex, bx⟩
      try go_wp2_with fail
      have VN := ((V.out.go bx).num mx).num nx
      refine hK.out _ _ VN.2.2 (fun hHeld => ?_)
      clear hK K
      try simp only [Act.put, List.setIfInBounds_toArray, List.set_cons_zero, List.set_cons_succ]
      rw [HG.out]
      exact st2_0_0.out f1 p1 q1 ⟨s, Ax, kx, cx, Bx, lx, dx⟩ p q _ (Lib.hid (VN)) F1 (Lib.hid ⟨zx, ex⟩)
    refine AllReadyH.cons (List.getElem?_toArray.trans rfl) (fun K hK => ?_) ?_
    · go_simp
      have VN := V.out.new false none 0 0 none 0 0
      refine hK.out _ _ VN.2.2 (fun hHeld => ?_)
      clear hK K
      try simp only [Act.put, List.setIfInBounds_toArray, List.set_cons_zero, List.set_cons_succ]
      rw [HG.out]
      exact st1_1_0.out f1 p1 q1 w.heap.size _ (Lib.hid (VN.sub (List.forall_mem_cons.2 ⟨(.head _), fun _ h => by simp at h⟩) (fun _ h => h))) F1
    refine AllReadyH.cons (List.getElem?_toArray.trans rfl) (fun K hK => ?_) ?_
    · go_simp
      have VN := V.out.new false none 0 0 none 0 0
      refine hK.out _ _ VN.2.2 (fun hHeld => ?_)
      clear hK K
      try simp only [Act.put, List.setIfInBounds_toArray, List.set_cons_zero, List.set_cons_succ]
      rw [HG.out]
      exact st1_2_0.out f1 p1 q1 w.heap.size _ (Lib.hid (VN.sub (List.forall_mem_cons.2 ⟨(.head _), fun _ h => by simp at h⟩) (fun _ h => h))) F1
    refine AllReadyH.cons (List.getElem?_toArray.trans rfl) (fun K hK => ?_) ?_
    · go_simp
      have VN := V.out.new false none 0 0 none 0 0
      refine hK.out _ _ VN.2.2 (fun hHeld => ?_)
      clear hK K
      try simp only [Act.put, List.setIfInBounds_toArray, List.set_cons_zero, List.set_cons_succ]
      rw [HG.out]
      exact st1_3_0.out f1 p1 q1 w.heap.size _ (Lib.hid (VN.sub (List.forall_mem_cons.2 ⟨(.head _), fun _ h => by simp at h⟩) (fun _ h => h))) F1
    exact AllReadyH.nil)
  have st0_0_0 := Lib.hid (show ∀ (w : World) (V : Hid (BoxF w1 [] [] w)), G 9 #[true, true, true, true, false, true, true, true, true, false, true, true, true, true, false, false, false, false, false, false, false] { tmps := #[.agg #[.int .i16 a, .int .u8 b], .agg #[.int .i16 a2, .int .u8 b2], .agg #[.int .i16 a3, .int .u8 b3], .pointer (some ⟨W.heap.size, 0, none⟩), .pointer (some ⟨W.heap.size + 1, 0, none⟩), .pointer (some ⟨W.heap.size + 1 + 1, 0, none⟩), .bool false, undef, undef, undef, undef, undef, undef, .bool true, .bool false, .pointer (some ⟨W.heap.size, 0, none⟩), .int .i16 a, .pointer (some ⟨W.heap.size, 1, none⟩), .int .u8 b, undef, .pointer (some ⟨W.heap.size + 1, 0, none⟩), .int .i16 a2, .pointer (some ⟨W.heap.size + 1, 1, none⟩), .int .u8 b2, undef, .pointer (some ⟨W.heap.size + 1 + 1, 0, none⟩), .int .i16 a3, .pointer (some ⟨W.heap.size + 1 + 1, 1, none⟩), .int .u8 b3, undef, undef, undef, undef, undef, undef, undef, undef, undef, undef, undef, undef, undef, undef, undef, undef, undef, undef, undef, undef, undef, undef, undef, undef, undef, undef, undef, undef, undef, undef, undef, undef, undef, undef, undef, undef, undef, undef, undef, undef, undef, undef, undef, undef, undef, undef, undef, undef, undef, undef, undef, undef, undef, undef, undef, undef, undef, undef, undef, undef, undef, undef, undef, undef, undef, undef, undef, undef, undef, undef, undef, undef, undef, undef, undef, undef, undef, undef, undef, undef, undef, undef, undef, undef, undef, undef, undef, undef, undef, undef, undef, undef, undef, undef, undef, undef, undef, undef, undef, undef, undef, undef, undef, undef, undef, undef, undef, undef, undef, undef, undef, undef, undef, undef, undef, undef, undef, undef, undef, undef, undef], defers := [] } w from by
    intro w V
    rw [← HG.out]
    refine wpAnyH_ready (rs := [4, 15, 16, 17]) (by kernel_rfl) (by simp) ?_
    refine AllReadyH.cons (List.getElem?_toArray.trans rfl) (fun K hK => ?_) ?_
    · go_simp
      refine (rmade_any a b _ ha ha2 hb hb2).mono ?_
      rintro e wn ⟨s, p, q, Ax, cx, kx, Bx, dx, lx, rfl, nx, mx, zx, ex, bx⟩
      try go_wp2_with fail
      have VN := ((V.out.go bx).num mx).num nx
      refine hK.out _ _ VN.2.2 (fun hHeld => ?_)
      clear hK K
      try simp only [Act.put, List.setIfInBounds_toArray, List.set_cons_zero, List.set_cons_succ]
      rw [HG.out]
      exact st1_0_0.out ⟨s, Ax, kx, cx, Bx, lx, dx⟩ p q _ (Lib.hid (VN)) (Lib.hid ⟨zx, ex⟩)
    refine AllReadyH.cons (List.getElem?_toArray.trans rfl) (fun K hK => ?_) ?_
    · go_simp
      have VN := V.out.new false none 0 0 none 0 0
      refine hK.out _ _ VN.2.2 (fun hHeld => ?_)
      clear hK K
      try simp only [Act.put, List.setIfInBounds_toArray, List.set_cons_zero, List.set_cons_succ]
      rw [HG.out]
      exact st0_1_0.out w.heap.size _ (Lib.hid (VN.sub (List.forall_mem_cons.2 ⟨(.head _), fun _ h => by simp at h⟩) (fun _ h => h)))
    refine AllReadyH.cons (List.getElem?_toArray.trans rfl) (fun K hK => ?_) ?_
    · go_simp
      have VN := V.out.new false none 0 0 none 0 0
      refine hK.out _ _ VN.2.2 (fun hHeld => ?_)
      clear hK K
      try simp only [Act.put, List.setIfInBounds_toArray, List.set_cons_zero, List.set_cons_succ]
      rw [HG.out]
      exact st0_2_0.out w.heap.size _ (Lib.hid (VN.sub (List.forall_mem_cons.2 ⟨(.head _), fun _ h => by simp at h⟩) (fun _ h => h)))
    refine AllReadyH.cons (List.getElem?_toArray.trans rfl) (fun K hK => ?_) ?_
    · go_simp
      have VN := V.out.new false none 0 0 none 0 0
      refine hK.out _ _ VN.2.2 (fun hHeld => ?_)
      clear hK K
      try simp only [Act.put, List.setIfInBounds_toArray, List.set_cons_zero, List.set_cons_succ]
      rw [HG.out]
      exact st0_3_0.out w.heap.size _ (Lib.hid (VN.sub (List.forall_mem_cons.2 ⟨(.head _), fun _ h => by simp at h⟩) (fun _ h => h)))
    exact AllReadyH.nil)
  exact st0_0_0.out _ V1
end Go.Proofs.YtbhneddjjgegmaaGreatDoor
