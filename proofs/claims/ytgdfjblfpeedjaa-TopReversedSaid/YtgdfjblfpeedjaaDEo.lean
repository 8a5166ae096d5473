/- Top, stage 10: the example. -/
import Derived.Test.YtgdfjblfpeedjaaDEn
import Derived.Test.YtgdfjblfpeedjaaDCX
namespace Go.Proofs.Ytgdfjblfpeedjaa
open Go.RowKit
set_option linter.unusedVariables false
set_option linter.unusedSimpArgs false
set_option maxRecDepth 100000

def exR : Gr := ⟨3, [⟨0, 1, 2⟩, ⟨1, 2, 1⟩]⟩
def exS : Gr := ⟨3, [⟨0, 1, 2⟩]⟩
theorem exS_cut : exS.cutV = ([0, 1], 0) := by decide
theorem exR_best {L P : List Int} {E : Int} (h : BestAns exR L P E) : L = [0, 1] ∧ E = 0 := by
  have hv : exR.vE = 0 := by decide
  rcases h with ⟨h, _⟩ | ⟨_, Z, hZ, h⟩
  · exact absurd hv h
  · have e : Z = [0, 1] := by
      refine hZ.1.eq_of_pairwise (le := RL (kf exR)) ?_ hZ.2 ?_
      · intro a b _ _ h1 h2
        rcases h1 with h1 | h1 <;> rcases h2 with h2 | h2 <;> omega
      · show ([0, 1] : List Int).Pairwise (RL (kf exR))
        refine List.Pairwise.cons ?_ (List.Pairwise.cons (fun _ h => by cases h) List.Pairwise.nil)
        intro a ha
        rw [List.mem_singleton] at ha
        subst ha
        exact .inl (by decide)
    subst e
    rcases h with ⟨h1, _⟩ | ⟨_, h2, _, h4⟩
    · exact absurd h1 (by decide)
    · exact ⟨by rw [h2]; decide, h4⟩
set_option maxHeartbeats 16000000 in
theorem awakeT_any (w : World) : Calls Try.prog 4 #[] w fun e w' => e = .returned (.bool true) ∧ Below w.heap.size w w' := by
  go_enter Try.func4, Try.ntmps4
  obtain ⟨b, hb⟩ : ∃ b, b = w.heap.size := ⟨_, rfl⟩
  obtain ⟨w1, hw1⟩ : ∃ z, z = (w.alloc (.cells #[.int .i64 0, .int .i64 1, .int .i64 2, .int .i64 1, .int .i64 2, .int .i64 1] 40)).alloc (.cells #[.int .i64 3, .slice (some ⟨b, 0, none⟩) 2 2] 26) := ⟨_, rfl⟩
  have H1 := Lib.hid hw1
  have V1 := Lib.hid (show Hp w [box 26 (b + 1) [.int .i64 3, .slice (some ⟨b, 0, none⟩) 2 2], arow (some ⟨b, 0, none⟩) 2 2 exR.rs] w1 by
    have h1 := (Hp.start w).lit 40 3 2 (acells exR.rs) rfl (by omega)
    have h2 := h1.box_new 26 [.int .i64 3, .slice (some ⟨b, 0, none⟩) 2 2]
    rw [World.size_alloc, ← hb] at h2
    rw [hw1]
    exact h2)
  clear hw1
  obtain ⟨gb, hgb⟩ : ∃ gb, gb = b + 1 := ⟨_, rfl⟩
  rw [← hgb] at V1
  go_upto_region 2 with fail
  rw [← hb, ← H1.out, ← hgb]
  clear H1 hb hgb
  have HR := Lib.hid (show ∀ W, Below w1.heap.size w1 W → GrIn W (some ⟨b, 0, none⟩) 2 2 exR from fun W hW => ⟨rfl, Nat.le_refl _, by omega, (arow_in V1.out (i := 1) rfl).below hW⟩)
  have HBE := Lib.hid (show ∀ W, GrIn W (some ⟨b, 0, none⟩) 2 2 exR → Calls Try.prog 8 #[.agg #[.int .i64 3, .slice (some ⟨b, 0, none⟩) 2 2]] W fun e w' => ∃ (A1 : Option Addr) (c1 : Nat) (A2 : Option Addr) (m2 c2 : Nat), e = .returned (.tuple #[.slice A1 2 c1, .slice A2 m2 c2, .int .i64 0]) ∧ Hp W [nums A1 2 c1 [0, 1]] w' from fun W hW => (best_any exR _ 2 2 W hW).mono fun e w' ⟨A1, m1, c1, A2, m2, c2, L, P, E, h1, h2, h3, h4, h5⟩ => by
    obtain ⟨e1, e2⟩ := exR_best h4
    subst e1; subst e2
    have e3 : m1 = 2 := h2.symm
    subst e3
    exact ⟨A1, c1, A2, m2, c2, h1, h5.pick [0] (by decide) rfl⟩)
  have HCU := Lib.hid (show ∀ W, GrIn W (some ⟨b, 0, none⟩) 1 2 exS → Calls Try.prog 10 #[.agg #[.int .i64 3, .slice (some ⟨b, 0, none⟩) 1 2]] W fun e w' => ∃ (A1 : Option Addr) (c1 : Nat), e = .returned (.tuple #[.slice A1 2 c1, .int .i64 0]) ∧ Hp W [nums A1 2 c1 [0, 1]] w' from fun W hW => (cut_any exS _ 1 2 W hW).mono fun e w' ⟨A1, m1, c1, h1, h2, h5⟩ => by
    rw [exS_cut] at h1 h2 h5
    have e3 : m1 = 2 := h2.symm
    subst e3
    exact ⟨A1, c1, h1, h5⟩)
  have HEQ := Lib.hid (show ∀ (W : World) (B1 B2 : Option Addr) (d1 d2 : Nat), CellsIn W B1 (ints [0, 1]) → CellsIn W B2 (ints [0, 1]) → Calls Try.prog 11 #[.slice B1 2 d1, .slice B2 2 d2] W fun e w' => e = .returned (.bool true) ∧ Below W.heap.size W w' from fun W B1 B2 d1 d2 c1 c2 =>
    (equal_nums B1 B2 2 d1 2 d2 [0, 1] [0, 1] W rfl rfl (by omega) (by omega) c1 c2).mono fun e w' ⟨h1, h2⟩ => ⟨by rw [h1, decide_eq_true rfl], h2⟩)
  obtain ⟨r0, _, r9⟩ := V1.out.box_at (i := 0) (j := 0) rfl rfl
  obtain ⟨r1, _, _⟩ := V1.out.box_at (i := 0) (j := 1) rfl rfl
  go_wp2_with fail
  refine (HBE.out _ (HR.out _ (Below.refl _ _))).mono ?_
  rintro e w2 ⟨A1, c1, A2, m2, c2, rfl, hp⟩
  have B2 := Lib.hid hp.below
  have V2 := Lib.hid (V1.out.join hp)
  clear hp r0 r1 r9
  obtain ⟨r1, f1, r9⟩ := V2.out.box_at (i := 1) (j := 1) rfl rfl
  obtain ⟨w3, hw3⟩ : ∃ z, z = w2.setCell ⟨gb, 1, none⟩ (.slice (some ⟨b, 0, none⟩) 1 2) := ⟨_, rfl⟩
  have H3 := Lib.hid hw3
  have V3 := Lib.hid (show Hp w [nums A1 2 c1 [0, 1], box 26 gb [.int .i64 3, .slice (some ⟨b, 0, none⟩) 1 2], arow (some ⟨b, 0, none⟩) 2 2 exR.rs] w3 by
    rw [hw3]; exact V2.out.box_set (i := 1) rfl 1 (.slice (some ⟨b, 0, none⟩) 1 2))
  clear hw3
  go_upto_region 4 with fail
  rw [← H3.out]
  clear H3 V2 r1 f1 r9
  have HS := Lib.hid (show ∀ W, Below w3.heap.size w3 W → GrIn W (some ⟨b, 0, none⟩) 1 2 exS from fun W hW => ⟨rfl, by omega, by omega, CellsIn.below (fun h0 => by
    obtain ⟨b, off, e, hlt, hc⟩ := arow_in V3.out (i := 2) rfl (by rw [acells_len]; decide)
    refine ⟨b, off, e, hlt, fun j u hu => hc j u ?_⟩
    have hj := (List.getElem?_eq_some_iff.1 hu).1
    have hj3 : j < 3 := hj
    rw [← hu]
    match j, hj3 with
    | 0, _ => rfl
    | 1, _ => rfl
    | 2, _ => rfl) hW⟩)
  obtain ⟨r0, _, r9⟩ := V3.out.box_at (i := 1) (j := 0) rfl rfl
  obtain ⟨r1, _, _⟩ := V3.out.box_at (i := 1) (j := 1) rfl rfl
  go_wp2_with fail
  refine (HCU.out _ (HS.out _ (Below.refl _ _))).mono ?_
  rintro e w4 ⟨A3, c3, rfl, hp⟩
  have V4 := Lib.hid (show Hp w [nums A3 2 c3 [0, 1], nums A1 2 c1 [0, 1]] w4 from (V3.out.join hp).pick [0, 1] (by decide) rfl)
  clear hp r0 r1 r9 V3 HS HR V1 B2
  obtain ⟨w5, hw5⟩ : ∃ z, z = w4.alloc (.cells #[.int .i64 0, .int .i64 1] 3) := ⟨_, rfl⟩
  have H5 := Lib.hid hw5
  have V5 := Lib.hid (show Hp w [nums (some ⟨w4.heap.size, 0, none⟩) 2 2 [0, 1], nums A3 2 c3 [0, 1], nums A1 2 c1 [0, 1]] w5 by
    rw [hw5]; exact V4.out.lit 3 1 2 [.int .i64 0, .int .i64 1] rfl (by omega))
  clear hw5
  go_wp2_with fail
  rw [← H5.out]
  refine (HEQ.out _ A1 _ c1 2 (V5.out.cells (i := 2) rfl rfl) (V5.out.cells (i := 0) rfl rfl)).mono ?_
  rintro e w6 ⟨rfl, b6⟩
  have V6 := Lib.hid (show Hp w [nums A3 2 c3 [0, 1]] w6 from (V5.out.go b6).pick [1] (by decide) rfl)
  clear b6 H5 V5 V4
  obtain ⟨w7, hw7⟩ : ∃ z, z = w6.alloc (.cells #[.int .i64 0, .int .i64 1] 3) := ⟨_, rfl⟩
  have H7 := Lib.hid hw7
  have V7 := Lib.hid (show Hp w [nums (some ⟨w6.heap.size, 0, none⟩) 2 2 [0, 1], nums A3 2 c3 [0, 1]] w7 by
    rw [hw7]; exact V6.out.lit 3 1 2 [.int .i64 0, .int .i64 1] rfl (by omega))
  clear hw7
  go_wp2_with fail
  rw [← H7.out]
  refine (HEQ.out _ A3 _ c3 2 (V7.out.cells (i := 1) rfl rfl) (V7.out.cells (i := 0) rfl rfl)).mono ?_
  rintro e w8 ⟨rfl, b8⟩
  have V8 := Lib.hid (V7.out.go b8)
  clear b8 H7 V7
  go_wp2_with fail
  go_ret
  exact ⟨rfl, V8.out.below⟩

end Go.Proofs.Ytgdfjblfpeedjaa
