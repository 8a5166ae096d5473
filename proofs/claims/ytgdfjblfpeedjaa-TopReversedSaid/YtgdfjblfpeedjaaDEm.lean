/- Contract of the program: the best path and the potentials. -/
import Derived.Test.YtgdfjblfpeedjaaDEl
import Derived.Test.YtgdfjblfpeedjaaDCa
import Derived.Test.YtgdfjblfpeedjaaDEh
namespace Go.Proofs.Ytgdfjblfpeedjaa
open Go.RowKit
set_option linter.unusedVariables false
set_option linter.unusedSimpArgs false
set_option maxRecDepth 100000

/-- What Best answers. -/
def BestAns (g : Gr) (L P : List Int) (E : Int) : Prop :=
  (¬ g.vE = 0 ∧ L = [] ∧ P = [] ∧ E = g.vE) ∨ (g.vE = 0 ∧ ∃ Z, IsOrd g Z ∧
    (((costsC g g.n.toNat Z).getD 0 0 < 0 ∧ L = [] ∧ P = [] ∧ E = 10) ∨ (0 ≤ (costsC g g.n.toNat Z).getD 0 0 ∧ L = followL g (costsC g g.n.toNat Z) Z ∧ P = costsC g g.n.toNat Z ∧ E = 0)))
def BestPost (g : Gr) (w : World) (e : Ending) (w' : World) : Prop := ∃ (A1 : Option Addr) (m1 c1 : Nat) (A2 : Option Addr) (m2 c2 : Nat) (L P : List Int) (E : Int),
  e = .returned (.tuple #[.slice A1 m1 c1, .slice A2 m2 c2, .int .i64 E]) ∧ L.length = m1 ∧ P.length = m2 ∧ BestAns g L P E ∧ Hp w [nums A1 m1 c1 L, nums A2 m2 c2 P] w'
theorem costs_ok {g : Gr} (h : g.Ok) {Z : List Int} (hZ : IsOrd g Z) : COk g.n.toNat 6000 (costsC g g.n.toNat Z) := by
  unfold costsC
  refine ((COk.init g.n.toNat).fold (arc_cost h) _).up ?_
  rw [List.length_reverse, hZ.1.length_eq, idL_len]
  have := h.len; omega
theorem Hp.nil2 {W w : World} (h : Below W.heap.size W w) : Hp W [nums none 0 0 [], nums none 0 0 []] w := (((Hp.start W).go h).nil_row (nums none 0 0 []) rfl rfl rfl).nil_row (nums none 0 0 []) rfl rfl rfl
set_option maxHeartbeats 32000000 in
theorem best_any (g : Gr) (A : Option Addr) (n c : Nat) (w : World) (h : GrIn w A n c g) :
    Calls Try.prog 8 #[gval g A n c] w (BestPost g w) := by
  have H := Lib.hid h
  have HLN := Lib.hid h.len
  clear h
  obtain ⟨gb, hgb⟩ : ∃ gb, gb = w.heap.size := ⟨_, rfl⟩
  obtain ⟨wz, hwz⟩ : ∃ z, z = w.alloc (.cells #[.int .i64 g.n, .slice A n c] 26) := ⟨_, rfl⟩
  have HZ := Lib.hid hwz
  have V := Lib.hid (show Hp w [gbox gb g A n c] wz by rw [hwz, hgb]; exact (Hp.start w).box_new _ [.int .i64 g.n, .slice A n c])
  clear hwz
  unfold gval
  have hgv : gval g A n c = .agg #[.int .i64 g.n, .slice A n c] := rfl
  have HGV := Lib.hid hgv
  clear hgv
  have HVAL := Lib.hid (show ∀ W, GrIn W A n c g → Calls Try.prog 12 #[.agg #[.int .i64 g.n, .slice A n c]] W fun e w' => e = .returned (.int .i64 g.vE) ∧ Below W.heap.size W w' from fun W hW => by rw [← HGV.out]; exact valid_any g A n c W hW)
  have HBF := Lib.hid (show ∀ W, GrIn W A n c g → n ≤ 6000 → Calls Try.prog 15 #[.agg #[.int .i64 g.n, .slice A n c]] W (ByFromPost g n W) from fun W hW hn => by rw [← HGV.out]; exact byFrom_any g A n c W hW hn)
  have HCH := Lib.hid (show ∀ (W : World) (gd : Nat) (Z : List Int), GrIn W A n c g → g.Ok → Z.length = n → (∀ x ∈ Z, 0 ≤ x ∧ x < (n : Int)) → CellsIn W (some ⟨gd, 0, none⟩) (ints Z) → gd < W.heap.size → Calls Try.prog 16 #[.agg #[.int .i64 g.n, .slice A n c], .slice (some ⟨gd, 0, none⟩) n n] W (CheapPost g Z W) from fun W gd Z h1 h2 h3 h4 h5 h6 => by rw [← HGV.out]; exact cheapest_any g A n c gd Z W h1 h2 h3 h4 h5 h6)
  have HFO := Lib.hid (show ∀ (W : World) (gd gp N : Nat) (Z P : List Int), GrIn W A n c g → g.Ok → Z.length = n → (∀ x ∈ Z, 0 ≤ x ∧ x < (n : Int)) → CellsIn W (some ⟨gd, 0, none⟩) (ints Z) → g.n = (N : Int) → COk N 6000 P → CellsIn W (some ⟨gp, 0, none⟩) (ints P) →
      Calls Try.prog 17 #[.agg #[.int .i64 g.n, .slice A n c], .slice (some ⟨gd, 0, none⟩) n n, .slice (some ⟨gp, 0, none⟩) N N] W (NumsP W (followL g P Z)) from fun W gd gp N Z P h1 h2 h3 h4 h5 h6 h7 h8 => by rw [← HGV.out]; exact follow_any g A n c gd gp N Z P W h1 h2 h3 h4 h5 h6 h7 h8)
  go_enter Try.func8, Try.ntmps8
  go_upto_region 1 with fail
  rw [← HZ.out, ← hgb]
  clear HZ hgb
  obtain ⟨r0, r1, r9⟩ := V.out.gb (i := 0) rfl
  go_wp2_with fail
  refine (HVAL.out _ (H.out.below V.out.below)).mono ?_
  rintro e w1 ⟨rfl, b1⟩
  have V1 := Lib.hid (V.out.go b1)
  clear V b1 r0 r1 r9
  obtain ⟨r0, r1, r9⟩ := V1.out.gb (i := 0) rfl
  by_cases hv : g.vE = 0
  case neg =>
    have HA := Lib.hid (show BestAns g [] [] g.vE from .inl ⟨hv, rfl, rfl, rfl⟩)
    have g1 : (g.vE != 0) = true := bne_yes hv
    have g2 : (g.vE == 0) = false := beq_no hv
    clear hv
    go_wp2_with fail
    exact bodyPost_ret (v := .tuple #[.slice none 0 0, .slice none 0 0, .int .i64 g.vE]) (by simp [results, Try.results8, go_sem]) rfl ⟨none, 0, 0, none, 0, 0, [], [], g.vE, rfl, rfl, rfl, HA.out, Hp.nil2 V1.out.below⟩
  have HV := Lib.hid hv
  have HO := Lib.hid (Gr.ok hv)
  rw [hv]
  clear hv
  have hn6 : n ≤ 6000 := by have := HO.out.len; have := HLN.out; omega
  go_wp2_with fail
  refine (HBF.out _ (H.out.below V1.out.below) hn6).mono ?_
  rintro e w2 ⟨gd, Z, rfl, hZ, hp⟩
  have HOZ := Lib.hid hZ
  have hZl : Z.length = n := by rw [hZ.1.length_eq, idL_len]; exact HLN.out
  have HZL := Lib.hid hZl
  have HZM := Lib.hid (show ∀ x ∈ Z, 0 ≤ x ∧ x < (n : Int) from fun x hx => by
    have := idL_mem.1 (hZ.1.mem_iff.1 hx)
    rw [HLN.out] at this; exact this)
  have hgd : gd < w2.heap.size := (hp.lt (i := 0) rfl (k := gd) rfl).2
  have V2 := Lib.hid (V1.out.join hp)
  clear hZ hZl hp V1 r0 r1 r9
  obtain ⟨r0, r1, r9⟩ := V2.out.gb (i := 1) rfl
  go_wp2_with fail
  refine (HCH.out _ gd Z (H.out.below V2.out.below) HO.out HZL.out HZM.out (V2.out.cells (i := 0) rfl rfl) hgd).mono ?_
  rintro e w3 ⟨gp, rfl, hp⟩
  obtain ⟨N, hN⟩ : ∃ N, N = g.n.toNat := ⟨_, rfl⟩
  have hP := costs_ok HO.out HOZ.out
  rw [← hN] at hp hP ⊢
  have HN := Lib.hid hN
  have n1 := HO.out.n1
  have n2 := HO.out.n2
  have hgN : g.n = (N : Int) := by omega
  have hN1 : 1 ≤ N := by omega
  have HGN := Lib.hid hgN
  obtain ⟨P, hPP⟩ : ∃ P, P = costsC g N Z := ⟨_, rfl⟩
  rw [← hPP] at hp hP
  have HPP := Lib.hid hPP
  have HPO := Lib.hid hP
  have V3 := Lib.hid (V2.out.join hp)
  clear hp hP hPP hN V2 r0 r1 r9 n1 n2 hgd hgN
  obtain ⟨x, hx⟩ : ∃ x, x = P.getD 0 0 := ⟨_, rfl⟩
  obtain ⟨r0, r1, r9⟩ := V3.out.gb (i := 2) rfl
  obtain ⟨x1, x2, x3⟩ := V3.out.num_at (i := 0) rfl (j := 0) (by rw [HPO.out.1]; omega)
  rw [← hx] at x1
  have HX := Lib.hid hx
  clear hx
  by_cases h0 : x < 0
  case pos =>
    have HA := Lib.hid (show BestAns g [] [] 10 from .inr ⟨HV.out, Z, HOZ.out, .inl ⟨by rw [← HN.out, ← HPP.out, ← HX.out]; exact h0, rfl, rfl, rfl⟩⟩)
    go_wp2_with fail
    exact bodyPost_ret (v := .tuple #[.slice none 0 0, .slice none 0 0, .int .i64 10]) (by simp [results, Try.results8, go_sem]) rfl ⟨none, 0, 0, none, 0, 0, [], [], 10, rfl, rfl, rfl, HA.out, Hp.nil2 V3.out.below⟩
  have HA := Lib.hid (show BestAns g (followL g P Z) P 0 from .inr ⟨HV.out, Z, HOZ.out, .inr ⟨by rw [← HN.out, ← HPP.out, ← HX.out]; omega, by rw [← HN.out, ← HPP.out], by rw [← HN.out, ← HPP.out], rfl⟩⟩)
  go_wp2_with fail
  refine (HFO.out _ gd gp N Z P (H.out.below V3.out.below) HO.out HZL.out HZM.out (V3.out.cells (i := 1) rfl rfl) HGN.out HPO.out (V3.out.cells (i := 0) rfl rfl)).mono ?_
  rintro e w4 ⟨A4, m4, c4, rfl, hm4, hp⟩
  have V4 := Lib.hid (V3.out.join hp)
  have HM4 := Lib.hid hm4
  clear hp hm4
  go_wp2_with fail
  exact bodyPost_ret (v := .tuple #[.slice A4 m4 c4, .slice (some ⟨gp, 0, none⟩) N N, .int .i64 0]) (by simp [results, Try.results8, go_sem]) rfl ⟨A4, m4, c4, some ⟨gp, 0, none⟩, N, N, _, P, 0, rfl, HM4.out, HPO.out.1, HA.out, V4.out.pick [0, 1] (by decide) rfl⟩

end Go.Proofs.Ytgdfjblfpeedjaa
