/- Contract of the program: Ways; the cost of the best path. -/
import Derived.Test.YtgdfjblfpeedjaaDEy
import Derived.Test.YtgdfjblfpeedjaaDEn
namespace Go.Proofs.Ytgdfjblfpeedjaa
open Go.RowKit
set_option linter.unusedVariables false
set_option linter.unusedSimpArgs false
set_option maxRecDepth 100000

/-- What Ways answers where nothing is out of range. -/
def Gr.wV (g : Gr) (m : Int) : Int := if 4611686018427387904 < g.wN m then 0 else g.wN m
def Gr.wE (g : Gr) (m : Int) : Int := if 4611686018427387904 < g.wN m then 3 else 0
theorem wV_perm {g g2 : Gr} (h : g2.cs.Perm g.cs) (m : Int) : g2.wV m = g.wV m ∧ g2.wE m = g.wE m := by
  unfold Gr.wV Gr.wE
  rw [wN_perm h]; exact ⟨rfl, rfl⟩
theorem wN_bd (g : Gr) (m : Int) : 0 ≤ g.wN m ∧ g.wN m ≤ 4611686018427387905 := by unfold Gr.wN bigC; omega
set_option maxHeartbeats 8000000 in
theorem ways_any (g : Gr) (A : Option Addr) (n c : Nat) (m : Int) (w : World) (h : GrIn w A n c g) (hv : g.vE = 0) (hm0 : 0 ≤ m) (hm1 : m ≤ 60000) :
    Calls Try.prog 7 #[gval g A n c, .int .i64 m] w fun e w' => e = .returned (.tuple #[.int .i64 (g.wV m), .int .i64 (g.wE m)]) ∧ Below w.heap.size w w' := by
  have H := Lib.hid h
  obtain ⟨gn, hgn⟩ : ∃ gn, gn = g.n := ⟨_, rfl⟩
  have hgv : gval g A n c = .agg #[.int .i64 gn, .slice A n c] := by rw [hgn]
  have HVA := Lib.hid (show ∀ W, GrIn W A n c g → Calls Try.prog 12 #[.agg #[.int .i64 gn, .slice A n c]] W fun e w' => e = .returned (.int .i64 0) ∧ Below W.heap.size W w' from fun W hW => by rw [← hgv, ← hv]; exact valid_any g A n c W hW)
  have HCW := Lib.hid (show ∀ W, GrIn W A n c g → Calls Try.prog 14 #[.agg #[.int .i64 gn, .slice A n c], .int .i64 m] W fun e w' => e = .returned (.int .u64 (g.wN m)) ∧ Below W.heap.size W w' from fun W hW => by rw [← hgv]; exact count_any g A n c m W hW hv hm0 hm1)
  rw [hgv]
  clear h hv hgv hgn
  obtain ⟨x, hx⟩ : ∃ x, x = g.wN m := ⟨_, rfl⟩
  have hxb := wN_bd g m
  rw [← hx] at HCW hxb
  have HX := Lib.hid hx
  obtain ⟨gb, hgb⟩ : ∃ gb, gb = w.heap.size := ⟨_, rfl⟩
  obtain ⟨wz, hwz⟩ : ∃ z, z = w.alloc (.cells #[.int .i64 gn, .slice A n c] 26) := ⟨_, rfl⟩
  have HZ := Lib.hid hwz
  have V := Lib.hid (show Hp w [box 26 gb [.int .i64 gn, .slice A n c]] wz by rw [hwz, hgb]; exact (Hp.start w).box_new 26 [.int .i64 gn, .slice A n c])
  clear hwz hx
  go_enter Try.func7, Try.ntmps7
  go_upto_region 1 with fail
  rw [← HZ.out, ← hgb]
  clear HZ hgb
  obtain ⟨r0, _, r9⟩ := V.out.box_at (i := 0) (j := 0) rfl rfl
  obtain ⟨r1, _, _⟩ := V.out.box_at (i := 0) (j := 1) rfl rfl
  go_wp2_with fail
  refine (HVA.out _ (H.out.below V.out.below)).mono ?_
  rintro e w1 ⟨rfl, b1⟩
  have V1 := Lib.hid (V.out.go b1)
  clear b1 V r0 r1 r9 HVA
  obtain ⟨r0, _, r9⟩ := V1.out.box_at (i := 0) (j := 0) rfl rfl
  obtain ⟨r1, _, _⟩ := V1.out.box_at (i := 0) (j := 1) rfl rfl
  go_wp2_with fail
  refine (HCW.out _ (H.out.below V1.out.below)).mono ?_
  rintro e w2 ⟨rfl, b2⟩
  have B2 := Lib.hid (btwo V1.out.below b2)
  clear b2 V1 r0 r1 r9 HCW
  by_cases hb : 4611686018427387904 < x
  · have HE := Lib.hid (show g.wV m = 0 ∧ g.wE m = 3 by unfold Gr.wV Gr.wE; rw [← HX.out, if_pos hb, if_pos hb]; exact ⟨rfl, rfl⟩)
    go_wp2_with fail
    refine bodyPost_ret (results_tmp2 rfl _ _ _) rfl ?_
    rw [HE.out.1, HE.out.2]
    exact ⟨rfl, B2.out⟩
  · have HE := Lib.hid (show g.wV m = x ∧ g.wE m = 0 by unfold Gr.wV Gr.wE; rw [← HX.out, if_neg hb, if_neg hb]; exact ⟨rfl, rfl⟩)
    have g1 : IntKind.i64.wrap x = x := IntWalk.i64_in _ (by omega)
    go_wp2_with fail
    refine bodyPost_ret (results_tmp2 rfl _ _ _) rfl ?_
    rw [HE.out.1, HE.out.2]
    exact ⟨rfl, B2.out⟩
/-! ### The cost of the best path -/
theorem pot_le {g : Gr} (h : g.Ok) {Z L : List Int} (hI : CInv g Z L) (hZ : ∀ i, Ix g i → i ∈ Z) : ∀ (p : List Int) (v : Int), walkP g.rs v p = some (g.n - 1) → 0 ≤ pv L v ∧ pv L v ≤ sumP g.rs p
  | [], v, hw => by
    have e : some v = some (g.n - 1) := hw
    injection e with e
    rw [e, hI.last]
    exact ⟨Int.le_refl _, Int.le_refl _⟩
  | i :: p, v, hw => by
    rw [walkP_cons] at hw
    by_cases hc : 0 ≤ i ∧ i < (g.rs.length : Int) ∧ (arc g.rs i).f = v
    · rw [if_pos hc] at hw
      have h1 := pot_le h hI hZ p _ hw
      have h2 := hI.low i (hZ i ⟨hc.1, hc.2.1⟩) h1.1
      rw [hc.2.2] at h2
      rw [sumP_cons]
      omega
    · rw [if_neg hc] at hw; cases hw
theorem pot_way {g : Gr} (h : g.Ok) {Z L : List Int} (hI : CInv g Z L) (hZ : ∀ i ∈ Z, Ix g i) : ∀ (d : Nat) (v : Int), 0 ≤ v → v < g.n → g.n - v ≤ d → 0 ≤ pv L v → ∃ p, walkP g.rs v p = some (g.n - 1) ∧ sumP g.rs p = pv L v
  | 0, v, h0, h1, hd, _ => by omega
  | d + 1, v, h0, h1, hd, hp => by
    by_cases e : v = g.n - 1
    · exact ⟨[], by rw [e]; rfl, by rw [e, hI.last]; rfl⟩
    · obtain ⟨i, hi, hf, ht, hs⟩ := hI.tight v h0 (by omega) hp
      have hx := hZ i hi
      have ha := hx.arc h
      obtain ⟨p, h2, h3⟩ := pot_way h hI hZ d (arc g.rs i).t (by omega) ha.2.2.1 (by omega) ht
      refine ⟨i :: p, ?_, ?_⟩
      · rw [walkP_cons, if_pos ⟨hx.1, hx.2, hf⟩]; exact h2
      · rw [sumP_cons, h3]; exact hs
theorem cs_mem {g : Gr} (h : g.Ok) {s : Int} : s ∈ g.cs ↔ ∃ p, walkP g.rs 0 p = some (g.n - 1) ∧ sumP g.rs p = s := by
  unfold Gr.cs
  rw [List.mem_map]
  exact ⟨fun ⟨p, h1, h2⟩ => ⟨p, (pv_mem h).1 h1, h2⟩, fun ⟨p, h1, h2⟩ => ⟨p, (pv_mem h).2 h1, h2⟩⟩
theorem best_cost {g : Gr} (hv : g.vE = 0) {L P : List Int} {E : Int} (hb : BestAns g L P E) : (E = 10 ∧ g.cs = []) ∨ (E = 0 ∧ (P.length : Int) = g.n ∧ P.getD 0 0 ∈ g.cs ∧ ∀ s ∈ g.cs, P.getD 0 0 ≤ s) := by
  have h := Gr.ok hv
  have n1 := h.n1
  rcases hb with ⟨h1, _⟩ | ⟨_, Z, hZ, h2⟩
  · exact absurd hv h1
  · have hI := costs_inv h hZ
    have hix : ∀ i, i ∈ Z ↔ Ix g i := fun i => ord_ix hZ
    rcases h2 with ⟨h3, _, _, h4⟩ | ⟨h3, _, hP, h4⟩
    · left
      refine ⟨h4, List.eq_nil_iff_forall_not_mem.2 fun s hs => ?_⟩
      obtain ⟨p, hp, _⟩ := (cs_mem h).1 hs
      have h5 := (pot_le h hI (fun i hi => (hix i).2 hi) p 0 hp).1
      have h6 : pv (costsC g g.n.toNat Z) 0 = (costsC g g.n.toNat Z).getD 0 0 := rfl
      omega
    · right
      subst hP
      have h6 : pv (costsC g g.n.toNat Z) 0 = (costsC g g.n.toNat Z).getD 0 0 := rfl
      refine ⟨h4, hI.len, (cs_mem h).2 ?_, fun s hs => ?_⟩
      · exact pot_way h hI (fun i hi => (hix i).1 hi) g.n.toNat 0 (Int.le_refl _) (by omega) (by omega) h3
      · obtain ⟨p, hp, rfl⟩ := (cs_mem h).1 hs
        exact (pot_le h hI (fun i hi => (hix i).2 hi) p 0 hp).2
theorem best_same {g g2 : Gr} (hv : g.vE = 0) (hv2 : g2.vE = 0) (hp : g2.cs.Perm g.cs) {L P L2 P2 : List Int} {E E2 : Int} (h1 : BestAns g L P E) (h2 : BestAns g2 L2 P2 E2) :
    (E = 10 ∧ E2 = 10 ∧ g.cs = []) ∨ (E = 0 ∧ E2 = 0 ∧ ¬ g.cs = [] ∧ 0 < P.length ∧ 0 < P2.length ∧ P2.getD 0 0 = P.getD 0 0) := by
  have n1 := (Gr.ok hv).n1
  have n2 := (Gr.ok hv2).n1
  rcases best_cost hv h1 with ⟨a1, a2⟩ | ⟨a1, a2, a3, a4⟩
  · rcases best_cost hv2 h2 with ⟨b1, b2⟩ | ⟨b1, b2, b3, b4⟩
    · exact .inl ⟨a1, b1, a2⟩
    · have := hp.mem_iff.1 b3
      rw [a2] at this; cases this
  · rcases best_cost hv2 h2 with ⟨b1, b2⟩ | ⟨b1, b2, b3, b4⟩
    · have := hp.mem_iff.2 a3
      rw [b2] at this; cases this
    · refine .inr ⟨a1, b1, (fun e => by rw [e] at a3; cases a3), by omega, by omega, ?_⟩
      have c1 := a4 _ (hp.mem_iff.1 b3)
      have c2 := b4 _ (hp.mem_iff.2 a3)
      omega
theorem wy_cs {g : Gr} (h : g.Ok) : g.wy 0 = 0 ↔ g.cs = [] := by
  have w1 := wy_len h (q := 0) (Int.le_refl 0) (by have := h.n1; omega)
  have hc : (4611686018427387905 : Int) = capM := rfl
  unfold Gr.cs
  rw [List.map_eq_nil_iff]
  constructor
  · intro e
    exact List.eq_nil_of_length_eq_zero (by rw [e] at w1; omega)
  · intro e
    rw [w1, e]
    show min ((0 : Nat) : Int) capM = 0
    omega
end Go.Proofs.Ytgdfjblfpeedjaa
