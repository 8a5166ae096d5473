/- Mathematics: the costs of the cheapest ways are potentials, and the way that they show is a path that they prove. -/
import Derived.Test.YtgdfjblfpeedjaaDEm
import Derived.Test.YtgdfjblfpeedjaaDEh
import Derived.Test.YtgdfjblfpeedjaaDAX
namespace Go.Proofs.Ytgdfjblfpeedjaa
open Go.RowKit
set_option linter.unusedVariables false
set_option linter.unusedSimpArgs false
set_option maxRecDepth 100000

/-- The potential of a node. -/
def pv (L : List Int) (u : Int) : Int := L.getD u.toNat 0
theorem pv_set {L : List Int} {u f z : Int} (hu : 0 ≤ u) (hf : 0 ≤ f) (hl : f < (L.length : Int)) : pv (L.set f.toNat z) u = if u = f then z else pv L u := by
  unfold pv
  rw [List.getD_eq_getElem?_getD, List.getD_eq_getElem?_getD, List.getElem?_set]
  by_cases e : u = f
  · subst e; rw [if_pos rfl, if_pos rfl, if_pos (by omega)]; rfl
  · rw [if_neg (by omega), if_neg e]
/-- An index of an arc. -/
def Ix (g : Gr) (i : Int) : Prop := 0 ≤ i ∧ i < (g.rs.length : Int)
theorem Ix.arc {g : Gr} (h : g.Ok) {i : Int} (hi : Ix g i) : 0 ≤ (arc g.rs i).f ∧ (arc g.rs i).f < (arc g.rs i).t ∧ (arc g.rs i).t < g.n ∧ 0 ≤ (arc g.rs i).c := by
  have := h.arc _ (arc_mem hi.1 hi.2)
  exact ⟨this.1, this.2.1, this.2.2.1, this.2.2.2.1⟩
/-- What holds of the costs when some arcs are seen. -/
structure CInv (g : Gr) (l : List Int) (L : List Int) : Prop where
  len : (L.length : Int) = g.n
  last : pv L (g.n - 1) = 0
  low : ∀ i ∈ l, 0 ≤ pv L (arc g.rs i).t → 0 ≤ pv L (arc g.rs i).f ∧ pv L (arc g.rs i).f ≤ (arc g.rs i).c + pv L (arc g.rs i).t
  tight : ∀ v : Int, 0 ≤ v → v < g.n - 1 → 0 ≤ pv L v → ∃ i ∈ l, (arc g.rs i).f = v ∧ 0 ≤ pv L (arc g.rs i).t ∧ (arc g.rs i).c + pv L (arc g.rs i).t = pv L v
theorem CInv.step {g : Gr} (h : g.Ok) {l L : List Int} {i : Int} (hi : Ix g i) (hl : ∀ j ∈ l, Ix g j ∧ (arc g.rs i).f ≤ (arc g.rs j).f) (hI : CInv g l L) : CInv g (i :: l) (stepC g L i) := by
  obtain ⟨hlen, hlast, hlow, htight⟩ := hI
  obtain ⟨f0, ft, tn, c0⟩ := hi.arc h
  have e : stepC g L i = if pv L (arc g.rs i).t < 0 then L else if pv L (arc g.rs i).f < 0 ∨ (arc g.rs i).c + pv L (arc g.rs i).t < pv L (arc g.rs i).f then L.set (arc g.rs i).f.toNat ((arc g.rs i).c + pv L (arc g.rs i).t) else L := rfl
  rw [e]
  clear e
  obtain ⟨a, ha⟩ : ∃ a, a = arc g.rs i := ⟨_, rfl⟩
  rw [← ha] at f0 ft tn c0 ⊢
  simp only [← ha] at hl
  by_cases hy : pv L a.t < 0
  · rw [if_pos hy]
    refine ⟨hlen, hlast, fun j hj h1 => ?_, fun v h1 h2 h3 => ?_⟩
    · rcases List.mem_cons.1 hj with rfl | hj
      · rw [← ha] at h1; omega
      · exact hlow j hj h1
    · obtain ⟨j, h4, h5⟩ := htight v h1 h2 h3
      exact ⟨j, List.mem_cons_of_mem _ h4, h5⟩
  · rw [if_neg hy]
    by_cases hx : pv L a.f < 0 ∨ a.c + pv L a.t < pv L a.f
    · rw [if_pos hx]
      have S : ∀ u : Int, 0 ≤ u → pv (L.set a.f.toNat (a.c + pv L a.t)) u = if u = a.f then a.c + pv L a.t else pv L u := fun u hu => pv_set hu f0 (by omega)
      refine ⟨by rw [List.length_set]; exact hlen, ?_, fun j hj h1 => ?_, fun v h1 h2 h3 => ?_⟩
      · rw [S _ (by omega), if_neg (by omega)]; exact hlast
      · rcases List.mem_cons.1 hj with rfl | hj
        · rw [← ha] at h1 ⊢
          rw [S _ f0, if_pos rfl, S _ (by omega), if_neg (by omega)]
          omega
        · obtain ⟨k1, k2⟩ := hl j hj
          obtain ⟨j0, j1, j2, j3⟩ := k1.arc h
          rw [S (arc g.rs j).t (by omega), if_neg (by omega)] at h1 ⊢
          have h5 := hlow j hj h1
          rw [S _ j0]
          split
          · rename_i e
            rw [e] at h5
            omega
          · exact h5
      · rw [S _ h1] at h3 ⊢
        by_cases hv : v = a.f
        · refine ⟨i, List.mem_cons_self, ?_⟩
          rw [if_pos hv, ← ha, S _ (by omega), if_neg (by omega)]
          exact ⟨hv.symm, by omega, rfl⟩
        · rw [if_neg hv] at h3 ⊢
          obtain ⟨j, hj, h5, h6, h7⟩ := htight v h1 h2 h3
          obtain ⟨k1, k2⟩ := hl j hj
          obtain ⟨j0, j1, j2, j3⟩ := k1.arc h
          refine ⟨j, List.mem_cons_of_mem _ hj, h5, ?_⟩
          rw [S _ (by omega), if_neg (by omega)]
          exact ⟨h6, h7⟩
    · rw [if_neg hx]
      refine ⟨hlen, hlast, fun j hj h1 => ?_, fun v h1 h2 h3 => ?_⟩
      · rcases List.mem_cons.1 hj with rfl | hj
        · rw [← ha] at h1 ⊢; omega
        · exact hlow j hj h1
      · obtain ⟨j, h4, h5⟩ := htight v h1 h2 h3
        exact ⟨j, List.mem_cons_of_mem _ h4, h5⟩
theorem pv_init {g : Gr} (h : g.Ok) {v : Int} (h0 : 0 ≤ v) (h1 : v < g.n) : pv (initC g.n.toNat) v = if v = g.n - 1 then 0 else -1 := by
  have n1 := h.n1
  unfold initC
  rw [show g.n.toNat - 1 = (g.n - 1).toNat by omega, pv_set h0 (by omega) (by rw [List.length_replicate]; omega)]
  split
  · rfl
  · unfold pv
    rw [List.getD_eq_getElem?_getD, List.getElem?_replicate, if_pos (by omega)]; rfl
theorem CInv.init {g : Gr} (h : g.Ok) : CInv g [] (initC g.n.toNat) := by
  have n1 := h.n1
  refine ⟨by unfold initC; rw [List.length_set, List.length_replicate]; omega, ?_, (fun i hi => by cases hi), fun v h0 h1 h2 => ?_⟩
  · rw [pv_init h (by omega) (by omega), if_pos rfl]
  · rw [pv_init h h0 (by omega), if_neg (by omega)] at h2; omega
theorem CInv.all {g : Gr} (h : g.Ok) : ∀ (l : List Int), (∀ i ∈ l, Ix g i) → l.Pairwise (RL (kf g)) → CInv g l (l.foldr (fun i L => stepC g L i) (initC g.n.toNat))
  | [], _, _ => CInv.init h
  | i :: l, hi, hp => by
    obtain ⟨h1, h2⟩ := List.pairwise_cons.1 hp
    exact (CInv.all h l (fun j hj => hi j (List.mem_cons_of_mem _ hj)) h2).step h (hi i List.mem_cons_self) fun j hj => ⟨hi j (List.mem_cons_of_mem _ hj), (h1 j hj).le⟩
theorem ord_ix {g : Gr} {Z : List Int} (hZ : IsOrd g Z) {i : Int} : i ∈ Z ↔ Ix g i := by
  rw [hZ.1.mem_iff]; exact idL_mem
theorem costs_inv {g : Gr} (h : g.Ok) {Z : List Int} (hZ : IsOrd g Z) : CInv g Z (costsC g g.n.toNat Z) := by
  unfold costsC
  rw [List.foldl_reverse]
  exact CInv.all h Z (fun i hi => (ord_ix hZ).1 hi) hZ.2
/-- The way that the potentials show leads to the end. -/
theorem follow_all {g : Gr} (h : g.Ok) {P : List Int} : ∀ (l : List Int), l.Pairwise (RL (kf g)) → (∀ i ∈ l, Ix g i) → ∀ (L : List Int) (q : Int), walkP g.rs 0 L = some q → 0 ≤ q → q < g.n → 0 ≤ pv P q → sumP g.rs L + pv P q = pv P 0 →
    (∀ v : Int, q ≤ v → v < g.n - 1 → 0 ≤ pv P v → ∃ j ∈ l, (arc g.rs j).f = v ∧ 0 ≤ pv P (arc g.rs j).t ∧ (arc g.rs j).c + pv P (arc g.rs j).t = pv P v) →
    walkP g.rs 0 (l.foldl (followS g P) (L, q)).1 = some (g.n - 1) ∧ sumP g.rs (l.foldl (followS g P) (L, q)).1 + pv P (g.n - 1) = pv P 0
  | [], _, _, L, q, hw, q0, q1, hq, hs, ht => by
    by_cases e : q < g.n - 1
    · obtain ⟨j, hj, _⟩ := ht q (Int.le_refl _) e hq
      cases hj
    · obtain rfl : q = g.n - 1 := by omega
      exact ⟨hw, hs⟩
  | i :: l, hp, hi, L, q, hw, q0, q1, hq, hs, ht => by
    obtain ⟨hp1, hp2⟩ := List.pairwise_cons.1 hp
    have hii := hi i List.mem_cons_self
    have hir : ∀ j ∈ l, Ix g j := fun j hj => hi j (List.mem_cons_of_mem _ hj)
    obtain ⟨f0, ft, tn, c0⟩ := hii.arc h
    rw [List.foldl_cons]
    have e : followS g P (L, q) i = if (arc g.rs i).f = q ∧ 0 ≤ pv P (arc g.rs i).t ∧ (arc g.rs i).c + pv P (arc g.rs i).t = pv P q then (L ++ [i], (arc g.rs i).t) else (L, q) := rfl
    rw [e]
    by_cases hc : (arc g.rs i).f = q ∧ 0 ≤ pv P (arc g.rs i).t ∧ (arc g.rs i).c + pv P (arc g.rs i).t = pv P q
    · rw [if_pos hc]
      refine follow_all h l hp2 hir (L ++ [i]) _ ?_ (by omega) tn hc.2.1 ?_ fun v h1 h2 h3 => ?_
      · rw [walkP_app, hw]
        show walkP g.rs q [i] = _
        rw [walkP_cons, if_pos ⟨hii.1, hii.2, hc.1⟩]; rfl
      · rw [sumP_app]
        have e2 : sumP g.rs [i] = (arc g.rs i).c := by simp [sumP]
        rw [e2]
        omega
      · obtain ⟨j, hj, h5, h6⟩ := ht v (by omega) h2 h3
        rcases List.mem_cons.1 hj with rfl | hj
        · omega
        · exact ⟨j, hj, h5, h6⟩
    · rw [if_neg hc]
      refine follow_all h l hp2 hir L q hw q0 q1 hq hs fun v h1 h2 h3 => ?_
      obtain ⟨j, hj, h5, h6⟩ := ht v h1 h2 h3
      rcases List.mem_cons.1 hj with rfl | hj
      · by_cases hv : v = q
        · exact absurd ⟨by omega, by rw [← hv]; exact h6⟩ hc
        · obtain ⟨k, hk, h7, h8⟩ := ht q (Int.le_refl _) (by omega) hq
          rcases List.mem_cons.1 hk with rfl | hk
          · omega
          · have := (hp1 k hk).le
            unfold kf at this
            omega
      · exact ⟨j, hj, h5, h6⟩
/-- A node with a potential lies ahead of whatever leads to one. -/
theorem way_low {g : Gr} {Z P : List Int} (hZ : ∀ i, Ix g i → i ∈ Z) (hI : CInv g Z P) : ∀ (p : List Int) (q r : Int), walkP g.rs q p = some r → 0 ≤ pv P r → 0 ≤ pv P q
  | [], q, r, hw, hr => by
    have : q = r := by simpa [walkP] using hw
    rw [this]; exact hr
  | i :: p, q, r, hw, hr => by
    rw [walkP_cons] at hw
    by_cases hc : 0 ≤ i ∧ i < (g.rs.length : Int) ∧ (arc g.rs i).f = q
    · rw [if_pos hc] at hw
      have h1 := way_low hZ hI p _ r hw hr
      have h2 := (hI.low i (hZ i ⟨hc.1, hc.2.1⟩) h1).1
      rwa [hc.2.2] at h2
    · rw [if_neg hc] at hw; cases hw
/-- Where the start has no cost there is no path. -/
theorem no_path {g : Gr} (hv : g.vE = 0) {Z : List Int} (hZ : IsOrd g Z) (h0 : (costsC g g.n.toNat Z).getD 0 0 < 0) (p : List Int) : g.chk p = false := by
  have hO := Gr.ok hv
  have hI := costs_inv hO hZ
  unfold Gr.chk
  refine decide_eq_false fun hc => ?_
  have := way_low (fun i hi => (ord_ix hZ).2 hi) hI p 0 _ hc.2 (by rw [hI.last]; omega)
  have e : pv (costsC g g.n.toNat Z) 0 = (costsC g g.n.toNat Z).getD 0 0 := rfl
  omega
/-- What Best answers, Check accepts. -/
theorem best_rck {g : Gr} (hv : g.vE = 0) {Z P : List Int} (hZ : IsOrd g Z) (hP : P = costsC g g.n.toNat Z) (h0 : 0 ≤ P.getD 0 0) : g.rck (followL g P Z) P = true := by
  have hO := Gr.ok hv
  have n1 := hO.n1
  have hI : CInv g Z P := by rw [hP]; exact costs_inv hO hZ
  have hC : COk g.n.toNat 6000 P := by rw [hP]; exact costs_ok hO hZ
  obtain ⟨h1, h2⟩ := follow_all hO (P := P) Z hZ.2 (fun i hi => (ord_ix hZ).1 hi) [] 0 rfl (Int.le_refl _) (by omega) h0 (by simp [sumP]) fun v a b c => hI.tight v a b c
  have h3 : sumP g.rs (followL g P Z) = pv P 0 := by
    unfold followL
    rw [hI.last] at h2
    omega
  have h4 := cst_yes (p := followL g P Z) hv h1
  unfold Gr.rck
  rw [h4, Bool.and_eq_true]
  refine ⟨decide_eq_true ⟨rfl, hI.len⟩, ?_⟩
  show provV g P (sumP g.rs (followL g P Z)) = true
  rw [prov_yes ⟨fun x hx => ⟨(hC.2 x hx).1, by have := (hC.2 x hx).2; omega⟩, h3.symm, hI.last⟩, Bool.not_eq_true']
  rw [List.any_eq_false]
  intro a ha
  obtain ⟨k, hk, rfl⟩ := List.getElem_of_mem ha
  have e : arc g.rs (k : Int) = g.rs[k] := by
    unfold arc
    rw [List.getD_eq_getElem?_getD, Int.toNat_natCast, List.getElem?_eq_getElem hk]; rfl
  have hl := hI.low (k : Int) ((ord_ix hZ).2 ⟨by omega, by omega⟩)
  rw [e] at hl
  intro hb
  unfold brk at hb
  rw [Bool.and_eq_true, Bool.or_eq_true, decide_eq_true_eq, decide_eq_true_eq, decide_eq_true_eq] at hb
  obtain ⟨b1, b2⟩ := hb
  have h5 := hl b1
  unfold pv at h5
  omega
end Go.Proofs.Ytgdfjblfpeedjaa
