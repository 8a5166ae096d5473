/- Plain mathematics: how many ways lead on, reckoned from the last node on. Nothing here speaks of the program. -/
import Derived.Test.YtdoobdfanalnbaaDAa
namespace Go.Proofs.Ytdoobdfanalnbaa
set_option linter.unusedVariables false
set_option linter.unusedSimpArgs false

def inW (g : Gr) (q : Nat) (L : List Int) (i : Int) : List Int := L.set q (min (L.getD q 0 + L.getD (arc g.rs i).t.toNat 0) capM)
def stepW (g : Gr) (L : List Int) (q : Nat) : List Int := (outI g.rs q).foldl (inW g q) L
def WOk (N : Nat) (L : List Int) : Prop := L.length = N ∧ ∀ j : Nat, 0 ≤ L.getD j 0 ∧ L.getD j 0 ≤ capM
theorem getD_set' {L : List Int} {q j : Nat} {x : Int} : (L.set q x).getD j 0 = if j = q ∧ q < L.length then x else L.getD j 0 := by
  rw [List.getD_eq_getElem?_getD, List.getD_eq_getElem?_getD, List.getElem?_set]
  by_cases e : q = j
  · subst e
    by_cases h : q < L.length
    · simp [h]
    · simp [h]
  · rw [if_neg e, if_neg (by omega)]
theorem capM_pos : (0 : Int) ≤ capM := by decide
theorem WOk.inW {g : Gr} {N q : Nat} {L : List Int} (h : WOk N L) (i : Int) : WOk N (inW g q L i) := by
  refine ⟨by unfold Go.Proofs.Ytdoobdfanalnbaa.inW; rw [List.length_set]; exact h.1, fun j => ?_⟩
  unfold Go.Proofs.Ytdoobdfanalnbaa.inW
  rw [getD_set']
  split
  · have h1 := h.2 q
    have h2 := h.2 (arc g.rs i).t.toNat
    exact ⟨Int.le_min.2 ⟨by omega, capM_pos⟩, Int.min_le_right _ _⟩
  · exact h.2 j
theorem WOk.fold {g : Gr} {N q : Nat} : ∀ (is : List Int) {L : List Int}, WOk N L → WOk N (is.foldl (Go.Proofs.Ytdoobdfanalnbaa.inW g q) L)
  | [], L, h => h
  | i :: is, L, h => WOk.fold is (h.inW i)
theorem WOk.step {g : Gr} {N : Nat} {L : List Int} (h : WOk N L) (q : Nat) : WOk N (stepW g L q) := WOk.fold _ h
theorem WOk.steps {g : Gr} {N : Nat} : ∀ (qs : List Nat) {L : List Int}, WOk N L → WOk N (qs.foldl (stepW g) L)
  | [], L, h => h
  | q :: qs, L, h => WOk.steps qs (h.step q)
def initW (N : Nat) : List Int := (List.replicate N 0).set (N - 1) 1
theorem getD_rep (N j : Nat) : (List.replicate N (0 : Int)).getD j 0 = 0 := by
  rw [List.getD_eq_getElem?_getD, List.getElem?_replicate]
  split <;> rfl
theorem WOk.init (N : Nat) : WOk N (initW N) := by
  refine ⟨by simp [initW], fun j => ?_⟩
  unfold initW
  rw [getD_set', getD_rep]
  split <;> decide
theorem inW_fold {g : Gr} {q : Nat} : ∀ (is : List Int) (L : List Int), q < L.length → (∀ i ∈ is, ¬ (arc g.rs i).t.toNat = q) →
    is.foldl (inW g q) L = L.set q (is.foldl (fun s i => min (s + L.getD (arc g.rs i).t.toNat 0) capM) (L.getD q 0))
  | [], L, h, _ => by
    apply List.ext_getElem?
    intro j
    rw [List.foldl_nil, List.foldl_nil, List.getElem?_set]
    by_cases e : q = j
    · subst e
      rw [if_pos rfl, if_pos h, List.getD_eq_getElem?_getD, List.getElem?_eq_getElem h]; rfl
    · rw [if_neg e]
  | i :: is, L, h, ht => by
    rw [List.foldl_cons, List.foldl_cons, inW_fold is (inW g q L i) (by unfold inW; rw [List.length_set]; exact h) (fun i hi => ht i (List.mem_cons_of_mem _ hi))]
    have e1 : (inW g q L i).getD q 0 = min (L.getD q 0 + L.getD (arc g.rs i).t.toNat 0) capM := by unfold inW; rw [getD_set', if_pos ⟨rfl, h⟩]
    rw [e1]
    have e2 : is.foldl (fun s i_1 => min (s + (inW g q L i).getD (arc g.rs i_1).t.toNat 0) capM) (min (L.getD q 0 + L.getD (arc g.rs i).t.toNat 0) capM) = is.foldl (fun s i => min (s + L.getD (arc g.rs i).t.toNat 0) capM) (min (L.getD q 0 + L.getD (arc g.rs i).t.toNat 0) capM) :=
      foldl_same fun a ha s => by
        have : (inW g q L i).getD (arc g.rs a).t.toNat 0 = L.getD (arc g.rs a).t.toNat 0 := by
          unfold inW; rw [getD_set', if_neg (fun hh => ht a (List.mem_cons_of_mem _ ha) hh.1)]
        rw [this]
    rw [e2]
    unfold inW
    rw [List.set_set]
/-- The numbers of ways. -/
def Gr.waysL (g : Gr) : List Int := (List.range g.n.toNat).map fun q : Nat => g.wy (q : Int)
/-- .. of the last k nodes. -/
def Gr.waysK (g : Gr) (k : Nat) : List Int := (List.range g.n.toNat).map fun q : Nat => if g.n.toNat ≤ q + k ∨ q + 1 = g.n.toNat then g.wy (q : Int) else 0
theorem waysK_get {g : Gr} {k j : Nat} (h : j < g.n.toNat) : (g.waysK k)[j]? = some (if g.n.toNat ≤ j + k ∨ j + 1 = g.n.toNat then g.wy (j : Int) else 0) := by
  unfold Gr.waysK; rw [List.getElem?_map, List.getElem?_range h]; rfl
theorem waysK_len (g : Gr) (k : Nat) : (g.waysK k).length = g.n.toNat := by simp [Gr.waysK]
theorem waysK_getD {g : Gr} {k j : Nat} (h : j < g.n.toNat) : (g.waysK k).getD j 0 = if g.n.toNat ≤ j + k ∨ j + 1 = g.n.toNat then g.wy (j : Int) else 0 := by
  rw [List.getD_eq_getElem?_getD, waysK_get h]; rfl
theorem waysK_zero {g : Gr} (h : g.Ok) : g.waysK 0 = initW g.n.toNat := by
  have := h.n1
  apply List.ext_getElem?
  intro j
  by_cases hj : j < g.n.toNat
  · rw [waysK_get hj]
    unfold initW
    rw [List.getElem?_set]
    by_cases e : g.n.toNat - 1 = j
    · rw [if_pos (show g.n.toNat ≤ j + 0 ∨ j + 1 = g.n.toNat from .inr (by omega)), if_pos e, if_pos (by simp; omega)]
      have e2 : (j : Int) = g.n - 1 := by omega
      rw [e2, wy_end h]
    · rw [if_neg (show ¬ (g.n.toNat ≤ j + 0 ∨ j + 1 = g.n.toNat) by omega), if_neg e, List.getElem?_replicate, if_pos hj]
  · rw [List.getElem?_eq_none (by rw [waysK_len]; omega), List.getElem?_eq_none (by simp [initW]; omega)]
theorem waysK_step {g : Gr} (h : g.Ok) {k : Nat} (hk : k < g.n.toNat) : stepW g (g.waysK k) (g.n.toNat - 1 - k) = g.waysK (k + 1) := by
  have := h.n1
  obtain ⟨q, hq⟩ : ∃ q, q = g.n.toNat - 1 - k := ⟨_, rfl⟩
  rw [← hq]
  have hqn : q < g.n.toNat := by omega
  unfold stepW
  rw [inW_fold _ _ (by rw [waysK_len]; exact hqn) (fun i hi => by
    obtain ⟨i0, i1, i2⟩ := outI_mem.1 hi
    have := h.arc _ (arc_mem i0 i1)
    omega)]
  apply List.ext_getElem?
  intro j
  rw [List.getElem?_set, waysK_len]
  by_cases hj : j < g.n.toNat
  · rw [waysK_get hj, waysK_get hj]
    by_cases e : q = j
    · subst e
      rw [if_pos rfl, if_pos hqn, if_pos (.inl (by omega))]
      by_cases hl : q + 1 = g.n.toNat
      · have e2 : (q : Int) = g.n - 1 := by omega
        rw [e2, out_end h, List.foldl_nil, waysK_getD hqn, if_pos (.inr hl), e2]
      · rw [waysK_getD hqn, if_neg (by omega), wy_out h (by omega) (by omega)]
        congr 1
        refine foldl_same fun i hi s => ?_
        obtain ⟨i0, i1, i2⟩ := outI_mem.1 hi
        have ha := h.arc _ (arc_mem i0 i1)
        rw [waysK_getD (by omega), if_pos (.inl (by omega))]
        rw [show (((arc g.rs i).t.toNat : Nat) : Int) = (arc g.rs i).t by omega]
    · rw [if_neg e]
      congr 1
      by_cases h1 : g.n.toNat ≤ j + k ∨ j + 1 = g.n.toNat
      · rw [if_pos h1, if_pos (by omega)]
      · rw [if_neg h1, if_neg (by omega)]
  · rw [if_neg (by omega), List.getElem?_eq_none (by rw [waysK_len]; omega), List.getElem?_eq_none (by rw [waysK_len]; omega)]
theorem waysK_all (g : Gr) : g.waysK g.n.toNat = g.waysL := by
  unfold Gr.waysK Gr.waysL
  apply List.map_congr_left
  intro q hq
  rw [if_pos (.inl (by omega))]
theorem waysL_len (g : Gr) : g.waysL.length = g.n.toNat := by simp [Gr.waysL]
theorem waysL_get {g : Gr} {j : Nat} (h : j < g.n.toNat) : g.waysL[j]? = some (g.wy (j : Int)) := by
  unfold Gr.waysL; rw [List.getElem?_map, List.getElem?_range h]; rfl
theorem waysL_getD {g : Gr} {j : Nat} (h : j < g.n.toNat) (d : Int) : g.waysL.getD j d = g.wy (j : Int) := by rw [List.getD_eq_getElem?_getD, waysL_get h]; rfl
theorem stepW_take {g : Gr} {q k : Nat} {i : Int} {L : List Int} (hi : (outI g.rs q)[k]? = some i) : ((outI g.rs q).take (k + 1)).foldl (inW g q) L = inW g q (((outI g.rs q).take k).foldl (inW g q) L) i := by
  rw [List.take_add_one, hi, List.foldl_append]; rfl
/-! ### The arcs that belong to a way to the end -/
def wayB (g : Gr) (i : Int) : Bool := decide (g.wy (arc g.rs i).t = 0)
def outF (g : Gr) (q : Int) : List Int := (outI g.rs q).filter fun i => !wayB g i
def Gr.rowsFK (g : Gr) (k : Nat) : List (List Int) := (List.range g.n.toNat).map fun q : Nat => if q < k then outF g (q : Int) else outI g.rs (q : Int)
theorem rowsFK_len (g : Gr) (k : Nat) : (g.rowsFK k).length = g.n.toNat := by simp [Gr.rowsFK]
theorem rowsFK_get {g : Gr} {q : Nat} (h : q < g.n.toNat) (k : Nat) : (g.rowsFK k)[q]? = some (if q < k then outF g (q : Int) else outI g.rs (q : Int)) := by
  unfold Gr.rowsFK; rw [List.getElem?_map, List.getElem?_range h]; rfl
theorem rowsFK_zero (g : Gr) : g.rowsFK 0 = (List.range g.n.toNat).map fun q : Nat => outI g.rs (q : Int) := by
  unfold Gr.rowsFK
  apply List.map_congr_left
  intro q _
  rw [if_neg (by omega)]
theorem rowsFK_all (g : Gr) : g.rowsFK g.n.toNat = (List.range g.n.toNat).map fun q : Nat => outF g (q : Int) := by
  unfold Gr.rowsFK
  apply List.map_congr_left
  intro q hq
  rw [if_pos (List.mem_range.1 hq)]
theorem rowsFK_step {g : Gr} {k : Nat} (h : k < g.n.toNat) : (g.rowsFK k).set k (outF g (k : Int)) = g.rowsFK (k + 1) := by
  apply List.ext_getElem?
  intro j
  rw [List.getElem?_set, rowsFK_len]
  by_cases hj : j < g.n.toNat
  · rw [rowsFK_get hj, rowsFK_get hj]
    by_cases e : k = j
    · subst e; rw [if_pos rfl, if_pos h, if_pos (by omega)]
    · rw [if_neg e]
      by_cases h1 : j < k
      · rw [if_pos h1, if_pos (by omega)]
      · rw [if_neg h1, if_neg (by omega)]
  · rw [if_neg (by omega), List.getElem?_eq_none (by rw [rowsFK_len]; omega), List.getElem?_eq_none (by rw [rowsFK_len]; omega)]
theorem flatMap_filter {α β : Type} {f : α → List β} {p : α → Bool} : ∀ {l : List α}, (∀ a ∈ l, p a = false → f a = []) → l.flatMap f = (l.filter p).flatMap f
  | [], _ => rfl
  | a :: l, h => by
    rw [List.flatMap_cons, List.filter_cons]
    have ih := flatMap_filter (f := f) (p := p) (l := l) (fun b hb => h b (List.mem_cons_of_mem _ hb))
    by_cases e : p a = true
    · rw [if_pos e, List.flatMap_cons, ih]
    · rw [if_neg e, h a (by simp) (by simpa using e), List.nil_append, ih]
theorem pv_outF {g : Gr} (h : g.Ok) {q : Int} (h0 : 0 ≤ q) (h1 : q < g.n - 1) : g.pv q = (outF g q).flatMap fun i => (g.pv (arc g.rs i).t).map (i :: ·) := by
  rw [pv_eq h h0 h1]
  refine flatMap_filter fun i hi hp => ?_
  obtain ⟨i0, i1, i2⟩ := outI_mem.1 hi
  have ha := h.arc _ (arc_mem i0 i1)
  have hw : g.wy (arc g.rs i).t = 0 := by unfold wayB at hp; simpa using hp
  rw [wy_len h (by omega) (by omega)] at hw
  have : (g.pv (arc g.rs i).t).length = 0 := by
    have : min (((g.pv (arc g.rs i).t).length : Nat) : Int) 4611686018427387905 = 0 := hw
    omega
  rw [List.eq_nil_of_length_eq_zero this]; rfl
theorem outF_mem {g : Gr} {q i : Int} (h : i ∈ outF g q) : 0 ≤ i ∧ i < (g.rs.length : Int) ∧ (arc g.rs i).f = q ∧ ¬ g.wy (arc g.rs i).t = 0 := by
  unfold outF at h
  rw [List.mem_filter] at h
  obtain ⟨h1, h2, h3⟩ := outI_mem.1 h.1
  exact ⟨h1, h2, h3, by have := h.2; unfold wayB at this; simpa using this⟩
theorem outF_len (g : Gr) (q : Int) : (outF g q).length ≤ g.rs.length := Nat.le_trans (List.length_filter_le _ _) (outI_len _ _)
theorem fin_list {n : Nat} : ∀ {l : List Int}, (∀ i ∈ l, 0 ≤ i ∧ i < (n : Int)) → ∃ zs : List (Fin n), l = zs.map fun i => (i.1 : Int)
  | [], _ => ⟨[], rfl⟩
  | a :: l, h => by
    obtain ⟨zs, hz⟩ := fin_list (l := l) (fun b hb => h b (List.mem_cons_of_mem _ hb))
    have ha := h a (by simp)
    refine ⟨⟨a.toNat, by omega⟩ :: zs, ?_⟩
    rw [List.map_cons, ← hz]
    congr 1
    show a = ((a.toNat : Nat) : Int)
    omega
theorem WOk.get {N : Nat} {L : List Int} (h : WOk N L) (j : Nat) : 0 ≤ L.getD j 0 ∧ L.getD j 0 ≤ 4611686018427387905 := h.2 j
end Go.Proofs.Ytdoobdfanalnbaa
