/- Plain mathematics: what is reached is what ways lead to; cuts. Nothing here speaks of the program. -/
import Derived.Test.YtdoobdfanalnbaaDAd
import Derived.Test.YtdoobdfanalnbaaDAb
namespace Go.Proofs.Ytdoobdfanalnbaa
set_option linter.unusedVariables false
set_option linter.unusedSimpArgs false

def Rea (g : Gr) (j : Int) : Prop := ∃ p, walkP g.rs 0 p = some j
theorem Rea.next {g : Gr} {j i : Int} (h : Rea g j) (hi : i ∈ outI g.rs j) : Rea g (arc g.rs i).t := by
  obtain ⟨p, hp⟩ := h
  obtain ⟨i0, i1, i2⟩ := outI_mem.1 hi
  refine ⟨p ++ [i], ?_⟩
  rw [walkP_app, hp]
  show walkP g.rs j [i] = _
  rw [walkP_cons, if_pos ⟨i0, i1, i2⟩]; rfl
theorem rcI_get {g : Gr} : ∀ (is : List Int) (L : List Bool) (j : Nat), j < L.length → ((is.foldl (rcI g) L).getD j false = true ↔ L.getD j false = true ∨ ∃ i ∈ is, (arc g.rs i).t.toNat = j)
  | [], L, j, h => by simp
  | i :: is, L, j, h => by
    rw [List.foldl_cons, rcI_get is _ j (by unfold rcI; rw [List.length_set]; exact h)]
    unfold rcI
    rw [getB_set]
    constructor
    · rintro (h1 | ⟨k, h1, h2⟩)
      · split at h1
        · rename_i h3; exact .inr ⟨i, by simp, h3.1.symm⟩
        · exact .inl h1
      · exact .inr ⟨k, List.mem_cons_of_mem _ h1, h2⟩
    · rintro (h1 | ⟨k, h1, h2⟩)
      · left; split
        · rfl
        · exact h1
      · rcases List.mem_cons.1 h1 with rfl | h3
        · left; rw [if_pos ⟨h2.symm, by rw [h2]; exact h⟩]
        · exact .inr ⟨k, h3, h2⟩
structure RInv (g : Gr) (k : Nat) (L : List Bool) : Prop where
  len : L.length = g.n.toNat
  way : ∀ j : Nat, L.getD j false = true → Rea g (j : Int)
  start : L.getD 0 false = true
  shut : ∀ a ∈ g.rs, a.f < (k : Int) → L.getD a.f.toNat false = true → L.getD a.t.toNat false = true
theorem rinv {g : Gr} (h : g.Ok) : ∀ k, RInv g k (g.rcK k)
  | 0 => by
    have := h.n1
    refine ⟨rcK_len g 0, fun j hj => ?_, ?_, fun a ha hk _ => ?_⟩
    · unfold Gr.rcK at hj
      rw [List.range_zero, List.foldl_nil] at hj
      unfold initR at hj
      rw [getB_set] at hj
      split at hj
      · rename_i h3; rw [h3.1]; exact ⟨[], rfl⟩
      · rw [List.getD_eq_getElem?_getD, List.getElem?_replicate] at hj
        split at hj <;> cases hj
    · show (initR g.n.toNat).getD 0 false = true
      unfold initR
      rw [getB_set, if_pos ⟨rfl, by simp; omega⟩]
    · have := h.arc a ha; omega
  | k + 1 => by
    have ih := rinv h k
    have hlen : (g.rcK (k + 1)).length = g.n.toNat := rcK_len g (k + 1)
    rw [rcK_succ]
    unfold rcStep
    by_cases hq : (g.rcK k).getD k false = true
    · rw [if_pos hq]
      have hkl : k < (g.rcK k).length := by
        rcases Nat.lt_or_ge k (g.rcK k).length with h1 | h1
        · exact h1
        · rw [List.getD_eq_getElem?_getD, List.getElem?_eq_none h1] at hq; cases hq
      have hget := fun j (hj : j < (g.rcK k).length) => rcI_get (g := g) (outI g.rs (k : Int)) (g.rcK k) j hj
      have hout : ∀ j, ¬ j < (g.rcK k).length → ((outI g.rs (k : Int)).foldl (rcI g) (g.rcK k)).getD j false = false := fun j hj => by
        rw [List.getD_eq_getElem?_getD, List.getElem?_eq_none (by rw [rcI_len]; omega)]; rfl
      refine ⟨by rw [rcI_len]; exact ih.len, fun j hj => ?_, ?_, fun a ha hk hf => ?_⟩
      · by_cases hjl : j < (g.rcK k).length
        · rcases (hget j hjl).1 hj with h1 | ⟨i, h1, h2⟩
          · exact ih.way j h1
          · have := (ih.way k hq).next h1
            obtain ⟨i0, i1, i2⟩ := outI_mem.1 h1
            have ha := h.arc _ (arc_mem i0 i1)
            rwa [show (arc g.rs i).t = (j : Int) by omega] at this
        · rw [hout j hjl] at hj; cases hj
      · exact (hget 0 (by omega)).2 (.inl ih.start)
      · have hb := h.arc a ha
        have hl := ih.len
        have hfl : a.f.toNat < (g.rcK k).length := by omega
        have htl : a.t.toNat < (g.rcK k).length := by omega
        rw [hget _ htl]
        rcases (hget _ hfl).1 hf with h1 | ⟨i, h1, h2⟩
        · by_cases e : a.f = (k : Int)
          · right
            obtain ⟨i, hi, hia⟩ := List.mem_iff_getElem.1 ha
            refine ⟨(i : Int), ?_, ?_⟩
            · have hai : arc g.rs (i : Int) = a := by have := arc_get hi; rw [List.getElem?_eq_getElem hi, hia] at this; injection this with this; exact this.symm
              exact outI_mem.2 ⟨by omega, by omega, by rw [hai]; exact e⟩
            · have hai : arc g.rs (i : Int) = a := by have := arc_get hi; rw [List.getElem?_eq_getElem hi, hia] at this; injection this with this; exact this.symm
              rw [hai]
          · exact .inl (ih.shut a ha (by omega) h1)
        · obtain ⟨i0, i1, i2⟩ := outI_mem.1 h1
          have hc := h.arc _ (arc_mem i0 i1)
          omega
    · rw [if_neg hq]
      refine ⟨ih.len, ih.way, ih.start, fun a ha hk hf => ?_⟩
      have hb := h.arc a ha
      by_cases e : a.f = (k : Int)
      · rw [e, Int.toNat_natCast] at hf
        exact absurd hf hq
      · exact ih.shut a ha (by omega) hf
theorem rc_inv {g : Gr} (h : g.Ok) : RInv g g.n.toNat g.rc := rinv h _
theorem rc_way {g : Gr} (h : g.Ok) : ∀ (p : List Int) (q r : Int), g.rc.getD q.toNat false = true → 0 ≤ q → walkP g.rs q p = some r → g.rc.getD r.toNat false = true
  | [], q, r, hq, _, e => by
    unfold walkP at e; injection e with e; rw [← e]; exact hq
  | i :: p, q, r, hq, h0, e => by
    rw [walkP_cons] at e
    by_cases hc : 0 ≤ i ∧ i < (g.rs.length : Int) ∧ (arc g.rs i).f = q
    · rw [if_pos hc] at e
      have ha := h.arc _ (arc_mem hc.1 hc.2.1)
      refine rc_way h p _ r ((rc_inv h).shut _ (arc_mem hc.1 hc.2.1) (by omega) (by rw [hc.2.2]; exact hq)) (by omega) e
    · rw [if_neg hc] at e; cases e
theorem rc_iff {g : Gr} (h : g.Ok) {j : Int} (h0 : 0 ≤ j) : g.rc.getD j.toNat false = true ↔ Rea g j := by
  constructor
  · intro hj
    have := (rc_inv h).way _ hj
    rwa [show ((j.toNat : Nat) : Int) = j by omega] at this
  · rintro ⟨p, hp⟩
    exact rc_way h p 0 j (rc_inv h).start (Int.le_refl 0) hp
theorem some_wy {g : Gr} (h : g.Ok) : g.rc.getD (g.n - 1).toNat false = true ↔ 0 < g.wy 0 := by
  have h1 := h.n1
  rw [rc_iff h (by omega)]
  have h2 := wy_len h (q := 0) (Int.le_refl 0) (by omega)
  have h3 : g.wy 0 = min (((g.pv 0).length : Nat) : Int) 4611686018427387905 := h2
  constructor
  · rintro ⟨p, hp⟩
    have := (pv_iff h p 0 (Int.le_refl 0) (by omega)).2 hp
    have := List.length_pos_of_mem this
    omega
  · intro hw
    obtain ⟨p, hp⟩ := List.exists_mem_of_length_pos (show 0 < (g.pv 0).length by omega)
    exact ⟨p, (pv_iff h p 0 (Int.le_refl 0) (by omega)).1 hp⟩
/-! ### Cuts -/
def nlB (n : Int) (l : List Int) : Bool := decide ((∀ x ∈ l, 0 ≤ x ∧ x < n) ∧ l.Pairwise (· < ·))
def Gr.ccV (g : Gr) (l : List Int) : Bool := decide (g.vE = 0 ∧ nlB g.n l = true ∧ (0 : Int) ∈ l ∧ ¬ (g.n - 1) ∈ l ∧ ∀ a ∈ g.rs, a.f ∈ l → a.t ∈ l)
theorem cut_ok {g : Gr} (hv : g.vE = 0) (he : g.rc.getD (g.n - 1).toNat false = false) : g.ccV (memL g.rc) = true := by
  have h := Gr.ok hv
  have h1 := h.n1
  refine decide_eq_true ⟨hv, decide_eq_true ⟨fun x hx => ?_, memL_asc _⟩, memL_mem.2 ⟨Int.le_refl 0, (rc_inv h).start⟩, fun hx => ?_, fun a ha hf => ?_⟩
  · obtain ⟨x0, x1⟩ := memL_mem.1 hx
    refine ⟨x0, ?_⟩
    rcases Nat.lt_or_ge x.toNat g.rc.length with h2 | h2
    · rw [rc_len] at h2; omega
    · rw [List.getD_eq_getElem?_getD, List.getElem?_eq_none h2] at x1; cases x1
  · rw [(memL_mem.1 hx).2] at he; cases he
  · have hb := h.arc a ha
    exact memL_mem.2 ⟨by omega, (rc_inv h).shut a ha (by omega) (memL_mem.1 hf).2⟩
theorem cut_none {g : Gr} {l : List Int} (h : g.ccV l = true) : g.vE = 0 ∧ g.wy 0 = 0 := by
  obtain ⟨hv, hn, h0, he, hs⟩ := of_decide_eq_true h
  have hO := Gr.ok hv
  have h1 := hO.n1
  refine ⟨hv, ?_⟩
  have key : ∀ (p : List Int) (q r : Int), q ∈ l → walkP g.rs q p = some r → r ∈ l := by
    intro p
    induction p with
    | nil => intro q r hq e; unfold walkP at e; injection e with e; rw [← e]; exact hq
    | cons i p ih =>
      intro q r hq e
      rw [walkP_cons] at e
      by_cases hc : 0 ≤ i ∧ i < (g.rs.length : Int) ∧ (arc g.rs i).f = q
      · rw [if_pos hc] at e
        exact ih _ r (hs _ (arc_mem hc.1 hc.2.1) (by rw [hc.2.2]; exact hq)) e
      · rw [if_neg hc] at e; cases e
  have hb := wy_nonneg hO (q := 0) (Int.le_refl 0) (by omega)
  by_cases hw : 0 < g.wy 0
  · obtain ⟨p, hp⟩ := (rc_iff hO (by omega)).1 ((some_wy hO).2 hw)
    exact absurd (key p 0 _ h0 hp) he
  · omega
theorem asc_pair {l : List Int} (h : ∀ (i : Nat) x y, l[i]? = some x → l[i + 1]? = some y → x < y) : l.Pairwise (· < ·) := by
  rw [List.pairwise_iff_getElem]
  have key : ∀ d i (h1 : i < l.length) (h2 : i + d + 1 < l.length), l[i] < l[i + d + 1] := by
    intro d
    induction d with
    | zero => intro i h1 h2; exact h i _ _ (List.getElem?_eq_getElem h1) (List.getElem?_eq_getElem h2)
    | succ d ih =>
      intro i h1 h2
      have a1 := ih i h1 (by omega)
      have a2 := h (i + d + 1) _ _ (List.getElem?_eq_getElem (by omega)) (List.getElem?_eq_getElem h2)
      omega
  intro i j hi hj hij
  have := key (j - i - 1) i hi (by omega)
  have e : i + (j - i - 1) + 1 = j := by omega
  simpa [e] using this
theorem nlB_ok {n : Int} {l : List Int} (h1 : ∀ (i : Nat) x, l[i]? = some x → 0 ≤ x ∧ x < n) (h2 : ∀ (i : Nat) x y, l[i]? = some x → l[i + 1]? = some y → x < y) : nlB n l = true :=
  decide_eq_true ⟨fun x hx => by obtain ⟨i, hi⟩ := List.mem_iff_getElem?.1 hx; exact h1 i x hi, asc_pair h2⟩
theorem nlB_no {n : Int} {l : List Int} {i : Nat} {x : Int} (hx : l[i]? = some x) (h : ¬ (0 ≤ x ∧ x < n)) : nlB n l = false := decide_eq_false fun e => h (e.1 x (List.mem_of_getElem? hx))
theorem nlB_no2 {n : Int} {l : List Int} {i : Nat} {x y : Int} (hx : l[i]? = some x) (hy : l[i + 1]? = some y) (h : y ≤ x) : nlB n l = false := decide_eq_false fun e => by
  have h1 := List.pairwise_iff_getElem.1 e.2 i (i + 1) (List.getElem?_eq_some_iff.1 hx).1 (List.getElem?_eq_some_iff.1 hy).1 (by omega)
  have e1 := (List.getElem?_eq_some_iff.1 hx).2
  have e2 := (List.getElem?_eq_some_iff.1 hy).2
  rw [e1, e2] at h1
  omega
/-- The marks of a list of nodes. -/
def marks (N : Nat) (l : List Int) : List Bool := l.foldl (fun L x => L.set x.toNat true) (List.replicate N false)
theorem marks_fold : ∀ (l : List Int) (L : List Bool), (l.foldl (fun (L : List Bool) (x : Int) => L.set x.toNat true) L).length = L.length
  | [], L => rfl
  | x :: l, L => by rw [List.foldl_cons, marks_fold l, List.length_set]
theorem marks_len (N : Nat) (l : List Int) : (marks N l).length = N := by unfold marks; rw [marks_fold]; simp
theorem marks_get' : ∀ (l : List Int) (L : List Bool) (j : Nat), j < L.length → (∀ x ∈ l, 0 ≤ x) → ((l.foldl (fun (L : List Bool) (x : Int) => L.set x.toNat true) L).getD j false = true ↔ L.getD j false = true ∨ (j : Int) ∈ l)
  | [], L, j, _, _ => by simp
  | x :: l, L, j, hj, h0 => by
    rw [List.foldl_cons, marks_get' l _ j (by rw [List.length_set]; exact hj) (fun y hy => h0 y (List.mem_cons_of_mem _ hy)), getB_set]
    have hx := h0 x (by simp)
    constructor
    · rintro (h1 | h1)
      · split at h1
        · rename_i h2; exact .inr (by rw [show (j : Int) = x by omega]; simp)
        · exact .inl h1
      · exact .inr (List.mem_cons_of_mem _ h1)
    · rintro (h1 | h1)
      · left; split
        · rfl
        · exact h1
      · rcases List.mem_cons.1 h1 with h2 | h2
        · left; rw [if_pos ⟨by omega, by omega⟩]
        · exact .inr h2
theorem marks_get {N : Nat} {l : List Int} {j : Nat} (hj : j < N) (h0 : ∀ x ∈ l, 0 ≤ x) : (marks N l).getD j false = decide ((j : Int) ∈ l) := by
  have h := marks_get' l (List.replicate N false) j (by simpa using hj) h0
  have e : (List.replicate N false).getD j false = false := by
    rw [List.getD_eq_getElem?_getD, List.getElem?_replicate]; split <;> rfl
  rw [e] at h
  unfold marks
  by_cases hm : (j : Int) ∈ l
  · rw [decide_eq_true hm]; exact h.2 (.inr hm)
  · rw [decide_eq_false hm]
    cases hb : (l.foldl (fun (L : List Bool) (x : Int) => L.set x.toNat true) (List.replicate N false)).getD j false with
    | false => rfl
    | true =>
      rcases h.1 hb with h1 | h1
      · cases h1
      · exact absurd h1 hm
theorem marks_take {N k : Nat} {l : List Int} {x : Int} (hx : l[k]? = some x) : (marks N (l.take k)).set x.toNat true = marks N (l.take (k + 1)) := by
  unfold marks
  rw [List.take_add_one, hx, List.foldl_append]; rfl
end Go.Proofs.Ytdoobdfanalnbaa
