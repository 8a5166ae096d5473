/- Several texts in one. -/
import Derived.WalkKit
/- Plain mathematics of graphs whose arcs lead upwards: errors, ways, how many ways lead on. Nothing here speaks of the program. -/
namespace Go.Proofs.Ytgdfjblfpeedjaa
set_option linter.unusedVariables false
set_option linter.unusedSimpArgs false

structure Ar where
  f : Int
  t : Int
  c : Int
deriving DecidableEq
structure Gr where
  n : Int
  rs : List Ar
/-- The error of an arc. -/
def arcE (n : Int) (a : Ar) : Int := if ¬ (0 ≤ a.f ∧ a.f < n) ∨ ¬ (0 ≤ a.t ∧ a.t < n) ∨ a.c < 0 ∨ 1000000 < a.c then 6 else if a.t ≤ a.f then 18 else 0
def arcsE (n : Int) : List Ar → Int
  | [] => 0
  | a :: r => if arcE n a = 0 then arcsE n r else arcE n a
def Gr.vE (g : Gr) : Int := if g.n < 1 then 7 else if 2000 < g.n ∨ 6000 < g.rs.length then 3 else arcsE g.n g.rs
theorem arcsE_all {n : Int} : ∀ {rs : List Ar}, (∀ (i : Nat) a, rs[i]? = some a → arcE n a = 0) → arcsE n rs = 0
  | [], _ => rfl
  | a :: r, h => by
    unfold arcsE
    rw [if_pos (h 0 a rfl)]
    exact arcsE_all (fun i b hb => h (i + 1) b (by simpa using hb))
theorem arcsE_at {n : Int} : ∀ {rs : List Ar} {k : Nat} {a : Ar}, rs[k]? = some a → (∀ (i : Nat) b, i < k → rs[i]? = some b → arcE n b = 0) → ¬ arcE n a = 0 → arcsE n rs = arcE n a
  | [], k, a, h, _, _ => by simp at h
  | x :: r, 0, a, h, _, hn => by
    obtain rfl : x = a := by simpa using h
    unfold arcsE; rw [if_neg hn]
  | x :: r, k + 1, a, h, hb, hn => by
    unfold arcsE
    rw [if_pos (hb 0 x (by omega) rfl)]
    exact arcsE_at (by simpa using h) (fun i b hi hib => hb (i + 1) b (by omega) (by simpa using hib)) hn
theorem arcsE_zero {n : Int} : ∀ {rs : List Ar}, arcsE n rs = 0 → ∀ a ∈ rs, arcE n a = 0
  | [], _, a, h => by cases h
  | x :: r, h, a, ha => by
    unfold arcsE at h
    by_cases e : arcE n x = 0
    · rw [if_pos e] at h
      rcases List.mem_cons.1 ha with rfl | ha
      · exact e
      · exact arcsE_zero h a ha
    · rw [if_neg e] at h; exact absurd h e
theorem arcsE_cases {n : Int} : ∀ (rs : List Ar), arcsE n rs = 0 ∨ arcsE n rs = 6 ∨ arcsE n rs = 18
  | [] => .inl rfl
  | x :: r => by
    unfold arcsE
    by_cases e : arcE n x = 0
    · rw [if_pos e]; exact arcsE_cases r
    · rw [if_neg e]
      unfold arcE at e ⊢
      split
      · simp
      · split
        · simp
        · simp
/-- A graph without an error. -/
structure Gr.Ok (g : Gr) : Prop where
  n1 : 1 ≤ g.n
  n2 : g.n ≤ 2000
  len : g.rs.length ≤ 6000
  arc : ∀ a ∈ g.rs, 0 ≤ a.f ∧ a.f < a.t ∧ a.t < g.n ∧ 0 ≤ a.c ∧ a.c ≤ 1000000
theorem arcE_ok {n : Int} {a : Ar} : arcE n a = 0 ↔ 0 ≤ a.f ∧ a.f < a.t ∧ a.t < n ∧ 0 ≤ a.c ∧ a.c ≤ 1000000 := by
  unfold arcE
  constructor
  · intro h
    split at h
    · simp at h
    · split at h
      · simp at h
      · omega
  · intro h
    rw [if_neg (by omega), if_neg (by omega)]
theorem Gr.ok {g : Gr} (h : g.vE = 0) : g.Ok := by
  unfold Gr.vE at h
  by_cases h1 : g.n < 1
  · rw [if_pos h1] at h; simp at h
  rw [if_neg h1] at h
  by_cases h2 : 2000 < g.n ∨ 6000 < g.rs.length
  · rw [if_pos h2] at h; simp at h
  rw [if_neg h2] at h
  exact ⟨by omega, by omega, by omega, fun a ha => arcE_ok.1 (arcsE_zero h a ha)⟩
theorem Gr.Ok.vE {g : Gr} (h : g.Ok) : g.vE = 0 := by
  have := h.n1; have := h.n2; have := h.len
  unfold Gr.vE
  rw [if_neg (by omega), if_neg (by omega)]
  exact arcsE_all fun i a ha => arcE_ok.2 (h.arc a (List.mem_of_getElem? ha))

/-! ### Ways -/
/-- The arc with an index. -/
def arc (rs : List Ar) (i : Int) : Ar := rs.getD i.toNat ⟨0, 0, 0⟩
/-- Where a list of indices leads from a node. -/
def walkP (rs : List Ar) : Int → List Int → Option Int
  | q, [] => some q
  | q, i :: r => if 0 ≤ i ∧ i < (rs.length : Int) ∧ (arc rs i).f = q then walkP rs (arc rs i).t r else none
def sumP (rs : List Ar) (p : List Int) : Int := (p.map fun i => (arc rs i).c).sum
def Gr.chk (g : Gr) (p : List Int) : Bool := decide (g.vE = 0 ∧ walkP g.rs 0 p = some (g.n - 1))
theorem walkP_cons (rs : List Ar) (q i : Int) (r : List Int) : walkP rs q (i :: r) = if 0 ≤ i ∧ i < (rs.length : Int) ∧ (arc rs i).f = q then walkP rs (arc rs i).t r else none := rfl
theorem walkP_app (rs : List Ar) : ∀ (u v : List Int) (q : Int), walkP rs q (u ++ v) = (walkP rs q u).bind fun r => walkP rs r v
  | [], v, q => rfl
  | i :: u, v, q => by
    rw [List.cons_append, walkP_cons, walkP_cons]
    by_cases h : 0 ≤ i ∧ i < (rs.length : Int) ∧ (arc rs i).f = q
    · rw [if_pos h, if_pos h]; exact walkP_app rs u v _
    · rw [if_neg h, if_neg h]; rfl
theorem sumP_app (rs : List Ar) (u v : List Int) : sumP rs (u ++ v) = sumP rs u + sumP rs v := by simp [sumP]
theorem walkP_step {rs : List Ar} {p : List Int} {k : Nat} {i q r : Int} (hi : p[k]? = some i) (h : walkP rs q (p.take k) = some r) :
    walkP rs q (p.take (k + 1)) = if 0 ≤ i ∧ i < (rs.length : Int) ∧ (arc rs i).f = r then some (arc rs i).t else none := by
  rw [List.take_add_one, hi, walkP_app, h]
  show walkP rs r [i] = _
  unfold walkP
  by_cases h : 0 ≤ i ∧ i < (rs.length : Int) ∧ (arc rs i).f = r
  · rw [if_pos h, if_pos h]; rfl
  · rw [if_neg h, if_neg h]
theorem walkP_none {rs : List Ar} {p : List Int} {k : Nat} {q : Int} (h : walkP rs q (p.take k) = none) : walkP rs q p = none := by
  rw [← List.take_append_drop k p, walkP_app, h]; rfl
theorem walkP_part {rs : List Ar} {p : List Int} {k : Nat} {i q r : Int} (hi : p[k]? = some i) (h : walkP rs q p = some r) :
    ∃ s, walkP rs q (p.take k) = some s ∧ 0 ≤ i ∧ i < (rs.length : Int) ∧ (arc rs i).f = s := by
  cases e : walkP rs q (p.take k) with
  | none => rw [walkP_none e] at h; cases h
  | some s =>
    refine ⟨s, rfl, ?_⟩
    have h1 := walkP_step hi e
    by_cases hc : 0 ≤ i ∧ i < (rs.length : Int) ∧ (arc rs i).f = s
    · exact hc
    · rw [if_neg hc] at h1
      rw [walkP_none h1] at h; cases h
theorem sumP_step {rs : List Ar} {p : List Int} {k : Nat} {i : Int} (hi : p[k]? = some i) : sumP rs (p.take (k + 1)) = sumP rs (p.take k) + (arc rs i).c := by
  rw [List.take_add_one, hi, sumP_app]; simp [sumP]
theorem arc_mem {rs : List Ar} {i : Int} (h0 : 0 ≤ i) (h1 : i < (rs.length : Int)) : arc rs i ∈ rs := by
  unfold arc
  have : i.toNat < rs.length := by omega
  rw [List.getD_eq_getElem?_getD, List.getElem?_eq_getElem this]
  exact List.getElem_mem this
theorem arc_get {rs : List Ar} {i : Nat} (h1 : i < rs.length) : rs[i]? = some (arc rs i) := by
  unfold arc
  rw [List.getD_eq_getElem?_getD, Int.toNat_natCast, List.getElem?_eq_getElem h1]
  rfl
theorem walkP_range {g : Gr} (h : g.Ok) : ∀ {p : List Int} {q r : Int}, 0 ≤ q → q < g.n → walkP g.rs q p = some r → q + p.length ≤ r ∧ r < g.n
  | [], q, r, h0, h1, e => by
    unfold walkP at e
    injection e with e
    subst e
    simp; omega
  | i :: p, q, r, h0, h1, e => by
    unfold walkP at e
    by_cases hc : 0 ≤ i ∧ i < (g.rs.length : Int) ∧ (arc g.rs i).f = q
    · rw [if_pos hc] at e
      have ha := h.arc _ (arc_mem hc.1 hc.2.1)
      have := walkP_range h (by omega) (by omega) e
      simp; omega
    · rw [if_neg hc] at e; cases e
theorem sumP_le {g : Gr} (h : g.Ok) : ∀ {p : List Int} {q r : Int}, walkP g.rs q p = some r → 0 ≤ sumP g.rs p ∧ sumP g.rs p ≤ p.length * 1000000
  | [], q, r, e => by simp [sumP]
  | i :: p, q, r, e => by
    unfold walkP at e
    by_cases hc : 0 ≤ i ∧ i < (g.rs.length : Int) ∧ (arc g.rs i).f = q
    · rw [if_pos hc] at e
      have ha := h.arc _ (arc_mem hc.1 hc.2.1)
      have h2 := sumP_le h e
      have h3 : sumP g.rs (i :: p) = (arc g.rs i).c + sumP g.rs p := by simp [sumP]
      rw [h3, List.length_cons]
      omega
    · rw [if_neg hc] at e; cases e

/-! ### The arcs that lead from a node -/
def outI (rs : List Ar) (q : Int) : List Int := ((List.range rs.length).filter fun i : Nat => decide ((arc rs (i : Int)).f = q)).map fun i : Nat => (i : Int)
theorem arc_left {rs : List Ar} {a : Ar} {i : Nat} (h : i < rs.length) : arc (rs ++ [a]) i = arc rs i := by
  unfold arc
  rw [List.getD_eq_getElem?_getD, List.getD_eq_getElem?_getD, Int.toNat_natCast, List.getElem?_append_left h]
theorem arc_last (rs : List Ar) (a : Ar) : arc (rs ++ [a]) (rs.length : Nat) = a := by
  unfold arc
  rw [List.getD_eq_getElem?_getD, Int.toNat_natCast, List.getElem?_concat_length]; rfl
theorem outI_snoc (rs : List Ar) (a : Ar) (q : Int) : outI (rs ++ [a]) q = outI rs q ++ (if a.f = q then [(rs.length : Int)] else []) := by
  unfold outI
  rw [List.length_append, List.length_singleton, List.range_succ, List.filter_append, List.map_append]
  congr 1
  · congr 1
    apply List.filter_congr
    intro i hi
    rw [arc_left (List.mem_range.1 hi)]
  · by_cases e : a.f = q
    · rw [if_pos e, List.filter_cons, arc_last, if_pos (by simp [e])]; simp
    · rw [if_neg e, List.filter_cons, arc_last, if_neg (by simp [e])]; simp
theorem outI_nil (q : Int) : outI [] q = [] := rfl
theorem outI_mem {rs : List Ar} {q i : Int} : i ∈ outI rs q ↔ 0 ≤ i ∧ i < (rs.length : Int) ∧ (arc rs i).f = q := by
  unfold outI
  rw [List.mem_map]
  constructor
  · rintro ⟨k, hk, rfl⟩
    rw [List.mem_filter, List.mem_range] at hk
    exact ⟨by omega, by omega, by simpa using hk.2⟩
  · rintro ⟨h0, h1, h2⟩
    refine ⟨i.toNat, ?_, by omega⟩
    rw [List.mem_filter, List.mem_range]
    have e : ((i.toNat : Nat) : Int) = i := by omega
    exact ⟨by omega, by rw [e]; simpa using h2⟩
theorem outI_take {rs : List Ar} {k : Nat} {a : Ar} (h : rs[k]? = some a) (q : Int) : outI (rs.take (k + 1)) q = outI (rs.take k) q ++ (if a.f = q then [(k : Int)] else []) := by
  have hk := (List.getElem?_eq_some_iff.1 h).1
  rw [List.take_add_one, h]
  show outI (rs.take k ++ [a]) q = _
  rw [outI_snoc, List.length_take, Nat.min_eq_left (by omega)]
theorem outI_len (rs : List Ar) (q : Int) : (outI rs q).length ≤ rs.length := by
  unfold outI
  rw [List.length_map]
  exact Nat.le_trans (List.length_filter_le _ _) (by simp)
theorem outI_pairwise (rs : List Ar) (q : Int) : (outI rs q).Pairwise (· < ·) := by
  unfold outI
  rw [List.pairwise_map]
  refine List.Pairwise.imp ?_ (List.Pairwise.filter _ List.pairwise_lt_range)
  intro a b h; omega
/-- A fold over the arcs from a node is a fold over their indices. -/
theorem fold_out {β : Type} (h : β → Ar → β) (q : Int) : ∀ (rs : List Ar) (z : β), rs.foldl (fun s a => if a.f = q then h s a else s) z = (outI rs q).foldl (fun s i => h s (arc rs i)) z := by
  intro rs z
  have key : ∀ (k : Nat), k ≤ rs.length → (rs.take k).foldl (fun s a => if a.f = q then h s a else s) z = (outI (rs.take k) q).foldl (fun s i => h s (arc rs i)) z := by
    intro k
    induction k with
    | zero => intro _; simp [outI_nil]
    | succ k ih =>
      intro hk
      obtain ⟨a, ha⟩ : ∃ a, rs[k]? = some a := ⟨_, List.getElem?_eq_getElem (by omega)⟩
      rw [outI_take ha, List.foldl_append, ← ih (by omega), List.take_add_one, ha]
      show (rs.take k ++ [a]).foldl _ z = _
      rw [List.foldl_append]
      by_cases e : a.f = q
      · rw [if_pos e]
        have : arc rs (k : Int) = a := by
          have h2 := arc_get (rs := rs) (i := k) (by omega)
          rw [ha] at h2; injection h2 with h2; exact h2.symm
        simp [e, this]
      · rw [if_neg e]; simp [e]
  have := key rs.length (Nat.le_refl _)
  rwa [List.take_length] at this
/-! ### How many ways lead on -/
abbrev capM : Int := 4611686018427387905
def Gr.wyF (g : Gr) : Nat → Int → Int
  | 0, _ => 0
  | d + 1, q => if q = g.n - 1 then 1 else g.rs.foldl (fun s a => if a.f = q then min (s + g.wyF d a.t) capM else s) 0
def Gr.wy (g : Gr) (q : Int) : Int := g.wyF g.n.toNat q
theorem foldl_same {α β : Type} {f g : β → α → β} : ∀ {l : List α} {z : β}, (∀ a ∈ l, ∀ s, f s a = g s a) → l.foldl f z = l.foldl g z
  | [], z, _ => rfl
  | a :: l, z, h => by
    rw [List.foldl_cons, List.foldl_cons, h a (by simp)]
    exact foldl_same fun b hb => h b (List.mem_cons_of_mem _ hb)
theorem wyF_same {g : Gr} (h : g.Ok) : ∀ (d d' : Nat) (q : Int), 0 ≤ q → q < g.n → g.n - q ≤ d → g.n - q ≤ d' → g.wyF d q = g.wyF d' q
  | 0, d', q, h0, h1, h2, h3 => by omega
  | d + 1, 0, q, h0, h1, h2, h3 => by omega
  | d + 1, d' + 1, q, h0, h1, h2, h3 => by
    unfold Gr.wyF
    by_cases e : q = g.n - 1
    · rw [if_pos e, if_pos e]
    · rw [if_neg e, if_neg e]
      refine foldl_same fun a ha s => ?_
      by_cases ef : a.f = q
      · have := h.arc a ha
        rw [if_pos ef, if_pos ef, wyF_same h d d' a.t (by omega) (by omega) (by omega) (by omega)]
      · rw [if_neg ef, if_neg ef]
theorem wy_end {g : Gr} (h : g.Ok) : g.wy (g.n - 1) = 1 := by
  unfold Gr.wy
  have := h.n1
  obtain ⟨d, hd⟩ : ∃ d, g.n.toNat = d + 1 := ⟨g.n.toNat - 1, by omega⟩
  rw [hd]; unfold Gr.wyF; rw [if_pos rfl]
theorem wy_eq {g : Gr} (h : g.Ok) {q : Int} (h0 : 0 ≤ q) (h1 : q < g.n - 1) : g.wy q = g.rs.foldl (fun s a => if a.f = q then min (s + g.wy a.t) capM else s) 0 := by
  unfold Gr.wy
  obtain ⟨d, hd⟩ : ∃ d, g.n.toNat = d + 1 := ⟨g.n.toNat - 1, by omega⟩
  rw [hd]
  rw [Gr.wyF, if_neg (by omega)]
  refine foldl_same fun a ha s => ?_
  by_cases ef : a.f = q
  · have := h.arc a ha
    rw [if_pos ef, if_pos ef, wyF_same h d (d + 1) a.t (by omega) (by omega) (by omega) (by omega)]
  · rw [if_neg ef, if_neg ef]
theorem wy_out {g : Gr} (h : g.Ok) {q : Int} (h0 : 0 ≤ q) (h1 : q < g.n - 1) : g.wy q = (outI g.rs q).foldl (fun s i => min (s + g.wy (arc g.rs i).t) capM) 0 := by
  rw [wy_eq h h0 h1]; exact fold_out (fun s a => min (s + g.wy a.t) capM) q g.rs 0
theorem out_end {g : Gr} (h : g.Ok) : outI g.rs (g.n - 1) = [] := by
  refine List.eq_nil_iff_forall_not_mem.2 fun i hi => ?_
  obtain ⟨h0, h1, h2⟩ := outI_mem.1 hi
  have := h.arc _ (arc_mem h0 h1)
  omega
/-! ### The ways themselves -/
def Gr.pvF (g : Gr) : Nat → Int → List (List Int)
  | 0, _ => []
  | d + 1, q => if q = g.n - 1 then [[]] else (outI g.rs q).flatMap fun i => (g.pvF d (arc g.rs i).t).map (i :: ·)
def Gr.pv (g : Gr) (q : Int) : List (List Int) := g.pvF g.n.toNat q
theorem flatMap_same {α β : Type} {f g : α → List β} : ∀ {l : List α}, (∀ a ∈ l, f a = g a) → l.flatMap f = l.flatMap g
  | [], _ => rfl
  | a :: l, h => by
    rw [List.flatMap_cons, List.flatMap_cons, h a (by simp), flatMap_same fun b hb => h b (List.mem_cons_of_mem _ hb)]
theorem pvF_same {g : Gr} (h : g.Ok) : ∀ (d d' : Nat) (q : Int), 0 ≤ q → q < g.n → g.n - q ≤ d → g.n - q ≤ d' → g.pvF d q = g.pvF d' q
  | 0, d', q, h0, h1, h2, h3 => by omega
  | d + 1, 0, q, h0, h1, h2, h3 => by omega
  | d + 1, d' + 1, q, h0, h1, h2, h3 => by
    unfold Gr.pvF
    by_cases e : q = g.n - 1
    · rw [if_pos e, if_pos e]
    · rw [if_neg e, if_neg e]
      refine flatMap_same fun i hi => ?_
      obtain ⟨i0, i1, i2⟩ := outI_mem.1 hi
      have := h.arc _ (arc_mem i0 i1)
      rw [pvF_same h d d' (arc g.rs i).t (by omega) (by omega) (by omega) (by omega)]
theorem pv_end {g : Gr} (h : g.Ok) : g.pv (g.n - 1) = [[]] := by
  unfold Gr.pv
  have := h.n1
  obtain ⟨d, hd⟩ : ∃ d, g.n.toNat = d + 1 := ⟨g.n.toNat - 1, by omega⟩
  rw [hd]; unfold Gr.pvF; rw [if_pos rfl]
theorem pv_eq {g : Gr} (h : g.Ok) {q : Int} (h0 : 0 ≤ q) (h1 : q < g.n - 1) : g.pv q = (outI g.rs q).flatMap fun i => (g.pv (arc g.rs i).t).map (i :: ·) := by
  unfold Gr.pv
  obtain ⟨d, hd⟩ : ∃ d, g.n.toNat = d + 1 := ⟨g.n.toNat - 1, by omega⟩
  rw [hd]
  rw [Gr.pvF, if_neg (by omega)]
  refine flatMap_same fun i hi => ?_
  obtain ⟨i0, i1, i2⟩ := outI_mem.1 hi
  have := h.arc _ (arc_mem i0 i1)
  rw [pvF_same h d (d + 1) (arc g.rs i).t (by omega) (by omega) (by omega) (by omega)]
theorem pv_iff {g : Gr} (h : g.Ok) : ∀ (p : List Int) (q : Int), 0 ≤ q → q < g.n → (p ∈ g.pv q ↔ walkP g.rs q p = some (g.n - 1))
  | [], q, h0, h1 => by
    by_cases e : q = g.n - 1
    · rw [e, pv_end h]; simp [walkP]
    · rw [pv_eq h h0 (by omega)]; simp [walkP, e]
  | i :: p, q, h0, h1 => by
    unfold walkP
    by_cases e : q = g.n - 1
    · rw [e, pv_end h]
      have : ¬ (0 ≤ i ∧ i < (g.rs.length : Int) ∧ (arc g.rs i).f = g.n - 1) := fun hc => by
        have := h.arc _ (arc_mem hc.1 hc.2.1); omega
      rw [if_neg this]; simp
    · rw [pv_eq h h0 (by omega), List.mem_flatMap]
      by_cases hc : 0 ≤ i ∧ i < (g.rs.length : Int) ∧ (arc g.rs i).f = q
      · rw [if_pos hc]
        have ha := h.arc _ (arc_mem hc.1 hc.2.1)
        rw [← pv_iff h p (arc g.rs i).t (by omega) (by omega)]
        constructor
        · rintro ⟨j, hj, hm⟩
          obtain ⟨r, hr, er⟩ := List.mem_map.1 hm
          injection er with e1 e2
          subst e1; subst e2; exact hr
        · intro hp
          exact ⟨i, outI_mem.2 hc, List.mem_map.2 ⟨p, hp, rfl⟩⟩
      · rw [if_neg hc]
        constructor
        · rintro ⟨j, hj, hm⟩
          obtain ⟨r, hr, er⟩ := List.mem_map.1 hm
          injection er with e1 e2
          subst e1
          exact absurd (outI_mem.1 hj) hc
        · intro h; cases h
theorem fold_min {α : Type} (f : α → Nat) (M : Nat) : ∀ (l : List α) (z : Nat), l.foldl (fun (s : Int) a => min (s + min (f a : Int) M) M) (min (z : Int) M) = min (((z + (l.map f).sum : Nat) : Int)) M
  | [], z => by simp
  | a :: l, z => by
    rw [List.foldl_cons, List.map_cons, List.sum_cons]
    have : min (min (z : Int) M + min (f a : Int) M) (M : Int) = min ((z + f a : Nat) : Int) M := by omega
    rw [this, fold_min f M l (z + f a)]
    congr 2; omega
theorem wy_pv {g : Gr} (h : g.Ok) : ∀ (d : Nat) (q : Int), 0 ≤ q → q < g.n → g.n - q ≤ d → g.wy q = min ((g.pv q).length : Int) capM
  | 0, q, h0, h1, h2 => by omega
  | d + 1, q, h0, h1, h2 => by
    by_cases e : q = g.n - 1
    · rw [e, wy_end h, pv_end h]; rfl
    · rw [wy_out h h0 (by omega), pv_eq h h0 (by omega), List.length_flatMap]
      have h3 := fold_min (fun i => ((g.pv (arc g.rs i).t).map (i :: ·)).length) 4611686018427387905 (outI g.rs q) 0
      rw [show min ((0 : Nat) : Int) ((4611686018427387905 : Nat) : Int) = 0 by omega] at h3
      rw [Nat.zero_add] at h3
      refine Eq.trans (foldl_same fun i hi s => ?_) h3
      obtain ⟨i0, i1, i2⟩ := outI_mem.1 hi
      have ha := h.arc _ (arc_mem i0 i1)
      rw [wy_pv h d (arc g.rs i).t (by omega) (by omega) (by omega), List.length_map]
      rfl
theorem wy_len {g : Gr} (h : g.Ok) {q : Int} (h0 : 0 ≤ q) (h1 : q < g.n) : g.wy q = min ((g.pv q).length : Int) capM := wy_pv h g.n.toNat q h0 h1 (by omega)
theorem wy_nonneg {g : Gr} (h : g.Ok) {q : Int} (h0 : 0 ≤ q) (h1 : q < g.n) : 0 ≤ g.wy q ∧ g.wy q ≤ capM := by
  rw [wy_len h h0 h1]
  show 0 ≤ min ((g.pv q).length : Int) 4611686018427387905 ∧ min ((g.pv q).length : Int) 4611686018427387905 ≤ 4611686018427387905
  omega
/-- What Count answers. -/
def Gr.cnt (g : Gr) : Int × Int := if ¬ g.vE = 0 then (0, g.vE) else if 4611686018427387904 < g.wy 0 then (0, 3) else (g.wy 0, 0)
/-- What Paths answers. -/
def Gr.pth (g : Gr) : List (List Int) × Int := if ¬ g.vE = 0 then ([], g.vE) else if 2000 < g.wy 0 then ([], 3) else (g.pv 0, 0)
/-- What Cost answers. -/
def Gr.cst (g : Gr) (p : List Int) : Int × Int := if ¬ g.vE = 0 then (0, g.vE) else if walkP g.rs 0 p = some (g.n - 1) then (sumP g.rs p, 0) else (0, 1)
end Go.Proofs.Ytgdfjblfpeedjaa
/- Plain mathematics: how many ways lead on, reckoned from the last node on. Nothing here speaks of the program. -/
namespace Go.Proofs.Ytgdfjblfpeedjaa
set_option linter.unusedVariables false
set_option linter.unusedSimpArgs false

def inW (g : Gr) (q : Nat) (L : List Int) (i : Int) : List Int := L.set q (min (L.getD q 0 + L.getD (arc g.rs i).t.toNat 0) capM)
def stepW (g : Gr) (L : List Int) (q : Nat) : List Int := (outI g.rs q).foldl (inW g q) L
def WOk (N : Nat) (L : List Int) : Prop := L.length = N ∧ ∀ j : Nat, 0 ≤ L.getD j 0 ∧ L.getD j 0 ≤ capM
theorem getD_set' {L : List Int} {q j : Nat} {x : Int} : (L.set q x).getD j 0 = if j = q ∧ q < L.length then x else L.getD j 0 := by
  rw [List.getD_eq_getElem?_getD, List.getD_eq_getElem?_getD, List.getElem?_set]
  by_cases e : q = j
  · subst e
    by_cases h : q < L.length
    · simp [h]
    · simp [h]
  · rw [if_neg e, if_neg (by omega)]
theorem capM_pos : (0 : Int) ≤ capM := by decide
theorem WOk.inW {g : Gr} {N q : Nat} {L : List Int} (h : WOk N L) (i : Int) : WOk N (inW g q L i) := by
  refine ⟨by unfold Go.Proofs.Ytgdfjblfpeedjaa.inW; rw [List.length_set]; exact h.1, fun j => ?_⟩
  unfold Go.Proofs.Ytgdfjblfpeedjaa.inW
  rw [getD_set']
  split
  · have h1 := h.2 q
    have h2 := h.2 (arc g.rs i).t.toNat
    exact ⟨Int.le_min.2 ⟨by omega, capM_pos⟩, Int.min_le_right _ _⟩
  · exact h.2 j
theorem WOk.fold {g : Gr} {N q : Nat} : ∀ (is : List Int) {L : List Int}, WOk N L → WOk N (is.foldl (Go.Proofs.Ytgdfjblfpeedjaa.inW g q) L)
  | [], L, h => h
  | i :: is, L, h => WOk.fold is (h.inW i)
theorem WOk.step {g : Gr} {N : Nat} {L : List Int} (h : WOk N L) (q : Nat) : WOk N (stepW g L q) := WOk.fold _ h
theorem WOk.steps {g : Gr} {N : Nat} : ∀ (qs : List Nat) {L : List Int}, WOk N L → WOk N (qs.foldl (stepW g) L)
  | [], L, h => h
  | q :: qs, L, h => WOk.steps qs (h.step q)
def initW (N : Nat) : List Int := (List.replicate N 0).set (N - 1) 1
theorem getD_rep (N j : Nat) : (List.replicate N (0 : Int)).getD j 0 = 0 := by
  rw [List.getD_eq_getElem?_getD, List.getElem?_replicate]
  split <;> rfl
theorem WOk.init (N : Nat) : WOk N (initW N) := by
  refine ⟨by simp [initW], fun j => ?_⟩
  unfold initW
  rw [getD_set', getD_rep]
  split <;> decide
theorem inW_fold {g : Gr} {q : Nat} : ∀ (is : List Int) (L : List Int), q < L.length → (∀ i ∈ is, ¬ (arc g.rs i).t.toNat = q) →
    is.foldl (inW g q) L = L.set q (is.foldl (fun s i => min (s + L.getD (arc g.rs i).t.toNat 0) capM) (L.getD q 0))
  | [], L, h, _ => by
    apply List.ext_getElem?
    intro j
    rw [List.foldl_nil, List.foldl_nil, List.getElem?_set]
    by_cases e : q = j
    · subst e
      rw [if_pos rfl, if_pos h, List.getD_eq_getElem?_getD, List.getElem?_eq_getElem h]; rfl
    · rw [if_neg e]
  | i :: is, L, h, ht => by
    rw [List.foldl_cons, List.foldl_cons, inW_fold is (inW g q L i) (by unfold inW; rw [List.length_set]; exact h) (fun i hi => ht i (List.mem_cons_of_mem _ hi))]
    have e1 : (inW g q L i).getD q 0 = min (L.getD q 0 + L.getD (arc g.rs i).t.toNat 0) capM := by unfold inW; rw [getD_set', if_pos ⟨rfl, h⟩]
    rw [e1]
    have e2 : is.foldl (fun s i_1 => min (s + (inW g q L i).getD (arc g.rs i_1).t.toNat 0) capM) (min (L.getD q 0 + L.getD (arc g.rs i).t.toNat 0) capM) = is.foldl (fun s i => min (s + L.getD (arc g.rs i).t.toNat 0) capM) (min (L.getD q 0 + L.getD (arc g.rs i).t.toNat 0) capM) :=
      foldl_same fun a ha s => by
        have : (inW g q L i).getD (arc g.rs a).t.toNat 0 = L.getD (arc g.rs a).t.toNat 0 := by
          unfold inW; rw [getD_set', if_neg (fun hh => ht a (List.mem_cons_of_mem _ ha) hh.1)]
        rw [this]
    rw [e2]
    unfold inW
    rw [List.set_set]
/-- The numbers of ways. -/
def Gr.waysL (g : Gr) : List Int := (List.range g.n.toNat).map fun q : Nat => g.wy (q : Int)
/-- .. of the last k nodes. -/
def Gr.waysK (g : Gr) (k : Nat) : List Int := (List.range g.n.toNat).map fun q : Nat => if g.n.toNat ≤ q + k ∨ q + 1 = g.n.toNat then g.wy (q : Int) else 0
theorem waysK_get {g : Gr} {k j : Nat} (h : j < g.n.toNat) : (g.waysK k)[j]? = some (if g.n.toNat ≤ j + k ∨ j + 1 = g.n.toNat then g.wy (j : Int) else 0) := by
  unfold Gr.waysK; rw [List.getElem?_map, List.getElem?_range h]; rfl
theorem waysK_len (g : Gr) (k : Nat) : (g.waysK k).length = g.n.toNat := by simp [Gr.waysK]
theorem waysK_getD {g : Gr} {k j : Nat} (h : j < g.n.toNat) : (g.waysK k).getD j 0 = if g.n.toNat ≤ j + k ∨ j + 1 = g.n.toNat then g.wy (j : Int) else 0 := by
  rw [List.getD_eq_getElem?_getD, waysK_get h]; rfl
theorem waysK_zero {g : Gr} (h : g.Ok) : g.waysK 0 = initW g.n.toNat := by
  have := h.n1
  apply List.ext_getElem?
  intro j
  by_cases hj : j < g.n.toNat
  · rw [waysK_get hj]
    unfold initW
    rw [List.getElem?_set]
    by_cases e : g.n.toNat - 1 = j
    · rw [if_pos (show g.n.toNat ≤ j + 0 ∨ j + 1 = g.n.toNat from .inr (by omega)), if_pos e, if_pos (by simp; omega)]
      have e2 : (j : Int) = g.n - 1 := by omega
      rw [e2, wy_end h]
    · rw [if_neg (show ¬ (g.n.toNat ≤ j + 0 ∨ j + 1 = g.n.toNat) by omega), if_neg e, List.getElem?_replicate, if_pos hj]
  · rw [List.getElem?_eq_none (by rw [waysK_len]; omega), List.getElem?_eq_none (by simp [initW]; omega)]
theorem waysK_step {g : Gr} (h : g.Ok) {k : Nat} (hk : k < g.n.toNat) : stepW g (g.waysK k) (g.n.toNat - 1 - k) = g.waysK (k + 1) := by
  have := h.n1
  obtain ⟨q, hq⟩ : ∃ q, q = g.n.toNat - 1 - k := ⟨_, rfl⟩
  rw [← hq]
  have hqn : q < g.n.toNat := by omega
  unfold stepW
  rw [inW_fold _ _ (by rw [waysK_len]; exact hqn) (fun i hi => by
    obtain ⟨i0, i1, i2⟩ := outI_mem.1 hi
    have := h.arc _ (arc_mem i0 i1)
    omega)]
  apply List.ext_getElem?
  intro j
  rw [List.getElem?_set, waysK_len]
  by_cases hj : j < g.n.toNat
  · rw [waysK_get hj, waysK_get hj]
    by_cases e : q = j
    · subst e
      rw [if_pos rfl, if_pos hqn, if_pos (.inl (by omega))]
      by_cases hl : q + 1 = g.n.toNat
      · have e2 : (q : Int) = g.n - 1 := by omega
        rw [e2, out_end h, List.foldl_nil, waysK_getD hqn, if_pos (.inr hl), e2]
      · rw [waysK_getD hqn, if_neg (by omega), wy_out h (by omega) (by omega)]
        congr 1
        refine foldl_same fun i hi s => ?_
        obtain ⟨i0, i1, i2⟩ := outI_mem.1 hi
        have ha := h.arc _ (arc_mem i0 i1)
        rw [waysK_getD (by omega), if_pos (.inl (by omega))]
        rw [show (((arc g.rs i).t.toNat : Nat) : Int) = (arc g.rs i).t by omega]
    · rw [if_neg e]
      congr 1
      by_cases h1 : g.n.toNat ≤ j + k ∨ j + 1 = g.n.toNat
      · rw [if_pos h1, if_pos (by omega)]
      · rw [if_neg h1, if_neg (by omega)]
  · rw [if_neg (by omega), List.getElem?_eq_none (by rw [waysK_len]; omega), List.getElem?_eq_none (by rw [waysK_len]; omega)]
theorem waysK_all (g : Gr) : g.waysK g.n.toNat = g.waysL := by
  unfold Gr.waysK Gr.waysL
  apply List.map_congr_left
  intro q hq
  rw [if_pos (.inl (by omega))]
theorem waysL_len (g : Gr) : g.waysL.length = g.n.toNat := by simp [Gr.waysL]
theorem waysL_get {g : Gr} {j : Nat} (h : j < g.n.toNat) : g.waysL[j]? = some (g.wy (j : Int)) := by
  unfold Gr.waysL; rw [List.getElem?_map, List.getElem?_range h]; rfl
theorem waysL_getD {g : Gr} {j : Nat} (h : j < g.n.toNat) (d : Int) : g.waysL.getD j d = g.wy (j : Int) := by rw [List.getD_eq_getElem?_getD, waysL_get h]; rfl
theorem stepW_take {g : Gr} {q k : Nat} {i : Int} {L : List Int} (hi : (outI g.rs q)[k]? = some i) : ((outI g.rs q).take (k + 1)).foldl (inW g q) L = inW g q (((outI g.rs q).take k).foldl (inW g q) L) i := by
  rw [List.take_add_one, hi, List.foldl_append]; rfl
/-! ### The arcs that belong to a way to the end -/
def wayB (g : Gr) (i : Int) : Bool := decide (g.wy (arc g.rs i).t = 0)
def outF (g : Gr) (q : Int) : List Int := (outI g.rs q).filter fun i => !wayB g i
def Gr.rowsFK (g : Gr) (k : Nat) : List (List Int) := (List.range g.n.toNat).map fun q : Nat => if q < k then outF g (q : Int) else outI g.rs (q : Int)
theorem rowsFK_len (g : Gr) (k : Nat) : (g.rowsFK k).length = g.n.toNat := by simp [Gr.rowsFK]
theorem rowsFK_get {g : Gr} {q : Nat} (h : q < g.n.toNat) (k : Nat) : (g.rowsFK k)[q]? = some (if q < k then outF g (q : Int) else outI g.rs (q : Int)) := by
  unfold Gr.rowsFK; rw [List.getElem?_map, List.getElem?_range h]; rfl
theorem rowsFK_zero (g : Gr) : g.rowsFK 0 = (List.range g.n.toNat).map fun q : Nat => outI g.rs (q : Int) := by
  unfold Gr.rowsFK
  apply List.map_congr_left
  intro q _
  rw [if_neg (by omega)]
theorem rowsFK_all (g : Gr) : g.rowsFK g.n.toNat = (List.range g.n.toNat).map fun q : Nat => outF g (q : Int) := by
  unfold Gr.rowsFK
  apply List.map_congr_left
  intro q hq
  rw [if_pos (List.mem_range.1 hq)]
theorem rowsFK_step {g : Gr} {k : Nat} (h : k < g.n.toNat) : (g.rowsFK k).set k (outF g (k : Int)) = g.rowsFK (k + 1) := by
  apply List.ext_getElem?
  intro j
  rw [List.getElem?_set, rowsFK_len]
  by_cases hj : j < g.n.toNat
  · rw [rowsFK_get hj, rowsFK_get hj]
    by_cases e : k = j
    · subst e; rw [if_pos rfl, if_pos h, if_pos (by omega)]
    · rw [if_neg e]
      by_cases h1 : j < k
      · rw [if_pos h1, if_pos (by omega)]
      · rw [if_neg h1, if_neg (by omega)]
  · rw [if_neg (by omega), List.getElem?_eq_none (by rw [rowsFK_len]; omega), List.getElem?_eq_none (by rw [rowsFK_len]; omega)]
theorem flatMap_filter {α β : Type} {f : α → List β} {p : α → Bool} : ∀ {l : List α}, (∀ a ∈ l, p a = false → f a = []) → l.flatMap f = (l.filter p).flatMap f
  | [], _ => rfl
  | a :: l, h => by
    rw [List.flatMap_cons, List.filter_cons]
    have ih := flatMap_filter (f := f) (p := p) (l := l) (fun b hb => h b (List.mem_cons_of_mem _ hb))
    by_cases e : p a = true
    · rw [if_pos e, List.flatMap_cons, ih]
    · rw [if_neg e, h a (by simp) (by simpa using e), List.nil_append, ih]
theorem pv_outF {g : Gr} (h : g.Ok) {q : Int} (h0 : 0 ≤ q) (h1 : q < g.n - 1) : g.pv q = (outF g q).flatMap fun i => (g.pv (arc g.rs i).t).map (i :: ·) := by
  rw [pv_eq h h0 h1]
  refine flatMap_filter fun i hi hp => ?_
  obtain ⟨i0, i1, i2⟩ := outI_mem.1 hi
  have ha := h.arc _ (arc_mem i0 i1)
  have hw : g.wy (arc g.rs i).t = 0 := by unfold wayB at hp; simpa using hp
  rw [wy_len h (by omega) (by omega)] at hw
  have : (g.pv (arc g.rs i).t).length = 0 := by
    have : min (((g.pv (arc g.rs i).t).length : Nat) : Int) 4611686018427387905 = 0 := hw
    omega
  rw [List.eq_nil_of_length_eq_zero this]; rfl
theorem outF_mem {g : Gr} {q i : Int} (h : i ∈ outF g q) : 0 ≤ i ∧ i < (g.rs.length : Int) ∧ (arc g.rs i).f = q ∧ ¬ g.wy (arc g.rs i).t = 0 := by
  unfold outF at h
  rw [List.mem_filter] at h
  obtain ⟨h1, h2, h3⟩ := outI_mem.1 h.1
  exact ⟨h1, h2, h3, by have := h.2; unfold wayB at this; simpa using this⟩
theorem outF_len (g : Gr) (q : Int) : (outF g q).length ≤ g.rs.length := Nat.le_trans (List.length_filter_le _ _) (outI_len _ _)
theorem fin_list {n : Nat} : ∀ {l : List Int}, (∀ i ∈ l, 0 ≤ i ∧ i < (n : Int)) → ∃ zs : List (Fin n), l = zs.map fun i => (i.1 : Int)
  | [], _ => ⟨[], rfl⟩
  | a :: l, h => by
    obtain ⟨zs, hz⟩ := fin_list (l := l) (fun b hb => h b (List.mem_cons_of_mem _ hb))
    have ha := h a (by simp)
    refine ⟨⟨a.toNat, by omega⟩ :: zs, ?_⟩
    rw [List.map_cons, ← hz]
    congr 1
    show a = ((a.toNat : Nat) : Int)
    omega
theorem WOk.get {N : Nat} {L : List Int} (h : WOk N L) (j : Nat) : 0 ≤ L.getD j 0 ∧ L.getD j 0 ≤ 4611686018427387905 := h.2 j
end Go.Proofs.Ytgdfjblfpeedjaa
/- Plain mathematics: which nodes are reached from the start; members of a list of marks. Nothing here speaks of the program. -/
namespace Go.Proofs.Ytgdfjblfpeedjaa
set_option linter.unusedVariables false
set_option linter.unusedSimpArgs false

def rcI (g : Gr) (L : List Bool) (i : Int) : List Bool := L.set (arc g.rs i).t.toNat true
def rcStep (g : Gr) (L : List Bool) (q : Nat) : List Bool := if L.getD q false = true then (outI g.rs (q : Int)).foldl (rcI g) L else L
def initR (N : Nat) : List Bool := (List.replicate N false).set 0 true
def Gr.rcK (g : Gr) (k : Nat) : List Bool := (List.range k).foldl (rcStep g) (initR g.n.toNat)
/-- Which nodes are reached. -/
def Gr.rc (g : Gr) : List Bool := g.rcK g.n.toNat
theorem rcK_succ (g : Gr) (k : Nat) : g.rcK (k + 1) = rcStep g (g.rcK k) k := by unfold Gr.rcK; rw [List.range_succ, List.foldl_append]; rfl
theorem rcI_len {g : Gr} : ∀ (is : List Int) (L : List Bool), (is.foldl (rcI g) L).length = L.length
  | [], L => rfl
  | i :: is, L => by rw [List.foldl_cons, rcI_len is]; unfold rcI; rw [List.length_set]
theorem rcStep_len (g : Gr) (L : List Bool) (q : Nat) : (rcStep g L q).length = L.length := by
  unfold rcStep; split
  · exact rcI_len _ _
  · rfl
theorem rcK_len (g : Gr) : ∀ k, (g.rcK k).length = g.n.toNat
  | 0 => by simp [Gr.rcK, initR]
  | k + 1 => by rw [rcK_succ, rcStep_len, rcK_len g k]
theorem rc_len (g : Gr) : g.rc.length = g.n.toNat := rcK_len g _
theorem rcI_take {g : Gr} {k : Nat} {i : Int} {l : List Int} {L : List Bool} (hi : l[k]? = some i) : (l.take (k + 1)).foldl (rcI g) L = ((l.take k).foldl (rcI g) L).set (arc g.rs i).t.toNat true := by
  rw [List.take_add_one, hi, List.foldl_append]; rfl
/-! ### The reference goes arc by arc -/
def rcA (q : Nat) (L : List Bool) (a : Ar) : List Bool := if a.f = (q : Int) ∧ L.getD q false = true then L.set a.t.toNat true else L
theorem getB_set {L : List Bool} {q j : Nat} {x : Bool} : (L.set q x).getD j false = if j = q ∧ q < L.length then x else L.getD j false := by
  rw [List.getD_eq_getElem?_getD, List.getD_eq_getElem?_getD, List.getElem?_set]
  by_cases e : q = j
  · subst e
    by_cases h : q < L.length
    · simp [h]
    · simp [h]
  · rw [if_neg e, if_neg (by omega)]
theorem rcA_step {rs : List Ar} {k q : Nat} {a : Ar} {L : List Bool} (ha : rs[k]? = some a) : (rs.take (k + 1)).foldl (rcA q) L = rcA q ((rs.take k).foldl (rcA q) L) a := by
  rw [List.take_add_one, ha, List.foldl_append]; rfl
theorem rcA_len (q : Nat) : ∀ (rs : List Ar) (L : List Bool), (rs.foldl (rcA q) L).length = L.length
  | [], L => rfl
  | a :: rs, L => by rw [List.foldl_cons, rcA_len q rs]; unfold rcA; split <;> simp
theorem rcA_true {q : Nat} : ∀ {rs : List Ar} {L : List Bool}, (∀ a ∈ rs, a.f < a.t) → L.getD q false = true → rs.foldl (rcA q) L = rs.foldl (fun L a => if a.f = (q : Int) then L.set a.t.toNat true else L) L
  | [], L, _, _ => rfl
  | a :: rs, L, h, hL => by
    rw [List.foldl_cons, List.foldl_cons]
    have ha := h a (by simp)
    have e : rcA q L a = if a.f = (q : Int) then L.set a.t.toNat true else L := by
      unfold rcA
      by_cases hf : a.f = (q : Int)
      · rw [if_pos ⟨hf, hL⟩, if_pos hf]
      · rw [if_neg (fun h => hf h.1), if_neg hf]
    rw [e]
    refine rcA_true (fun b hb => h b (List.mem_cons_of_mem _ hb)) ?_
    split
    · rw [getB_set, if_neg (by omega)]; exact hL
    · exact hL
theorem rcA_false {q : Nat} : ∀ {rs : List Ar} {L : List Bool}, L.getD q false = false → rs.foldl (rcA q) L = L
  | [], L, _ => rfl
  | a :: rs, L, hL => by
    rw [List.foldl_cons]
    have e : rcA q L a = L := by
      unfold rcA
      rw [if_neg (fun h => by rw [hL] at h; cases h.2)]
    rw [e]; exact rcA_false hL
theorem rcA_fold {g : Gr} (h : g.Ok) (q : Nat) (L : List Bool) : g.rs.foldl (rcA q) L = rcStep g L q := by
  unfold rcStep
  cases e : L.getD q false with
  | true =>
    rw [if_pos rfl, rcA_true (fun a ha => (h.arc a ha).2.1) e]
    exact fold_out (fun (L : List Bool) (a : Ar) => L.set a.t.toNat true) (q : Int) g.rs L
  | false => rw [if_neg (by simp), rcA_false e]
/-! ### Members -/
def memL (L : List Bool) : List Int := ((List.range L.length).filter fun i : Nat => L.getD i false).map fun i : Nat => (i : Int)
theorem memL_step {L : List Bool} {k : Nat} {x : Bool} (hx : L[k]? = some x) : memL (L.take (k + 1)) = memL (L.take k) ++ (if x = true then [(k : Int)] else []) := by
  have hk := (List.getElem?_eq_some_iff.1 hx).1
  have key : ∀ j, j ≤ L.length → memL (L.take j) = ((List.range j).filter fun i : Nat => L.getD i false).map fun i : Nat => (i : Int) := fun j hj => by
    unfold memL
    rw [List.length_take, Nat.min_eq_left hj]
    congr 1
    apply List.filter_congr
    intro i hi
    have hi := List.mem_range.1 hi
    rw [List.getD_eq_getElem?_getD, List.getD_eq_getElem?_getD, List.getElem?_take_of_lt hi]
  rw [key _ (by omega), key _ (by omega), List.range_succ, List.filter_append, List.map_append]
  congr 1
  have e : L.getD k false = x := by rw [List.getD_eq_getElem?_getD, hx]; rfl
  cases x with
  | false => rw [List.filter_cons, e]; rfl
  | true => rw [List.filter_cons, e]; rfl
theorem memL_mem {L : List Bool} {i : Int} : i ∈ memL L ↔ 0 ≤ i ∧ L.getD i.toNat false = true := by
  unfold memL
  rw [List.mem_map]
  constructor
  · rintro ⟨j, hj, rfl⟩
    rw [List.mem_filter] at hj
    exact ⟨by omega, by simpa using hj.2⟩
  · rintro ⟨h0, h1⟩
    refine ⟨i.toNat, List.mem_filter.2 ⟨List.mem_range.2 ?_, h1⟩, by omega⟩
    rcases Nat.lt_or_ge i.toNat L.length with h | h
    · exact h
    · rw [List.getD_eq_getElem?_getD, List.getElem?_eq_none h] at h1; cases h1
theorem memL_len (L : List Bool) : (memL L).length ≤ L.length := by
  unfold memL; rw [List.length_map]; exact Nat.le_trans (List.length_filter_le _ _) (by simp)
theorem memL_asc (L : List Bool) : (memL L).Pairwise (· < ·) := by
  unfold memL
  rw [List.pairwise_map]
  refine List.Pairwise.imp ?_ (List.Pairwise.filter _ List.pairwise_lt_range)
  intro a b h; omega
/-- What Cut answers. -/
def Gr.cutV (g : Gr) : List Int × Int := if ¬ g.vE = 0 then ([], g.vE) else if g.rc.getD (g.n - 1).toNat false = true then ([], 11) else (memL g.rc, 0)
end Go.Proofs.Ytgdfjblfpeedjaa
/- Plain mathematics: what is reached is what ways lead to; cuts. Nothing here speaks of the program. -/
namespace Go.Proofs.Ytgdfjblfpeedjaa
set_option linter.unusedVariables false
set_option linter.unusedSimpArgs false

def Rea (g : Gr) (j : Int) : Prop := ∃ p, walkP g.rs 0 p = some j
theorem Rea.next {g : Gr} {j i : Int} (h : Rea g j) (hi : i ∈ outI g.rs j) : Rea g (arc g.rs i).t := by
  obtain ⟨p, hp⟩ := h
  obtain ⟨i0, i1, i2⟩ := outI_mem.1 hi
  refine ⟨p ++ [i], ?_⟩
  rw [walkP_app, hp]
  show walkP g.rs j [i] = _
  rw [walkP_cons, if_pos ⟨i0, i1, i2⟩]; rfl
theorem rcI_get {g : Gr} : ∀ (is : List Int) (L : List Bool) (j : Nat), j < L.length → ((is.foldl (rcI g) L).getD j false = true ↔ L.getD j false = true ∨ ∃ i ∈ is, (arc g.rs i).t.toNat = j)
  | [], L, j, h => by simp
  | i :: is, L, j, h => by
    rw [List.foldl_cons, rcI_get is _ j (by unfold rcI; rw [List.length_set]; exact h)]
    unfold rcI
    rw [getB_set]
    constructor
    · rintro (h1 | ⟨k, h1, h2⟩)
      · split at h1
        · rename_i h3; exact .inr ⟨i, by simp, h3.1.symm⟩
        · exact .inl h1
      · exact .inr ⟨k, List.mem_cons_of_mem _ h1, h2⟩
    · rintro (h1 | ⟨k, h1, h2⟩)
      · left; split
        · rfl
        · exact h1
      · rcases List.mem_cons.1 h1 with rfl | h3
        · left; rw [if_pos ⟨h2.symm, by rw [h2]; exact h⟩]
        · exact .inr ⟨k, h3, h2⟩
structure RInv (g : Gr) (k : Nat) (L : List Bool) : Prop where
  len : L.length = g.n.toNat
  way : ∀ j : Nat, L.getD j false = true → Rea g (j : Int)
  start : L.getD 0 false = true
  shut : ∀ a ∈ g.rs, a.f < (k : Int) → L.getD a.f.toNat false = true → L.getD a.t.toNat false = true
theorem rinv {g : Gr} (h : g.Ok) : ∀ k, RInv g k (g.rcK k)
  | 0 => by
    have := h.n1
    refine ⟨rcK_len g 0, fun j hj => ?_, ?_, fun a ha hk _ => ?_⟩
    · unfold Gr.rcK at hj
      rw [List.range_zero, List.foldl_nil] at hj
      unfold initR at hj
      rw [getB_set] at hj
      split at hj
      · rename_i h3; rw [h3.1]; exact ⟨[], rfl⟩
      · rw [List.getD_eq_getElem?_getD, List.getElem?_replicate] at hj
        split at hj <;> cases hj
    · show (initR g.n.toNat).getD 0 false = true
      unfold initR
      rw [getB_set, if_pos ⟨rfl, by simp; omega⟩]
    · have := h.arc a ha; omega
  | k + 1 => by
    have ih := rinv h k
    have hlen : (g.rcK (k + 1)).length = g.n.toNat := rcK_len g (k + 1)
    rw [rcK_succ]
    unfold rcStep
    by_cases hq : (g.rcK k).getD k false = true
    · rw [if_pos hq]
      have hkl : k < (g.rcK k).length := by
        rcases Nat.lt_or_ge k (g.rcK k).length with h1 | h1
        · exact h1
        · rw [List.getD_eq_getElem?_getD, List.getElem?_eq_none h1] at hq; cases hq
      have hget := fun j (hj : j < (g.rcK k).length) => rcI_get (g := g) (outI g.rs (k : Int)) (g.rcK k) j hj
      have hout : ∀ j, ¬ j < (g.rcK k).length → ((outI g.rs (k : Int)).foldl (rcI g) (g.rcK k)).getD j false = false := fun j hj => by
        rw [List.getD_eq_getElem?_getD, List.getElem?_eq_none (by rw [rcI_len]; omega)]; rfl
      refine ⟨by rw [rcI_len]; exact ih.len, fun j hj => ?_, ?_, fun a ha hk hf => ?_⟩
      · by_cases hjl : j < (g.rcK k).length
        · rcases (hget j hjl).1 hj with h1 | ⟨i, h1, h2⟩
          · exact ih.way j h1
          · have := (ih.way k hq).next h1
            obtain ⟨i0, i1, i2⟩ := outI_mem.1 h1
            have ha := h.arc _ (arc_mem i0 i1)
            rwa [show (arc g.rs i).t = (j : Int) by omega] at this
        · rw [hout j hjl] at hj; cases hj
      · exact (hget 0 (by omega)).2 (.inl ih.start)
      · have hb := h.arc a ha
        have hl := ih.len
        have hfl : a.f.toNat < (g.rcK k).length := by omega
        have htl : a.t.toNat < (g.rcK k).length := by omega
        rw [hget _ htl]
        rcases (hget _ hfl).1 hf with h1 | ⟨i, h1, h2⟩
        · by_cases e : a.f = (k : Int)
          · right
            obtain ⟨i, hi, hia⟩ := List.mem_iff_getElem.1 ha
            refine ⟨(i : Int), ?_, ?_⟩
            · have hai : arc g.rs (i : Int) = a := by have := arc_get hi; rw [List.getElem?_eq_getElem hi, hia] at this; injection this with this; exact this.symm
              exact outI_mem.2 ⟨by omega, by omega, by rw [hai]; exact e⟩
            · have hai : arc g.rs (i : Int) = a := by have := arc_get hi; rw [List.getElem?_eq_getElem hi, hia] at this; injection this with this; exact this.symm
              rw [hai]
          · exact .inl (ih.shut a ha (by omega) h1)
        · obtain ⟨i0, i1, i2⟩ := outI_mem.1 h1
          have hc := h.arc _ (arc_mem i0 i1)
          omega
    · rw [if_neg hq]
      refine ⟨ih.len, ih.way, ih.start, fun a ha hk hf => ?_⟩
      have hb := h.arc a ha
      by_cases e : a.f = (k : Int)
      · rw [e, Int.toNat_natCast] at hf
        exact absurd hf hq
      · exact ih.shut a ha (by omega) hf
theorem rc_inv {g : Gr} (h : g.Ok) : RInv g g.n.toNat g.rc := rinv h _
theorem rc_way {g : Gr} (h : g.Ok) : ∀ (p : List Int) (q r : Int), g.rc.getD q.toNat false = true → 0 ≤ q → walkP g.rs q p = some r → g.rc.getD r.toNat false = true
  | [], q, r, hq, _, e => by
    unfold walkP at e; injection e with e; rw [← e]; exact hq
  | i :: p, q, r, hq, h0, e => by
    rw [walkP_cons] at e
    by_cases hc : 0 ≤ i ∧ i < (g.rs.length : Int) ∧ (arc g.rs i).f = q
    · rw [if_pos hc] at e
      have ha := h.arc _ (arc_mem hc.1 hc.2.1)
      refine rc_way h p _ r ((rc_inv h).shut _ (arc_mem hc.1 hc.2.1) (by omega) (by rw [hc.2.2]; exact hq)) (by omega) e
    · rw [if_neg hc] at e; cases e
theorem rc_iff {g : Gr} (h : g.Ok) {j : Int} (h0 : 0 ≤ j) : g.rc.getD j.toNat false = true ↔ Rea g j := by
  constructor
  · intro hj
    have := (rc_inv h).way _ hj
    rwa [show ((j.toNat : Nat) : Int) = j by omega] at this
  · rintro ⟨p, hp⟩
    exact rc_way h p 0 j (rc_inv h).start (Int.le_refl 0) hp
theorem some_wy {g : Gr} (h : g.Ok) : g.rc.getD (g.n - 1).toNat false = true ↔ 0 < g.wy 0 := by
  have h1 := h.n1
  rw [rc_iff h (by omega)]
  have h2 := wy_len h (q := 0) (Int.le_refl 0) (by omega)
  have h3 : g.wy 0 = min (((g.pv 0).length : Nat) : Int) 4611686018427387905 := h2
  constructor
  · rintro ⟨p, hp⟩
    have := (pv_iff h p 0 (Int.le_refl 0) (by omega)).2 hp
    have := List.length_pos_of_mem this
    omega
  · intro hw
    obtain ⟨p, hp⟩ := List.exists_mem_of_length_pos (show 0 < (g.pv 0).length by omega)
    exact ⟨p, (pv_iff h p 0 (Int.le_refl 0) (by omega)).1 hp⟩
/-! ### Cuts -/
def nlB (n : Int) (l : List Int) : Bool := decide ((∀ x ∈ l, 0 ≤ x ∧ x < n) ∧ l.Pairwise (· < ·))
def Gr.ccV (g : Gr) (l : List Int) : Bool := decide (g.vE = 0 ∧ nlB g.n l = true ∧ (0 : Int) ∈ l ∧ ¬ (g.n - 1) ∈ l ∧ ∀ a ∈ g.rs, a.f ∈ l → a.t ∈ l)
theorem cut_ok {g : Gr} (hv : g.vE = 0) (he : g.rc.getD (g.n - 1).toNat false = false) : g.ccV (memL g.rc) = true := by
  have h := Gr.ok hv
  have h1 := h.n1
  refine decide_eq_true ⟨hv, decide_eq_true ⟨fun x hx => ?_, memL_asc _⟩, memL_mem.2 ⟨Int.le_refl 0, (rc_inv h).start⟩, fun hx => ?_, fun a ha hf => ?_⟩
  · obtain ⟨x0, x1⟩ := memL_mem.1 hx
    refine ⟨x0, ?_⟩
    rcases Nat.lt_or_ge x.toNat g.rc.length with h2 | h2
    · rw [rc_len] at h2; omega
    · rw [List.getD_eq_getElem?_getD, List.getElem?_eq_none h2] at x1; cases x1
  · rw [(memL_mem.1 hx).2] at he; cases he
  · have hb := h.arc a ha
    exact memL_mem.2 ⟨by omega, (rc_inv h).shut a ha (by omega) (memL_mem.1 hf).2⟩
theorem cut_none {g : Gr} {l : List Int} (h : g.ccV l = true) : g.vE = 0 ∧ g.wy 0 = 0 := by
  obtain ⟨hv, hn, h0, he, hs⟩ := of_decide_eq_true h
  have hO := Gr.ok hv
  have h1 := hO.n1
  refine ⟨hv, ?_⟩
  have key : ∀ (p : List Int) (q r : Int), q ∈ l → walkP g.rs q p = some r → r ∈ l := by
    intro p
    induction p with
    | nil => intro q r hq e; unfold walkP at e; injection e with e; rw [← e]; exact hq
    | cons i p ih =>
      intro q r hq e
      rw [walkP_cons] at e
      by_cases hc : 0 ≤ i ∧ i < (g.rs.length : Int) ∧ (arc g.rs i).f = q
      · rw [if_pos hc] at e
        exact ih _ r (hs _ (arc_mem hc.1 hc.2.1) (by rw [hc.2.2]; exact hq)) e
      · rw [if_neg hc] at e; cases e
  have hb := wy_nonneg hO (q := 0) (Int.le_refl 0) (by omega)
  by_cases hw : 0 < g.wy 0
  · obtain ⟨p, hp⟩ := (rc_iff hO (by omega)).1 ((some_wy hO).2 hw)
    exact absurd (key p 0 _ h0 hp) he
  · omega
theorem asc_pair {l : List Int} (h : ∀ (i : Nat) x y, l[i]? = some x → l[i + 1]? = some y → x < y) : l.Pairwise (· < ·) := by
  rw [List.pairwise_iff_getElem]
  have key : ∀ d i (h1 : i < l.length) (h2 : i + d + 1 < l.length), l[i] < l[i + d + 1] := by
    intro d
    induction d with
    | zero => intro i h1 h2; exact h i _ _ (List.getElem?_eq_getElem h1) (List.getElem?_eq_getElem h2)
    | succ d ih =>
      intro i h1 h2
      have a1 := ih i h1 (by omega)
      have a2 := h (i + d + 1) _ _ (List.getElem?_eq_getElem (by omega)) (List.getElem?_eq_getElem h2)
      omega
  intro i j hi hj hij
  have := key (j - i - 1) i hi (by omega)
  have e : i + (j - i - 1) + 1 = j := by omega
  simpa [e] using this
theorem nlB_ok {n : Int} {l : List Int} (h1 : ∀ (i : Nat) x, l[i]? = some x → 0 ≤ x ∧ x < n) (h2 : ∀ (i : Nat) x y, l[i]? = some x → l[i + 1]? = some y → x < y) : nlB n l = true :=
  decide_eq_true ⟨fun x hx => by obtain ⟨i, hi⟩ := List.mem_iff_getElem?.1 hx; exact h1 i x hi, asc_pair h2⟩
theorem nlB_no {n : Int} {l : List Int} {i : Nat} {x : Int} (hx : l[i]? = some x) (h : ¬ (0 ≤ x ∧ x < n)) : nlB n l = false := decide_eq_false fun e => h (e.1 x (List.mem_of_getElem? hx))
theorem nlB_no2 {n : Int} {l : List Int} {i : Nat} {x y : Int} (hx : l[i]? = some x) (hy : l[i + 1]? = some y) (h : y ≤ x) : nlB n l = false := decide_eq_false fun e => by
  have h1 := List.pairwise_iff_getElem.1 e.2 i (i + 1) (List.getElem?_eq_some_iff.1 hx).1 (List.getElem?_eq_some_iff.1 hy).1 (by omega)
  have e1 := (List.getElem?_eq_some_iff.1 hx).2
  have e2 := (List.getElem?_eq_some_iff.1 hy).2
  rw [e1, e2] at h1
  omega
/-- The marks of a list of nodes. -/
def marks (N : Nat) (l : List Int) : List Bool := l.foldl (fun L x => L.set x.toNat true) (List.replicate N false)
theorem marks_fold : ∀ (l : List Int) (L : List Bool), (l.foldl (fun (L : List Bool) (x : Int) => L.set x.toNat true) L).length = L.length
  | [], L => rfl
  | x :: l, L => by rw [List.foldl_cons, marks_fold l, List.length_set]
theorem marks_len (N : Nat) (l : List Int) : (marks N l).length = N := by unfold marks; rw [marks_fold]; simp
theorem marks_get' : ∀ (l : List Int) (L : List Bool) (j : Nat), j < L.length → (∀ x ∈ l, 0 ≤ x) → ((l.foldl (fun (L : List Bool) (x : Int) => L.set x.toNat true) L).getD j false = true ↔ L.getD j false = true ∨ (j : Int) ∈ l)
  | [], L, j, _, _ => by simp
  | x :: l, L, j, hj, h0 => by
    rw [List.foldl_cons, marks_get' l _ j (by rw [List.length_set]; exact hj) (fun y hy => h0 y (List.mem_cons_of_mem _ hy)), getB_set]
    have hx := h0 x (by simp)
    constructor
    · rintro (h1 | h1)
      · split at h1
        · rename_i h2; exact .inr (by rw [show (j : Int) = x by omega]; simp)
        · exact .inl h1
      · exact .inr (List.mem_cons_of_mem _ h1)
    · rintro (h1 | h1)
      · left; split
        · rfl
        · exact h1
      · rcases List.mem_cons.1 h1 with h2 | h2
        · left; rw [if_pos ⟨by omega, by omega⟩]
        · exact .inr h2
theorem marks_get {N : Nat} {l : List Int} {j : Nat} (hj : j < N) (h0 : ∀ x ∈ l, 0 ≤ x) : (marks N l).getD j false = decide ((j : Int) ∈ l) := by
  have h := marks_get' l (List.replicate N false) j (by simpa using hj) h0
  have e : (List.replicate N false).getD j false = false := by
    rw [List.getD_eq_getElem?_getD, List.getElem?_replicate]; split <;> rfl
  rw [e] at h
  unfold marks
  by_cases hm : (j : Int) ∈ l
  · rw [decide_eq_true hm]; exact h.2 (.inr hm)
  · rw [decide_eq_false hm]
    cases hb : (l.foldl (fun (L : List Bool) (x : Int) => L.set x.toNat true) (List.replicate N false)).getD j false with
    | false => rfl
    | true =>
      rcases h.1 hb with h1 | h1
      · cases h1
      · exact absurd h1 hm
theorem marks_take {N k : Nat} {l : List Int} {x : Int} (hx : l[k]? = some x) : (marks N (l.take k)).set x.toNat true = marks N (l.take (k + 1)) := by
  unfold marks
  rw [List.take_add_one, hx, List.foldl_append]; rfl
end Go.Proofs.Ytgdfjblfpeedjaa
/- Plain mathematics: graphs turned round. Nothing here speaks of the program. -/
namespace Go.Proofs.Ytgdfjblfpeedjaa
set_option linter.unusedVariables false
set_option linter.unusedSimpArgs false

def revA (n : Int) (a : Ar) : Ar := ⟨n - 1 - a.t, n - 1 - a.f, a.c⟩
/-- What Reverse answers. -/
def Gr.rv (g : Gr) : Gr × Int := if ¬ g.vE = 0 then (⟨0, []⟩, g.vE) else (⟨g.n, g.rs.map (revA g.n)⟩, 0)
theorem rv_bad {g : Gr} (h : ¬ g.vE = 0) : g.rv = (⟨0, []⟩, g.vE) := if_pos h
theorem rv_ok {g : Gr} (h : g.vE = 0) : g.rv = (⟨g.n, g.rs.map (revA g.n)⟩, 0) := if_neg (by omega)
theorem revA_two (n : Int) (a : Ar) : revA n (revA n a) = a := by
  obtain ⟨f, t, c⟩ := a
  unfold revA
  simp only [Ar.mk.injEq, and_true]
  omega
theorem rv_good {g : Gr} (h : g.vE = 0) : g.rv.1.vE = 0 := by
  have hO := Gr.ok h
  rw [rv_ok h]
  refine Gr.Ok.vE ⟨hO.n1, hO.n2, by simpa using hO.len, fun a ha => ?_⟩
  obtain ⟨b, hb, rfl⟩ := List.mem_map.1 ha
  have := hO.arc b hb
  unfold revA
  dsimp only
  omega
theorem rv_rv {g : Gr} (h : g.vE = 0) : g.rv.1.rv = (g, 0) := by
  rw [rv_ok (rv_good h), rv_ok h]
  obtain ⟨n, rs⟩ := g
  simp only [List.map_map, Prod.mk.injEq, and_true, Gr.mk.injEq, true_and]
  rw [show (revA n ∘ revA n) = id from funext fun a => revA_two n a, List.map_id]
theorem rv_zero {g : Gr} (h : g.rv.2 = 0) : g.vE = 0 := by
  unfold Gr.rv at h
  split at h
  · rename_i h1; exact absurd h h1
  · rename_i h1; exact Classical.not_not.1 h1
theorem rv_err (g : Gr) : g.rv.2 = g.vE := by
  unfold Gr.rv
  split
  · rfl
  · rename_i h1; exact (Classical.not_not.1 h1).symm
theorem rvg_len (g : Gr) : g.rv.1.rs.length ≤ g.rs.length := by
  unfold Gr.rv
  split
  · exact Nat.zero_le _
  · simp
theorem rvK_step {g : Gr} {k : Nat} {a : Ar} (ha : g.rs[k]? = some a) : (g.rs.take (k + 1)).map (revA g.n) = (g.rs.take k).map (revA g.n) ++ [revA g.n a] := by
  rw [List.take_add_one, ha, List.map_append]; rfl
end Go.Proofs.Ytgdfjblfpeedjaa
/- Plain mathematics: the graph of those nodes that lie on a way. Nothing here speaks of the program. -/
namespace Go.Proofs.Ytgdfjblfpeedjaa
set_option linter.unusedVariables false
set_option linter.unusedSimpArgs false

/-- A way leads on from here to the end. -/
def On (g : Gr) (q : Int) : Prop := ∃ p, walkP g.rs q p = some (g.n - 1)
theorem arc_at {g : Gr} {a : Ar} (ha : a ∈ g.rs) : ∃ i : Int, 0 ≤ i ∧ i < (g.rs.length : Int) ∧ arc g.rs i = a := by
  obtain ⟨i, hi, e⟩ := List.mem_iff_getElem.1 ha
  refine ⟨(i : Int), by omega, by omega, ?_⟩
  have := arc_get hi
  rw [List.getElem?_eq_getElem hi, e] at this
  injection this with this
  exact this.symm
theorem on_iff {g : Gr} (h : g.Ok) {q : Int} (h0 : 0 ≤ q) (h1 : q < g.n) : 0 < g.wy q ↔ On g q := by
  have h2 := wy_len h h0 h1
  have h3 : g.wy q = min (((g.pv q).length : Nat) : Int) 4611686018427387905 := h2
  constructor
  · intro hw
    obtain ⟨p, hp⟩ := List.exists_mem_of_length_pos (show 0 < (g.pv q).length by omega)
    exact ⟨p, (pv_iff h p q h0 h1).1 hp⟩
  · rintro ⟨p, hp⟩
    have := List.length_pos_of_mem ((pv_iff h p q h0 h1).2 hp)
    omega
theorem On.arc {g : Gr} {a : Ar} (ha : a ∈ g.rs) (h : On g a.t) : On g a.f := by
  obtain ⟨i, i0, i1, rfl⟩ := arc_at ha
  obtain ⟨p, hp⟩ := h
  exact ⟨i :: p, by rw [walkP_cons, if_pos ⟨i0, i1, rfl⟩]; exact hp⟩
theorem On.next {g : Gr} {q : Int} (h : On g q) (hq : ¬ q = g.n - 1) : ∃ a ∈ g.rs, a.f = q ∧ On g a.t := by
  obtain ⟨p, hp⟩ := h
  cases p with
  | nil => unfold walkP at hp; injection hp with hp; exact absurd hp hq
  | cons i p =>
    rw [walkP_cons] at hp
    by_cases hc : 0 ≤ i ∧ i < (g.rs.length : Int) ∧ (Go.Proofs.Ytgdfjblfpeedjaa.arc g.rs i).f = q
    · rw [if_pos hc] at hp
      exact ⟨_, arc_mem hc.1 hc.2.1, hc.2.2, p, hp⟩
    · rw [if_neg hc] at hp; cases hp
theorem Rea.arc {g : Gr} {a : Ar} (ha : a ∈ g.rs) (h : Rea g a.f) : Rea g a.t := by
  obtain ⟨i, i0, i1, rfl⟩ := arc_at ha
  exact h.next (outI_mem.2 ⟨i0, i1, rfl⟩)
theorem Rea.last {g : Gr} {j : Int} (h : Rea g j) (hj : ¬ j = 0) : ∃ a ∈ g.rs, a.t = j ∧ Rea g a.f := by
  obtain ⟨p, hp⟩ := h
  rcases List.eq_nil_or_concat p with rfl | ⟨u, i, rfl⟩
  · unfold walkP at hp; injection hp with hp; exact absurd hp.symm hj
  · rw [List.concat_eq_append, walkP_app] at hp
    cases hu : walkP g.rs 0 u with
    | none => rw [hu] at hp; cases hp
    | some r =>
      rw [hu] at hp
      have hp : walkP g.rs r [i] = some j := hp
      rw [walkP_cons] at hp
      by_cases hc : 0 ≤ i ∧ i < (g.rs.length : Int) ∧ (Go.Proofs.Ytgdfjblfpeedjaa.arc g.rs i).f = r
      · rw [if_pos hc] at hp
        have hp : some (Go.Proofs.Ytgdfjblfpeedjaa.arc g.rs i).t = some j := hp
        injection hp with hp
        exact ⟨_, arc_mem hc.1 hc.2.1, hp, u, by rw [hc.2.2]; exact hu⟩
      · rw [if_neg hc] at hp; cases hp
/-- Which nodes are kept, and their list. -/
def Gr.kp (g : Gr) : List Bool := (List.range g.n.toNat).map fun j : Nat => g.rc.getD j false && decide (0 < g.wy (j : Int))
def Gr.tn (g : Gr) : List Int := memL g.kp
theorem kp_len (g : Gr) : g.kp.length = g.n.toNat := by simp [Gr.kp]
theorem kp_get {g : Gr} {j : Nat} (hj : j < g.n.toNat) : g.kp[j]? = some (g.rc.getD j false && decide (0 < g.wy (j : Int))) := by
  unfold Gr.kp
  rw [List.getElem?_map, List.getElem?_range hj]; rfl
theorem kp_iff {g : Gr} (h : g.Ok) {j : Int} (h0 : 0 ≤ j) (h1 : j < g.n) : g.kp.getD j.toNat false = true ↔ Rea g j ∧ On g j := by
  rw [List.getD_eq_getElem?_getD, kp_get (by omega)]
  show (g.rc.getD j.toNat false && decide (0 < g.wy (j.toNat : Int))) = true ↔ _
  rw [Bool.and_eq_true, rc_iff h h0, decide_eq_true_iff, show ((j.toNat : Nat) : Int) = j by omega, on_iff h h0 h1]
/-- The new name of a node. -/
def Gr.rk (g : Gr) (j : Nat) : Nat := (memL (g.kp.take j)).length
theorem rk_step {g : Gr} {j : Nat} {x : Bool} (hx : g.kp[j]? = some x) : g.rk (j + 1) = g.rk j + if x = true then 1 else 0 := by
  unfold Gr.rk
  rw [memL_step hx, List.length_append]
  congr 1
  split <;> rfl
theorem rk_le {g : Gr} {i : Nat} : ∀ d, i + d ≤ g.n.toNat → g.rk i ≤ g.rk (i + d)
  | 0, _ => Nat.le_refl _
  | d + 1, h => by
    have h1 := rk_le (g := g) (i := i) d (by omega)
    have h2 := rk_step (kp_get (g := g) (j := i + d) (by omega))
    rw [show i + (d + 1) = i + d + 1 by omega, h2]
    omega
theorem rk_lt {g : Gr} {i j : Nat} (hi : g.kp.getD i false = true) (hij : i < j) (hj : j ≤ g.n.toNat) : g.rk i < g.rk j := by
  have h1 := rk_step (kp_get (g := g) (j := i) (by omega))
  rw [List.getD_eq_getElem?_getD, kp_get (by omega)] at hi
  have hi : (g.rc.getD i false && decide (0 < g.wy (i : Int))) = true := hi
  rw [hi, if_pos rfl] at h1
  have h2 := rk_le (g := g) (i := i + 1) (j - (i + 1)) (by omega)
  rw [show i + 1 + (j - (i + 1)) = j by omega] at h2
  omega
theorem rk_all (g : Gr) : g.rk g.n.toNat = g.tn.length := by
  unfold Gr.rk Gr.tn
  rw [List.take_of_length_le (by rw [kp_len]; exact Nat.le_refl _)]
/-- An arc with new names; whether it is kept; what Trim answers. -/
def Gr.ta (g : Gr) (a : Ar) : Ar := ⟨(g.rk a.f.toNat : Int), (g.rk a.t.toNat : Int), a.c⟩
def Gr.tk (g : Gr) (a : Ar) : Bool := g.kp.getD a.f.toNat false && g.kp.getD a.t.toNat false
def Gr.tr (g : Gr) : Gr × List Int × Int := if ¬ g.vE = 0 then (⟨0, []⟩, [], g.vE) else if g.wy 0 = 0 then (⟨0, []⟩, [], 10) else (⟨(g.tn.length : Int), (g.rs.filter g.tk).map g.ta⟩, g.tn, 0)
theorem tr_valid {g : Gr} (hv : g.vE = 0) (hw : ¬ g.wy 0 = 0) : (⟨(g.tn.length : Int), (g.rs.filter g.tk).map g.ta⟩ : Gr).vE = 0 := by
  have h := Gr.ok hv
  have h1 := h.n1
  have h2 := h.n2
  have h3 := wy_nonneg h (q := 0) (Int.le_refl 0) (by omega)
  have k0 : g.kp.getD 0 false = true := (kp_iff h (j := 0) (Int.le_refl 0) (by omega)).2 ⟨⟨[], rfl⟩, (on_iff h (Int.le_refl 0) (by omega)).1 (by omega)⟩
  have h4 := rk_lt k0 (show 0 < g.n.toNat by omega) (Nat.le_refl _)
  rw [rk_all] at h4
  have h5 : g.tn.length ≤ g.n.toNat := by
    have := memL_len g.kp
    rw [kp_len] at this
    exact this
  refine Gr.Ok.vE ⟨by show 1 ≤ (g.tn.length : Int); omega, by show (g.tn.length : Int) ≤ 2000; omega, ?_, fun a ha => ?_⟩
  · show ((g.rs.filter g.tk).map g.ta).length ≤ 6000
    rw [List.length_map]
    exact Nat.le_trans (List.length_filter_le _ _) h.len
  · obtain ⟨b, hb, rfl⟩ := List.mem_map.1 ha
    obtain ⟨hb1, hb2⟩ := List.mem_filter.1 hb
    have hb2 : (g.kp.getD b.f.toNat false && g.kp.getD b.t.toNat false) = true := hb2
    rw [Bool.and_eq_true] at hb2
    have h6 := h.arc b hb1
    have h7 := rk_lt hb2.1 (show b.f.toNat < b.t.toNat by omega) (by omega)
    have h8 := rk_lt hb2.2 (show b.t.toNat < g.n.toNat by omega) (Nat.le_refl _)
    rw [rk_all] at h8
    unfold Gr.ta
    dsimp only
    omega
end Go.Proofs.Ytgdfjblfpeedjaa
/- Plain mathematics: a trimmed graph is trimmed. Nothing here speaks of the program. -/
namespace Go.Proofs.Ytgdfjblfpeedjaa
set_option linter.unusedVariables false
set_option linter.unusedSimpArgs false

/-- The trimmed graph. -/
def Gr.tg (g : Gr) : Gr := ⟨(g.tn.length : Int), (g.rs.filter g.tk).map g.ta⟩
theorem tr_bad {g : Gr} (h : ¬ g.vE = 0) : g.tr = (⟨0, []⟩, [], g.vE) := if_pos h
theorem tr_none {g : Gr} (h : g.vE = 0) (hw : g.wy 0 = 0) : g.tr = (⟨0, []⟩, [], 10) := by unfold Gr.tr; rw [if_neg (by omega), if_pos hw]
theorem tr_ok {g : Gr} (h : g.vE = 0) (hw : ¬ g.wy 0 = 0) : g.tr = (g.tg, g.tn, 0) := by unfold Gr.tr; rw [if_neg (by omega), if_neg hw]; rfl
theorem rk_zero (g : Gr) : g.rk 0 = 0 := rfl
theorem kept_iff {g : Gr} (h : g.Ok) {j : Nat} (hj : j < g.n.toNat) : g.kp.getD j false = true ↔ Rea g j ∧ On g j := by
  have := kp_iff h (j := (j : Int)) (by omega) (by omega)
  rwa [Int.toNat_natCast] at this
theorem ta_mem {g : Gr} (h : g.Ok) {a : Ar} (ha : a ∈ g.rs) (h1 : Rea g a.f) (h2 : On g a.t) : g.ta a ∈ g.tg.rs := by
  have h3 := h.arc a ha
  refine List.mem_map.2 ⟨a, List.mem_filter.2 ⟨ha, ?_⟩, rfl⟩
  show (g.kp.getD a.f.toNat false && g.kp.getD a.t.toNat false) = true
  rw [Bool.and_eq_true]
  exact ⟨(kp_iff h h3.1 (by omega)).2 ⟨h1, h2.arc ha⟩, (kp_iff h (by omega) h3.2.2.1).2 ⟨h1.arc ha, h2⟩⟩
theorem rea_tg {g : Gr} (h : g.Ok) : ∀ (j : Nat), j < g.n.toNat → Rea g j → On g j → Rea g.tg (g.rk j) := by
  intro j
  induction j using Nat.strongRecOn with
  | ind j ih =>
    intro hj h1 h2
    by_cases e : j = 0
    · subst e; rw [rk_zero]; exact ⟨[], rfl⟩
    · obtain ⟨a, ha, hat, hr⟩ := h1.last (by omega)
      have h3 := h.arc a ha
      have h4 := ih a.f.toNat (by omega) (by omega) (by rwa [show ((a.f.toNat : Nat) : Int) = a.f by omega]) (by rw [show ((a.f.toNat : Nat) : Int) = a.f by omega]; exact On.arc ha (by rw [hat]; exact h2))
      have h5 := Rea.arc (ta_mem h ha hr (by rw [hat]; exact h2)) h4
      have h6 : (g.ta a).t = (g.rk j : Int) := by
        show (g.rk a.t.toNat : Int) = _
        rw [hat, Int.toNat_natCast]
      rwa [h6] at h5
theorem rk_end {g : Gr} (h : g.Ok) (hk : g.kp.getD (g.n.toNat - 1) false = true) : g.rk (g.n.toNat - 1) + 1 = g.tn.length := by
  have h1 := h.n1
  have h2 := kp_get (g := g) (j := g.n.toNat - 1) (by omega)
  have h3 := rk_step h2
  rw [List.getD_eq_getElem?_getD, h2] at hk
  have hk : (g.rc.getD (g.n.toNat - 1) false && decide (0 < g.wy ((g.n.toNat - 1 : Nat) : Int))) = true := hk
  rw [hk, if_pos rfl, show g.n.toNat - 1 + 1 = g.n.toNat by omega, rk_all] at h3
  omega
theorem on_tg {g : Gr} (h : g.Ok) : ∀ (d j : Nat), j + d + 1 = g.n.toNat → Rea g j → On g j → On g.tg (g.rk j) := by
  intro d
  induction d using Nat.strongRecOn with
  | ind d ih =>
    intro j hj h1 h2
    have hn := h.n1
    by_cases e : (j : Int) = g.n - 1
    · have hk : g.kp.getD (g.n.toNat - 1) false = true := (kept_iff h (by omega)).2 (by rw [show ((g.n.toNat - 1 : Nat) : Int) = (j : Int) by omega]; exact ⟨h1, h2⟩)
      have h3 := rk_end h hk
      rw [show g.n.toNat - 1 = j by omega] at h3
      refine ⟨[], ?_⟩
      show some (g.rk j : Int) = some ((g.tn.length : Int) - 1)
      congr 1
      omega
    · obtain ⟨a, ha, haf, ho⟩ := h2.next e
      have h3 := h.arc a ha
      have hr : Rea g a.t := Rea.arc ha (by rw [haf]; exact h1)
      have h4 := ih (g.n.toNat - 1 - a.t.toNat) (by omega) a.t.toNat (by omega) (by rwa [show ((a.t.toNat : Nat) : Int) = a.t by omega]) (by rwa [show ((a.t.toNat : Nat) : Int) = a.t by omega])
      have h5 := On.arc (ta_mem h ha (by rw [haf]; exact h1) ho) h4
      have h6 : (g.ta a).f = (g.rk j : Int) := by
        show (g.rk a.f.toNat : Int) = _
        rw [haf, Int.toNat_natCast]
      rwa [h6] at h5
theorem rk_onto {g : Gr} {m : Nat} : ∀ j, j ≤ g.n.toNat → m < g.rk j → ∃ i, i < j ∧ g.kp.getD i false = true ∧ g.rk i = m
  | 0, _, h => by rw [rk_zero] at h; omega
  | j + 1, hj, h => by
    have h1 := kp_get (g := g) (j := j) (by omega)
    have h2 := rk_step h1
    by_cases e : m < g.rk j
    · obtain ⟨i, i1, i2, i3⟩ := rk_onto j (by omega) e
      exact ⟨i, by omega, i2, i3⟩
    · refine ⟨j, by omega, ?_, ?_⟩
      · rw [List.getD_eq_getElem?_getD, h1]
        show (g.rc.getD j false && decide (0 < g.wy (j : Int))) = true
        cases hx : (g.rc.getD j false && decide (0 < g.wy (j : Int))) with
        | true => rfl
        | false => rw [hx, if_neg (by simp)] at h2; omega
      · split at h2 <;> omega
theorem tg_ok {g : Gr} (hv : g.vE = 0) (hw : ¬ g.wy 0 = 0) : g.tg.Ok := Gr.ok (tr_valid hv hw)
theorem tg_kept {g : Gr} (hv : g.vE = 0) (hw : ¬ g.wy 0 = 0) {m : Nat} (hm : m < g.tn.length) : g.tg.kp.getD m false = true := by
  have h := Gr.ok hv
  rw [← rk_all] at hm
  obtain ⟨i, i1, i2, rfl⟩ := rk_onto g.n.toNat (Nat.le_refl _) hm
  obtain ⟨h1, h2⟩ := (kept_iff h i1).1 i2
  refine (kept_iff (tg_ok hv hw) ?_).2 ⟨rea_tg h i i1 h1 h2, on_tg h (g.n.toNat - 1 - i) i (by omega) h1 h2⟩
  rw [rk_all] at hm
  show g.rk i < ((g.tn.length : Nat) : Int).toNat
  omega
theorem tg_rk {g : Gr} (hv : g.vE = 0) (hw : ¬ g.wy 0 = 0) : ∀ j, j ≤ g.tn.length → g.tg.rk j = j
  | 0, _ => rfl
  | j + 1, hj => by
    have ih := tg_rk hv hw j (by omega)
    have h0 : j < g.tg.n.toNat := by show j < ((g.tn.length : Nat) : Int).toNat; omega
    have h1 := kp_get h0
    have h2 := rk_step h1
    have h3 := tg_kept hv hw (m := j) (by omega)
    rw [List.getD_eq_getElem?_getD, h1] at h3
    have h3 : (g.tg.rc.getD j false && decide (0 < g.tg.wy (j : Int))) = true := h3
    rw [h3, if_pos rfl] at h2
    omega
/-- A trimmed graph is trimmed, and all its nodes are kept. -/
theorem tr_tr {g : Gr} (hv : g.vE = 0) (hw : ¬ g.wy 0 = 0) : ∃ ns, g.tg.tr = (g.tg, ns, 0) ∧ ns.length = g.tn.length := by
  have h := tg_ok hv hw
  have h1 := h.n1
  have hn : g.tg.n = (g.tn.length : Int) := rfl
  have k0 := tg_kept hv hw (m := 0) (by omega)
  obtain ⟨_, o0⟩ := (kept_iff h (by omega)).1 k0
  have w0 := (on_iff h (q := ((0 : Nat) : Int)) (by omega) (by omega)).2 o0
  have w0 : 0 < g.tg.wy 0 := w0
  have hl : g.tg.tn.length = g.tn.length := by
    rw [← rk_all]
    rw [show g.tg.n.toNat = g.tn.length by omega]
    exact tg_rk hv hw _ (Nat.le_refl _)
  have hf : g.tg.rs.filter g.tg.tk = g.tg.rs := List.filter_eq_self.2 fun a ha => by
    have h3 := h.arc a ha
    show (g.tg.kp.getD a.f.toNat false && g.tg.kp.getD a.t.toNat false) = true
    rw [tg_kept hv hw (by omega), tg_kept hv hw (by omega)]; rfl
  have hm : g.tg.rs.map g.tg.ta = g.tg.rs := by
    have : ∀ a ∈ g.tg.rs, g.tg.ta a = id a := fun a ha => by
      have h3 := h.arc a ha
      obtain ⟨f, t, c⟩ := a
      dsimp only at h3
      unfold Gr.ta
      dsimp only [id]
      rw [tg_rk hv hw _ (by omega), tg_rk hv hw _ (by omega)]
      congr 1 <;> omega
    rw [List.map_congr_left this, List.map_id]
  refine ⟨g.tg.tn, ?_, hl⟩
  rw [tr_ok (g := g.tg) (tr_valid hv hw) (show ¬ g.tg.wy 0 = 0 by omega)]
  have e : g.tg.tg = g.tg := by
    show (⟨(g.tg.tn.length : Int), (g.tg.rs.filter g.tg.tk).map g.tg.ta⟩ : Gr) = g.tg
    rw [hf, hm, hl]
    rfl
  rw [e]
end Go.Proofs.Ytgdfjblfpeedjaa
/- Plain mathematics: the costs of all paths of a graph, of one turned round, and of a trimmed one. Nothing here speaks of the program. -/
namespace Go.Proofs.Ytgdfjblfpeedjaa
set_option linter.unusedVariables false
set_option linter.unusedSimpArgs false

theorem pv_nodup {g : Gr} (h : g.Ok) : ∀ (d : Nat) (q : Int), 0 ≤ q → q < g.n → g.n - q ≤ d → (g.pv q).Nodup
  | 0, q, h0, h1, hd => by omega
  | d + 1, q, h0, h1, hd => by
    by_cases e : q = g.n - 1
    · subst e
      rw [pv_end h]
      exact List.nodup_cons.2 ⟨by simp, List.nodup_nil⟩
    · rw [pv_eq h h0 (by omega)]
      refine List.pairwise_flatMap.2 ⟨fun i hi => ?_, ?_⟩
      · obtain ⟨i0, i1, i2⟩ := outI_mem.1 hi
        have ha := h.arc _ (arc_mem i0 i1)
        refine List.pairwise_map.2 (List.Pairwise.imp ?_ (pv_nodup h d (arc g.rs i).t (by omega) (by omega) (by omega)))
        intro a b hab e
        injection e with _ e
        exact hab e
      · refine List.Pairwise.imp ?_ (outI_pairwise g.rs q)
        intro a b hab x hx y hy e
        obtain ⟨x', _, rfl⟩ := List.mem_map.1 hx
        obtain ⟨y', _, rfl⟩ := List.mem_map.1 hy
        injection e with e _
        omega
theorem pv_nd {g : Gr} (h : g.Ok) : (g.pv 0).Nodup := pv_nodup h g.n.toNat 0 (Int.le_refl 0) (by have := h.n1; omega) (by omega)
theorem pv_mem {g : Gr} (h : g.Ok) {p : List Int} : p ∈ g.pv 0 ↔ walkP g.rs 0 p = some (g.n - 1) := pv_iff h p 0 (Int.le_refl 0) (by have := h.n1; omega)
/-- The costs of all paths. -/
def Gr.cs (g : Gr) : List Int := (g.pv 0).map (sumP g.rs)
/-! ### Turned round -/
theorem arc_rev {n : Int} {rs : List Ar} {i : Int} (h0 : 0 ≤ i) (h1 : i < (rs.length : Int)) : arc (rs.map (revA n)) i = revA n (arc rs i) := by
  unfold arc
  rw [List.getD_eq_getElem?_getD, List.getD_eq_getElem?_getD, List.getElem?_map, List.getElem?_eq_getElem (show i.toNat < rs.length by omega)]
  rfl
theorem arc_revc {n : Int} {rs : List Ar} (i : Int) : (arc (rs.map (revA n)) i).c = (arc rs i).c := by
  unfold arc
  rw [List.getD_eq_getElem?_getD, List.getD_eq_getElem?_getD, List.getElem?_map]
  cases rs[i.toNat]? <;> rfl
theorem walk_rev {n : Int} {rs : List Ar} : ∀ (p : List Int) (q r : Int), walkP rs q p = some r ↔ walkP (rs.map (revA n)) (n - 1 - r) p.reverse = some (n - 1 - q)
  | [], q, r => by
    show some q = some r ↔ some (n - 1 - r) = some (n - 1 - q)
    rw [Option.some.injEq, Option.some.injEq]
    omega
  | i :: u, q, r => by
    rw [List.reverse_cons, walkP_app, walkP_cons]
    constructor
    · intro h
      by_cases hc : 0 ≤ i ∧ i < (rs.length : Int) ∧ (arc rs i).f = q
      · rw [if_pos hc] at h
        rw [(walk_rev u _ r).1 h]
        show walkP (rs.map (revA n)) (n - 1 - (arc rs i).t) [i] = _
        rw [walkP_cons, if_pos ⟨hc.1, by rw [List.length_map]; exact hc.2.1, by rw [arc_rev hc.1 hc.2.1]; rfl⟩, arc_rev hc.1 hc.2.1]
        show some (n - 1 - (arc rs i).f) = _
        rw [hc.2.2]
      · rw [if_neg hc] at h; cases h
    · intro h
      cases e : walkP (rs.map (revA n)) (n - 1 - r) u.reverse with
      | none => rw [e] at h; cases h
      | some s =>
        rw [e] at h
        have h : walkP (rs.map (revA n)) s [i] = some (n - 1 - q) := h
        rw [walkP_cons] at h
        by_cases hc : 0 ≤ i ∧ i < ((rs.map (revA n)).length : Int) ∧ (arc (rs.map (revA n)) i).f = s
        · rw [if_pos hc] at h
          have hl : i < (rs.length : Int) := by have := hc.2.1; rwa [List.length_map] at this
          have h2 := hc.2.2
          rw [arc_rev hc.1 hl] at h h2
          have h : some (n - 1 - (arc rs i).f) = some (n - 1 - q) := h
          have h2 : n - 1 - (arc rs i).t = s := h2
          injection h with h
          rw [if_pos ⟨hc.1, hl, by omega⟩]
          exact (walk_rev u _ r).2 (by rw [e, h2])
        · rw [if_neg hc] at h; cases h
theorem sum_rev {n : Int} {rs : List Ar} : ∀ (p : List Int), sumP (rs.map (revA n)) p.reverse = sumP rs p
  | [] => rfl
  | i :: u => by
    rw [List.reverse_cons, sumP_app, sum_rev u]
    have h1 : sumP rs (i :: u) = (arc rs i).c + sumP rs u := by simp [sumP]
    have h2 : sumP (rs.map (revA n)) [i] = (arc rs i).c := by simp [sumP, arc_revc]
    omega
theorem cs_rev {g : Gr} (hv : g.vE = 0) : (g.rv.1.cs).Perm g.cs := by
  have h := Gr.ok hv
  have hr := Gr.ok (rv_good hv)
  have e : g.rv.1 = ⟨g.n, g.rs.map (revA g.n)⟩ := by rw [rv_ok hv]
  have hp : (g.rv.1.pv 0).Perm ((g.pv 0).map List.reverse) := by
    refine (List.perm_ext_iff_of_nodup (pv_nd hr) ?_).2 fun p => ?_
    · refine List.pairwise_map.2 (List.Pairwise.imp ?_ (pv_nd h))
      intro a b hab e
      exact hab (List.reverse_inj.1 e)
    · rw [pv_mem hr, List.mem_map]
      have hw := walk_rev (n := g.n) (rs := g.rs) p.reverse 0 (g.n - 1)
      rw [List.reverse_reverse, show g.n - 1 - (g.n - 1) = 0 by omega, show g.n - 1 - 0 = g.n - 1 by omega] at hw
      rw [show g.rv.1.rs = g.rs.map (revA g.n) by rw [e], show g.rv.1.n = g.n by rw [e], ← hw]
      constructor
      · intro hp
        exact ⟨p.reverse, (pv_mem h).2 hp, List.reverse_reverse p⟩
      · rintro ⟨u, hu, rfl⟩
        rw [List.reverse_reverse]
        exact (pv_mem h).1 hu
  have h2 := hp.map (sumP g.rv.1.rs)
  rw [List.map_map] at h2
  have h3 : (g.pv 0).map (sumP g.rv.1.rs ∘ List.reverse) = g.cs := by
    unfold Gr.cs
    refine List.map_congr_left fun p _ => ?_
    show sumP g.rv.1.rs p.reverse = _
    rw [show g.rv.1.rs = g.rs.map (revA g.n) by rw [e], sum_rev]
  rw [h3] at h2
  exact h2
/-! ### Trimmed -/
/-- The new index of an arc. -/
def Gr.ix (g : Gr) (i : Nat) : Nat := ((g.rs.take i).filter g.tk).length
def Gr.ixI (g : Gr) (i : Int) : Int := (g.ix i.toNat : Int)
theorem ix_at {g : Gr} {i : Nat} {a : Ar} (ha : g.rs[i]? = some a) (hk : g.tk a = true) : g.tg.rs[g.ix i]? = some (g.ta a) := by
  have hi := (List.getElem?_eq_some_iff.1 ha).1
  have e : g.rs = g.rs.take i ++ a :: g.rs.drop (i + 1) := by
    have h1 := List.take_append_drop i g.rs
    rw [List.drop_eq_getElem_cons hi, (List.getElem?_eq_some_iff.1 ha).2] at h1
    exact h1.symm
  show ((g.rs.filter g.tk).map g.ta)[g.ix i]? = _
  rw [List.getElem?_map]
  have h2 : (g.rs.filter g.tk)[g.ix i]? = some a := by
    have h3 : g.rs.filter g.tk = (g.rs.take i).filter g.tk ++ a :: (g.rs.drop (i + 1)).filter g.tk := by
      have h4 := congrArg (List.filter g.tk) e
      rw [List.filter_append, List.filter_cons, if_pos hk] at h4
      exact h4
    rw [h3]
    unfold Gr.ix
    rw [List.getElem?_append_right (Nat.le_refl _), Nat.sub_self]; rfl
  rw [h2]; rfl
theorem ix_step {g : Gr} {i : Nat} {a : Ar} (ha : g.rs[i]? = some a) : g.ix (i + 1) = g.ix i + if g.tk a = true then 1 else 0 := by
  unfold Gr.ix
  rw [List.take_add_one, ha, List.filter_append, List.length_append]
  congr 1
  show ([a].filter g.tk).length = _
  rw [List.filter_cons]
  split <;> rfl
theorem ix_le {g : Gr} {i : Nat} : ∀ d, i + d ≤ g.rs.length → g.ix i ≤ g.ix (i + d)
  | 0, _ => Nat.le_refl _
  | d + 1, h => by
    have h1 := ix_le (g := g) (i := i) d (by omega)
    have h2 := ix_step (List.getElem?_eq_getElem (l := g.rs) (i := i + d) (by omega))
    rw [show i + (d + 1) = i + d + 1 by omega, h2]
    omega
theorem ix_lt {g : Gr} {i j : Nat} {a : Ar} (ha : g.rs[i]? = some a) (hk : g.tk a = true) (hij : i < j) (hj : j ≤ g.rs.length) : g.ix i < g.ix j := by
  have h1 := ix_step ha
  rw [if_pos hk] at h1
  have h2 := ix_le (g := g) (i := i + 1) (j - (i + 1)) (by omega)
  rw [show i + 1 + (j - (i + 1)) = j by omega] at h2
  omega
theorem ix_all (g : Gr) : g.ix g.rs.length = g.tg.rs.length := by
  unfold Gr.ix
  rw [List.take_length]
  show _ = ((g.rs.filter g.tk).map g.ta).length
  rw [List.length_map]
theorem ix_onto {g : Gr} {m : Nat} : ∀ j, j ≤ g.rs.length → m < g.ix j → ∃ i a, g.rs[i]? = some a ∧ g.tk a = true ∧ g.ix i = m
  | 0, _, h => by
    have : g.ix 0 = 0 := by simp [Gr.ix]
    omega
  | j + 1, hj, h => by
    have ha := List.getElem?_eq_getElem (l := g.rs) (i := j) (by omega)
    have h2 := ix_step ha
    by_cases e : m < g.ix j
    · exact ix_onto j (by omega) e
    · refine ⟨j, _, ha, ?_, ?_⟩
      · cases hx : g.tk g.rs[j] with
        | true => rfl
        | false => rw [hx, if_neg (by simp)] at h2; omega
      · split at h2 <;> omega
theorem tk_iff {g : Gr} (h : g.Ok) {a : Ar} (ha : a ∈ g.rs) : g.tk a = true ↔ Rea g a.f ∧ On g a.t := by
  have h3 := h.arc a ha
  show (g.kp.getD a.f.toNat false && g.kp.getD a.t.toNat false) = true ↔ _
  rw [Bool.and_eq_true, kp_iff h h3.1 (by omega), kp_iff h (by omega) h3.2.2.1]
  exact ⟨fun ⟨h1, h2⟩ => ⟨h1.1, h2.2⟩, fun ⟨h1, h2⟩ => ⟨⟨h1, h2.arc ha⟩, h1.arc ha, h2⟩⟩
theorem arc_ix {g : Gr} {i : Int} (h0 : 0 ≤ i) (h1 : i < (g.rs.length : Int)) (hk : g.tk (arc g.rs i) = true) : 0 ≤ g.ixI i ∧ g.ixI i < (g.tg.rs.length : Int) ∧ arc g.tg.rs (g.ixI i) = g.ta (arc g.rs i) := by
  have ha := arc_get (rs := g.rs) (i := i.toNat) (by omega)
  rw [show ((i.toNat : Nat) : Int) = i by omega] at ha
  have h2 := ix_at ha hk
  have h3 := (List.getElem?_eq_some_iff.1 h2).1
  refine ⟨Int.natCast_nonneg _, by unfold Gr.ixI; omega, ?_⟩
  unfold arc Gr.ixI
  rw [Int.toNat_natCast, List.getD_eq_getElem?_getD, h2]; rfl
theorem path_kept {g : Gr} (h : g.Ok) : ∀ (p : List Int) (q : Int), Rea g q → walkP g.rs q p = some (g.n - 1) → ∀ i ∈ p, 0 ≤ i ∧ i < (g.rs.length : Int) ∧ g.tk (arc g.rs i) = true
  | [], q, _, _, i, hi => by cases hi
  | j :: p, q, hq, hw, i, hi => by
    rw [walkP_cons] at hw
    by_cases hc : 0 ≤ j ∧ j < (g.rs.length : Int) ∧ (arc g.rs j).f = q
    · rw [if_pos hc] at hw
      have hm := arc_mem hc.1 hc.2.1
      rcases List.mem_cons.1 hi with rfl | hi
      · exact ⟨hc.1, hc.2.1, (tk_iff h hm).2 ⟨by rw [hc.2.2]; exact hq, p, hw⟩⟩
      · exact path_kept h p _ (Rea.arc hm (by rw [hc.2.2]; exact hq)) hw i hi
    · rw [if_neg hc] at hw; cases hw
theorem end_kept {g : Gr} (h : g.Ok) (hr : Rea g (g.n - 1)) : g.kp.getD (g.n.toNat - 1) false = true := by
  have h1 := h.n1
  have := (kp_iff h (j := g.n - 1) (by omega) (by omega)).2 ⟨hr, [], rfl⟩
  rwa [show (g.n - 1).toNat = g.n.toNat - 1 by omega] at this
theorem walk_tg {g : Gr} (h : g.Ok) : ∀ (p : List Int) (q : Int), 0 ≤ q → q < g.n → Rea g q → walkP g.rs q p = some (g.n - 1) → walkP g.tg.rs (g.rk q.toNat : Int) (p.map g.ixI) = some (g.tg.n - 1)
  | [], q, h0, h1, hr, hw => by
    have hq : some q = some (g.n - 1) := hw
    injection hq with hq
    have h2 := rk_end h (end_kept h (by rw [← hq]; exact hr))
    have hn := h.n1
    show some (g.rk q.toNat : Int) = some ((g.tn.length : Int) - 1)
    congr 1
    rw [hq, show (g.n - 1).toNat = g.n.toNat - 1 by omega]
    omega
  | i :: p, q, h0, h1, hr, hw => by
    have hk := path_kept h (i :: p) q hr hw i (List.mem_cons_self ..)
    rw [walkP_cons] at hw
    by_cases hc : 0 ≤ i ∧ i < (g.rs.length : Int) ∧ (arc g.rs i).f = q
    · rw [if_pos hc] at hw
      have hm := arc_mem hc.1 hc.2.1
      have ha := h.arc _ hm
      obtain ⟨k1, k2, k3⟩ := arc_ix hk.1 hk.2.1 hk.2.2
      rw [List.map_cons, walkP_cons, if_pos ⟨k1, k2, by rw [k3]; show (g.rk (arc g.rs i).f.toNat : Int) = _; rw [hc.2.2]⟩, k3]
      exact walk_tg h p _ (by omega) ha.2.2.1 (Rea.arc hm (by rw [hc.2.2]; exact hr)) hw
    · rw [if_neg hc] at hw; cases hw
theorem rk_inj {g : Gr} {i j : Nat} (hi : g.kp.getD i false = true) (hj : g.kp.getD j false = true) (i1 : i < g.n.toNat) (j1 : j < g.n.toNat) (e : g.rk i = g.rk j) : i = j := by
  rcases Nat.lt_trichotomy i j with h | h | h
  · have := rk_lt hi h (by omega); omega
  · exact h
  · have := rk_lt hj h (by omega); omega
theorem walk_gt {g : Gr} (h : g.Ok) : ∀ (p' : List Int) (q : Int), 0 ≤ q → q < g.n → Rea g q → On g q → walkP g.tg.rs (g.rk q.toNat : Int) p' = some (g.tg.n - 1) → ∃ p, p' = p.map g.ixI ∧ walkP g.rs q p = some (g.n - 1)
  | [], q, h0, h1, hr, ho, hw => by
    have hq : some (g.rk q.toNat : Int) = some ((g.tn.length : Int) - 1) := hw
    injection hq with hq
    have hn := h.n1
    have hre : Rea g (g.n - 1) := by
      obtain ⟨u, hu⟩ := hr
      obtain ⟨v, hv⟩ := ho
      exact ⟨u ++ v, by rw [walkP_app, hu]; exact hv⟩
    have hek := end_kept h hre
    have h2 := rk_end h hek
    have hqk := (kp_iff h h0 h1).2 ⟨hr, ho⟩
    have := rk_inj hqk hek (by omega) (by omega) (by omega)
    refine ⟨[], rfl, ?_⟩
    show some q = some (g.n - 1)
    congr 1
    omega
  | m :: p', q, h0, h1, hr, ho, hw => by
    rw [walkP_cons] at hw
    by_cases hc : 0 ≤ m ∧ m < (g.tg.rs.length : Int) ∧ (arc g.tg.rs m).f = (g.rk q.toNat : Int)
    · rw [if_pos hc] at hw
      obtain ⟨i, a, ia, ik, im⟩ := ix_onto (g := g) (m := m.toNat) g.rs.length (Nat.le_refl _) (by rw [ix_all]; omega)
      have hil := (List.getElem?_eq_some_iff.1 ia).1
      have hae : arc g.rs (i : Int) = a := by
        have := arc_get (rs := g.rs) hil
        rw [ia] at this; injection this with this; exact this.symm
      have hmi : m = g.ixI (i : Int) := by unfold Gr.ixI; rw [Int.toNat_natCast, im]; omega
      obtain ⟨k1, k2, k3⟩ := arc_ix (g := g) (i := (i : Int)) (by omega) (by omega) (by rw [hae]; exact ik)
      rw [hae] at k3
      rw [hmi, k3] at hw hc
      have hm : a ∈ g.rs := List.mem_of_getElem? ia
      have ha := h.arc a hm
      obtain ⟨r1, o1⟩ := (tk_iff h hm).1 ik
      have hf : (g.rk a.f.toNat : Int) = (g.rk q.toNat : Int) := hc.2.2
      have hfk := (kp_iff h ha.1 (by omega)).2 ⟨r1, On.arc hm o1⟩
      have hqk := (kp_iff h h0 h1).2 ⟨hr, ho⟩
      have := rk_inj hfk hqk (by omega) (by omega) (by omega)
      have haf : a.f = q := by omega
      obtain ⟨p, hp, hw2⟩ := walk_gt h p' a.t (by omega) ha.2.2.1 (Rea.arc hm r1) o1 hw
      refine ⟨(i : Int) :: p, by rw [List.map_cons, ← hp, ← hmi], ?_⟩
      rw [walkP_cons, hae, if_pos ⟨by omega, by omega, haf⟩]
      exact hw2
    · rw [if_neg hc] at hw; cases hw
theorem map_injOn {α β : Type} {f : α → β} : ∀ {l m : List α}, (∀ x ∈ l, ∀ y ∈ m, f x = f y → x = y) → l.map f = m.map f → l = m
  | [], [], _, _ => rfl
  | [], y :: m, _, e => by cases e
  | x :: l, [], _, e => by cases e
  | x :: l, y :: m, h, e => by
    rw [List.map_cons, List.map_cons] at e
    injection e with e1 e2
    rw [h x (List.mem_cons_self ..) y (List.mem_cons_self ..) e1, map_injOn (fun a ha b hb => h a (List.mem_cons_of_mem _ ha) b (List.mem_cons_of_mem _ hb)) e2]
theorem ixI_inj {g : Gr} {i j : Int} (hi : 0 ≤ i ∧ i < (g.rs.length : Int) ∧ g.tk (arc g.rs i) = true) (hj : 0 ≤ j ∧ j < (g.rs.length : Int) ∧ g.tk (arc g.rs j) = true) (e : g.ixI i = g.ixI j) : i = j := by
  have ai := arc_get (rs := g.rs) (i := i.toNat) (by omega)
  have aj := arc_get (rs := g.rs) (i := j.toNat) (by omega)
  rw [show ((i.toNat : Nat) : Int) = i by omega] at ai
  rw [show ((j.toNat : Nat) : Int) = j by omega] at aj
  have e : (g.ix i.toNat : Int) = (g.ix j.toNat : Int) := e
  rcases Nat.lt_trichotomy i.toNat j.toNat with h | h | h
  · have := ix_lt ai hi.2.2 h (by omega); omega
  · omega
  · have := ix_lt aj hj.2.2 h (by omega); omega
theorem sum_tg {g : Gr} : ∀ (p : List Int), (∀ i ∈ p, 0 ≤ i ∧ i < (g.rs.length : Int) ∧ g.tk (arc g.rs i) = true) → sumP g.tg.rs (p.map g.ixI) = sumP g.rs p
  | [], _ => rfl
  | i :: p, h => by
    have h1 := sum_tg p fun j hj => h j (List.mem_cons_of_mem _ hj)
    obtain ⟨i0, i1, i2⟩ := h i (List.mem_cons_self ..)
    obtain ⟨_, _, k3⟩ := arc_ix i0 i1 i2
    have h2 : sumP g.rs (i :: p) = (arc g.rs i).c + sumP g.rs p := by simp [sumP]
    have h3 : sumP g.tg.rs (g.ixI i :: p.map g.ixI) = (arc g.tg.rs (g.ixI i)).c + sumP g.tg.rs (p.map g.ixI) := by simp [sumP]
    rw [List.map_cons, h3, h2, h1, k3]; rfl
theorem cs_tr {g : Gr} (hv : g.vE = 0) (hw : ¬ g.wy 0 = 0) : (g.tg.cs).Perm g.cs := by
  have h := Gr.ok hv
  have ht := tg_ok hv hw
  have hn := h.n1
  have r0 : Rea g 0 := ⟨[], rfl⟩
  have o0 : On g 0 := (on_iff h (Int.le_refl 0) (by omega)).1 (by have := wy_nonneg h (q := 0) (Int.le_refl 0) (by omega); omega)
  have kept : ∀ p ∈ g.pv 0, ∀ i ∈ p, 0 ≤ i ∧ i < (g.rs.length : Int) ∧ g.tk (arc g.rs i) = true := fun p hp => path_kept h p 0 r0 ((pv_mem h).1 hp)
  have hp : (g.tg.pv 0).Perm ((g.pv 0).map (List.map g.ixI)) := by
    refine (List.perm_ext_iff_of_nodup (pv_nd ht) ?_).2 fun p => ?_
    · refine List.pairwise_map.2 (List.Pairwise.imp_of_mem ?_ (pv_nd h))
      intro a b ha hb hab e
      exact hab (map_injOn (fun x hx y hy e => ixI_inj (kept a ha x hx) (kept b hb y hy) e) e)
    · rw [pv_mem ht, List.mem_map]
      constructor
      · intro hp
        obtain ⟨u, hu, hw2⟩ := walk_gt h p 0 (Int.le_refl 0) (by omega) r0 o0 hp
        exact ⟨u, (pv_mem h).2 hw2, hu.symm⟩
      · rintro ⟨u, hu, rfl⟩
        exact walk_tg h u 0 (Int.le_refl 0) (by omega) r0 ((pv_mem h).1 hu)
  have h2 := hp.map (sumP g.tg.rs)
  rw [List.map_map] at h2
  have h3 : (g.pv 0).map (sumP g.tg.rs ∘ List.map g.ixI) = g.cs := by
    unfold Gr.cs
    exact List.map_congr_left fun p hp => sum_tg p (kept p hp)
  rw [h3] at h2
  exact h2
/-! ### Sorted costs -/
def srt (L : List Int) : List Int := L.mergeSort fun x y => decide (x ≤ y)
theorem srt_perm {L M : List Int} (h : L.Perm M) : srt L = srt M := by
  have hp : ∀ K : List Int, (srt K).Pairwise (fun a b => decide (a ≤ b) = true) := fun K => List.pairwise_mergeSort (fun a b c h1 h2 => by
    have := of_decide_eq_true h1
    have := of_decide_eq_true h2
    exact decide_eq_true (by omega)) (fun a b => by
    rw [Bool.or_eq_true, decide_eq_true_iff, decide_eq_true_iff]; omega) K
  refine List.Perm.eq_of_pairwise (fun a b _ _ h1 h2 => ?_) (hp L) (hp M) ?_
  · have := of_decide_eq_true h1
    have := of_decide_eq_true h2
    omega
  · exact (List.mergeSort_perm L _).trans (h.trans (List.mergeSort_perm M _).symm)
theorem srt_len (L : List Int) : (srt L).length = L.length := (List.mergeSort_perm L _).length_eq
/-- What the law's costs are, sorted. -/
def Gr.co (g : Gr) : List Int := srt (g.pth.1.map (sumP g.rs))
theorem pth_cs {g : Gr} (h : g.pth.2 = 0) : g.vE = 0 ∧ g.wy 0 ≤ 2000 ∧ g.pth.1 = g.pv 0 := by
  unfold Gr.pth at h ⊢
  split
  · rename_i hv; rw [if_pos hv] at h; exact absurd h hv
  · rename_i hv
    rw [if_neg hv] at h
    split
    · rename_i h2; rw [if_pos h2] at h; cases h
    · rename_i h2; exact ⟨Classical.not_not.1 hv, by omega, rfl⟩
theorem pth_of {g g2 : Gr} (h : g.pth.2 = 0) (hv : g2.vE = 0) (hp : g2.cs.Perm g.cs) : g2.co = g.co := by
  obtain ⟨h1, h2, h3⟩ := pth_cs h
  have hO := Gr.ok h1
  have hO2 := Gr.ok hv
  have e1 : (g2.pv 0).length = (g.pv 0).length := by
    have := hp.length_eq
    unfold Gr.cs at this
    rwa [List.length_map, List.length_map] at this
  have w1 := wy_len hO (q := 0) (Int.le_refl 0) (by have := hO.n1; omega)
  have w2 := wy_len hO2 (q := 0) (Int.le_refl 0) (by have := hO2.n1; omega)
  rw [e1, ← w1] at w2
  have e2 : g2.pth.1 = g2.pv 0 := by
    unfold Gr.pth
    rw [if_neg (by omega), if_neg (by omega)]
  unfold Gr.co
  rw [e2, h3]
  exact srt_perm hp
theorem co_none {g : Gr} (h : g.pth.2 = 0) (hw : g.wy 0 = 0) : g.co = [] := by
  obtain ⟨h1, h2, h3⟩ := pth_cs h
  have hO := Gr.ok h1
  have w1 := wy_len hO (q := 0) (Int.le_refl 0) (by have := hO.n1; omega)
  have hc : (4611686018427387905 : Int) = capM := rfl
  have e : g.pv 0 = [] := List.eq_nil_of_length_eq_zero (by rw [hw] at w1; have := hc; omega)
  unfold Gr.co
  rw [h3, e]
  exact List.eq_nil_of_length_eq_zero (by rw [srt_len]; rfl)
end Go.Proofs.Ytgdfjblfpeedjaa
/- Plain mathematics of the stable sort of the library: orders, segments, merges. Nothing here speaks of the program. -/
namespace Go.Proofs.Ytgdfjblfpeedjaa
set_option linter.unusedVariables false
set_option linter.unusedSimpArgs false

/-- By key, and by the number where the keys are equal. -/
def RL (key : Int → Int) (x y : Int) : Prop := key x < key y ∨ (key x = key y ∧ x < y)
theorem RL.le {key : Int → Int} {x y : Int} (h : RL key x y) : key x ≤ key y := by rcases h with h | h <;> omega
theorem RL.trans {key : Int → Int} {x y z : Int} (h : RL key x y) (h2 : RL key y z) : RL key x z := by
  rcases h with h | h <;> rcases h2 with h2 | h2
  · exact .inl (by omega)
  · exact .inl (by omega)
  · exact .inl (by omega)
  · exact .inr (by omega)
theorem RL.asymm {key : Int → Int} {x y : Int} (h : RL key x y) (h2 : RL key y x) : False := by
  rcases h with h | h <;> rcases h2 with h2 | h2 <;> omega
/-- Behind its left part, which comes from ahead, an element follows that is not less. -/
theorem RL.of {key : Int → Int} {x y : Int} (h : x < y) (h2 : ¬ key y < key x) : RL key x y := by
  by_cases e : key x = key y
  · exact .inr ⟨e, h⟩
  · exact .inl (by omega)
theorem seg1 {P X T : List Int} {i : Nat} (h : i < X.length) : (P ++ X ++ T).getD (P.length + i) 0 = X.getD i 0 := by
  rw [List.getD_eq_getElem?_getD, List.getD_eq_getElem?_getD, List.append_assoc, List.getElem?_append_right (by omega), Nat.add_sub_cancel_left, List.getElem?_append_left h]
theorem seg2 {P X Y T : List Int} {i : Nat} (h : i < Y.length) : (P ++ X ++ (Y ++ T)).getD (P.length + X.length + i) 0 = Y.getD i 0 := by
  rw [List.getD_eq_getElem?_getD, List.getD_eq_getElem?_getD, List.getElem?_append_right (by rw [List.length_append]; omega), List.length_append, Nat.add_sub_cancel_left, List.getElem?_append_left h]
theorem pw_get {key : Int → Int} {X : List Int} (h : X.Pairwise (RL key)) {i j : Nat} (hij : i < j) (hj : j < X.length) : RL key (X.getD i 0) (X.getD j 0) := by
  have := List.pairwise_iff_getElem.1 h i j (by omega) hj hij
  rwa [List.getD_eq_getElem?_getD, List.getD_eq_getElem?_getD, List.getElem?_eq_getElem (by omega), List.getElem?_eq_getElem hj]
theorem pw_le {key : Int → Int} {X : List Int} (h : X.Pairwise (RL key)) {i j : Nat} (hij : i ≤ j) (hj : j < X.length) : key (X.getD i 0) ≤ key (X.getD j 0) := by
  by_cases e : i = j
  · subst e; omega
  · exact (pw_get h (by omega) hj).le
theorem getD_mem {X : List Int} {i : Nat} (h : i < X.length) : X.getD i 0 ∈ X := by
  rw [List.getD_eq_getElem?_getD, List.getElem?_eq_getElem h]; exact List.getElem_mem h
theorem in_take {X : List Int} {k : Nat} {x : Int} (h : x ∈ X.take k) : ∃ i, i < k ∧ i < X.length ∧ X.getD i 0 = x := by
  obtain ⟨i, hi, e⟩ := List.mem_iff_getElem.1 h
  rw [List.length_take] at hi
  refine ⟨i, by omega, by omega, ?_⟩
  rw [List.getD_eq_getElem?_getD, List.getElem?_eq_getElem (by omega), ← e, List.getElem_take]; rfl
theorem in_drop {X : List Int} {k : Nat} {x : Int} (h : x ∈ X.drop k) : ∃ i, k ≤ i ∧ i < X.length ∧ X.getD i 0 = x := by
  obtain ⟨i, hi, e⟩ := List.mem_iff_getElem.1 h
  rw [List.length_drop] at hi
  refine ⟨k + i, by omega, by omega, ?_⟩
  rw [List.getD_eq_getElem?_getD, List.getElem?_eq_getElem (by omega), ← e, List.getElem_drop]; rfl
/-- What a merge of X and Y is. -/
def Mrg (key : Int → Int) (X Y Z : List Int) : Prop := Z.Perm (X ++ Y) ∧ Z.Pairwise (RL key)
theorem Mrg.len {key : Int → Int} {X Y Z : List Int} (h : Mrg key X Y Z) : Z.length = X.length + Y.length := by
  rw [h.1.length_eq, List.length_append]
theorem mrg_right {key : Int → Int} {Y : List Int} (h : Y.Pairwise (RL key)) : Mrg key [] Y Y := ⟨List.Perm.refl _, h⟩
theorem mrg_left {key : Int → Int} {X : List Int} (h : X.Pairwise (RL key)) : Mrg key X [] X := ⟨by rw [List.append_nil], h⟩
/-- One element into a sorted list behind it. -/
theorem mrg_one {key : Int → Int} {x : Int} {Y : List Int} {k : Nat} (hY : Y.Pairwise (RL key)) (hx : ∀ y ∈ Y, x < y) (hk : k ≤ Y.length) (h1 : ∀ i, i < k → key (Y.getD i 0) < key x) (h2 : ∀ i, k ≤ i → i < Y.length → ¬ key (Y.getD i 0) < key x) :
    Mrg key [x] Y (Y.take k ++ x :: Y.drop k) := by
  constructor
  · refine List.perm_middle.trans ?_
    rw [List.take_append_drop]
    exact List.Perm.refl (x :: Y)
  · rw [← List.take_append_drop k Y] at hY
    obtain ⟨p1, p2, p3⟩ := List.pairwise_append.1 hY
    refine List.pairwise_append.2 ⟨p1, List.pairwise_cons.2 ⟨fun y hy => ?_, p2⟩, fun a ha b hb => ?_⟩
    · obtain ⟨i, i1, i2, rfl⟩ := in_drop hy
      exact RL.of (hx _ (getD_mem i2)) (h2 i i1 i2)
    · rcases List.mem_cons.1 hb with rfl | hb
      · obtain ⟨i, i1, i2, rfl⟩ := in_take ha
        exact .inl (h1 i i1)
      · exact p3 a ha b hb
/-- One element into a sorted list ahead of it. -/
theorem mrg_last {key : Int → Int} {y : Int} {X : List Int} {k : Nat} (hX : X.Pairwise (RL key)) (hy : ∀ x ∈ X, x < y) (hk : k ≤ X.length) (h1 : ∀ i, i < k → ¬ key y < key (X.getD i 0)) (h2 : ∀ i, k ≤ i → i < X.length → key y < key (X.getD i 0)) :
    Mrg key X [y] (X.take k ++ y :: X.drop k) := by
  constructor
  · refine List.perm_middle.trans ?_
    rw [List.take_append_drop]
    exact (List.perm_append_comm (l₁ := [y]) (l₂ := X))
  · rw [← List.take_append_drop k X] at hX
    obtain ⟨p1, p2, p3⟩ := List.pairwise_append.1 hX
    refine List.pairwise_append.2 ⟨p1, List.pairwise_cons.2 ⟨fun x hx => ?_, p2⟩, fun a ha b hb => ?_⟩
    · obtain ⟨i, i1, i2, rfl⟩ := in_drop hx
      exact .inl (h2 i i1 i2)
    · rcases List.mem_cons.1 hb with rfl | hb
      · obtain ⟨i, i1, i2, rfl⟩ := in_take ha
        exact RL.of (hy _ (getD_mem i2)) (h1 i i1)
      · exact p3 a ha b hb
/-- Two merges, one behind the other. -/
theorem mrg_two {key : Int → Int} {X Y Z1 Z2 : List Int} {s t : Nat} (hX : X.Pairwise (RL key)) (hY : Y.Pairwise (RL key)) (hlt : ∀ x ∈ X, ∀ y ∈ Y, x < y) (hs : s ≤ X.length) (ht : t ≤ Y.length)
    (hA : 0 < s → t < Y.length → ¬ key (Y.getD t 0) < key (X.getD (s - 1) 0)) (hB : 0 < t → s < X.length → key (Y.getD (t - 1) 0) < key (X.getD s 0))
    (h1 : Mrg key (X.take s) (Y.take t) Z1) (h2 : Mrg key (X.drop s) (Y.drop t) Z2) : Mrg key X Y (Z1 ++ Z2) := by
  have aX : ∀ a ∈ X.take s, ∀ b ∈ X.drop s, RL key a b := by
    rw [← List.take_append_drop s X] at hX
    exact (List.pairwise_append.1 hX).2.2
  have aY : ∀ a ∈ Y.take t, ∀ b ∈ Y.drop t, RL key a b := by
    rw [← List.take_append_drop t Y] at hY
    exact (List.pairwise_append.1 hY).2.2
  have aA : ∀ a ∈ X.take s, ∀ b ∈ Y.drop t, RL key a b := fun a ha b hb => by
    have hab := hlt a (List.mem_of_mem_take ha) b (List.mem_of_mem_drop hb)
    obtain ⟨i, i1, i2, rfl⟩ := in_take ha
    obtain ⟨j, j1, j2, rfl⟩ := in_drop hb
    have k1 := hA (by omega) (by omega)
    have k2 := pw_le hX (show i ≤ s - 1 by omega) (by omega)
    have k3 := pw_le hY (show t ≤ j from j1) j2
    exact RL.of hab (by omega)
  have aB : ∀ a ∈ Y.take t, ∀ b ∈ X.drop s, RL key a b := fun a ha b hb => by
    obtain ⟨i, i1, i2, rfl⟩ := in_take ha
    obtain ⟨j, j1, j2, rfl⟩ := in_drop hb
    have k1 := hB (by omega) (by omega)
    have k2 := pw_le hY (show i ≤ t - 1 by omega) (by omega)
    have k3 := pw_le hX (show s ≤ j from j1) j2
    exact .inl (by omega)
  constructor
  · refine (h1.1.append h2.1).trans ?_
    have e1 : (X.take s ++ Y.take t ++ (X.drop s ++ Y.drop t)).Perm (X.take s ++ X.drop s ++ (Y.take t ++ Y.drop t)) := by
      rw [List.append_assoc, List.append_assoc]
      refine List.Perm.append_left _ ?_
      rw [← List.append_assoc, ← List.append_assoc]
      exact List.Perm.append_right _ List.perm_append_comm
    rw [List.take_append_drop, List.take_append_drop] at e1
    exact e1
  · refine List.pairwise_append.2 ⟨h1.2, h2.2, fun a ha b hb => ?_⟩
    rcases List.mem_append.1 (h1.1.mem_iff.1 ha) with h | h <;> rcases List.mem_append.1 (h2.1.mem_iff.1 hb) with h' | h'
    · exact aX a h b h'
    · exact aA a h b h'
    · exact aB a h b h'
    · exact aY a h b h'
/-! ### Swaps -/
def swp (L : List Int) (i j : Nat) : List Int := (L.set i (L.getD j 0)).set j (L.getD i 0)
theorem swp_len (L : List Int) (i j : Nat) : (swp L i j).length = L.length := by unfold swp; rw [List.length_set, List.length_set]
theorem set_mid {P T : List Int} (x y : Int) : (P ++ x :: T).set P.length y = P ++ y :: T := by
  rw [List.set_append_right _ _ (Nat.le_refl _), Nat.sub_self]; rfl
theorem get_mid {P T : List Int} (x : Int) : (P ++ x :: T).getD P.length 0 = x := by
  rw [List.getD_eq_getElem?_getD, List.getElem?_append_right (Nat.le_refl _), Nat.sub_self]; rfl
theorem swp_mid {P M T : List Int} (x y : Int) : swp (P ++ x :: (M ++ y :: T)) P.length (P.length + 1 + M.length) = P ++ y :: (M ++ x :: T) := by
  have e : ∀ z, P ++ z :: (M ++ y :: T) = (P ++ z :: M) ++ y :: T := fun z => by rw [List.append_assoc]; rfl
  have l : ∀ z, (P ++ z :: M).length = P.length + 1 + M.length := fun z => by rw [List.length_append, List.length_cons]; omega
  have g1 : (P ++ x :: (M ++ y :: T)).getD (P.length + 1 + M.length) 0 = y := by rw [e, ← l x, get_mid]
  unfold swp
  rw [g1, get_mid, set_mid, e, ← l y, set_mid, List.append_assoc]; rfl
theorem swp_next {P T : List Int} (x y : Int) : swp (P ++ x :: y :: T) P.length (P.length + 1) = P ++ y :: x :: T := swp_mid (M := []) x y
theorem swp_comm {L : List Int} {i j : Nat} : swp L i j = swp L j i := by
  unfold swp
  by_cases e : i = j
  · subst e; rfl
  · rw [List.set_comm _ _ e]
theorem swp_back {P T : List Int} (x y : Int) : swp (P ++ x :: y :: T) (P.length + 1) P.length = P ++ y :: x :: T := by rw [swp_comm]; exact swp_next x y
/-- So many of two ranges are exchanged. -/
def swR (P X M Y T : List Int) (k : Nat) : List Int := P ++ (Y.take k ++ X.drop k) ++ M ++ (X.take k ++ Y.drop k) ++ T
theorem swR_zero (P X M Y T : List Int) : swR P X M Y T 0 = P ++ X ++ M ++ Y ++ T := by unfold swR; simp
theorem swR_all {P X M Y T : List Int} {k : Nat} (hx : X.length = k) (hy : Y.length = k) : swR P X M Y T k = P ++ Y ++ M ++ X ++ T := by
  unfold swR
  rw [List.take_of_length_le (by omega), List.take_of_length_le (by omega), List.drop_of_length_le (by omega), List.drop_of_length_le (by omega), List.append_nil, List.append_nil]
theorem take_cons_drop {X : List Int} {k : Nat} (h : k < X.length) : X.drop k = X.getD k 0 :: X.drop (k + 1) := by
  rw [List.drop_eq_getElem_cons h, List.getD_eq_getElem?_getD, List.getElem?_eq_getElem h]; rfl
theorem take_snoc {X : List Int} {k : Nat} (h : k < X.length) : X.take (k + 1) = X.take k ++ [X.getD k 0] := by
  rw [List.take_add_one, List.getElem?_eq_getElem h, List.getD_eq_getElem?_getD, List.getElem?_eq_getElem h]; rfl
theorem swR_step {P X M Y T : List Int} {k n : Nat} (hx : X.length = n) (hy : Y.length = n) (hk : k < n) :
    swp (swR P X M Y T k) (P.length + k) (P.length + n + M.length + k) = swR P X M Y T (k + 1) := by
  have e1 : swR P X M Y T k = (P ++ Y.take k) ++ X.getD k 0 :: ((X.drop (k + 1) ++ M ++ X.take k) ++ Y.getD k 0 :: (Y.drop (k + 1) ++ T)) := by
    unfold swR
    rw [take_cons_drop (X := X) (by omega), take_cons_drop (X := Y) (by omega)]
    simp only [List.append_assoc, List.cons_append]
  have e2 : swR P X M Y T (k + 1) = (P ++ Y.take k) ++ Y.getD k 0 :: ((X.drop (k + 1) ++ M ++ X.take k) ++ X.getD k 0 :: (Y.drop (k + 1) ++ T)) := by
    unfold swR
    rw [take_snoc (X := X) (by omega), take_snoc (X := Y) (by omega)]
    simp only [List.append_assoc, List.cons_append, List.nil_append]
  have l1 : (P ++ Y.take k).length = P.length + k := by rw [List.length_append, List.length_take]; omega
  have l2 : (P ++ Y.take k).length + 1 + (X.drop (k + 1) ++ M ++ X.take k).length = P.length + n + M.length + k := by
    rw [l1]; simp only [List.length_append, List.length_drop, List.length_take]; omega
  have h := swp_mid (P := P ++ Y.take k) (M := X.drop (k + 1) ++ M ++ X.take k) (T := Y.drop (k + 1) ++ T) (X.getD k 0) (Y.getD k 0)
  rw [l2, l1] at h
  rw [e1, e2]
  exact h
theorem swR_len {P X M Y T : List Int} {k n : Nat} (hx : X.length = n) (hy : Y.length = n) (hk : k ≤ n) : (swR P X M Y T k).length = P.length + n + M.length + n + T.length := by
  unfold swR
  simp only [List.length_append, List.length_drop, List.length_take]
  omega
/-- An element moves towards the end: so many steps. -/
def mvR (P : List Int) (x : Int) (Y : List Int) (k : Nat) : List Int := P ++ Y.take k ++ x :: Y.drop k
theorem mvR_step {P Y : List Int} {x : Int} {k : Nat} (hk : k < Y.length) : swp (mvR P x Y k) (P.length + k) (P.length + k + 1) = mvR P x Y (k + 1) := by
  have l1 : (P ++ Y.take k).length = P.length + k := by rw [List.length_append, List.length_take]; omega
  unfold mvR
  rw [take_cons_drop hk, ← l1, swp_next, take_snoc hk]
  simp only [List.append_assoc, List.cons_append, List.nil_append]
theorem mvR_back {P Y : List Int} {x : Int} {k : Nat} (hk : k < Y.length) : swp (mvR P x Y (k + 1)) (P.length + k + 1) (P.length + k) = mvR P x Y k := by
  have l1 : (P ++ Y.take k).length = P.length + k := by rw [List.length_append, List.length_take]; omega
  unfold mvR
  rw [take_snoc hk, take_cons_drop hk, ← l1]
  rw [show P ++ (Y.take k ++ [Y.getD k 0]) ++ x :: Y.drop (k + 1) = (P ++ Y.take k) ++ Y.getD k 0 :: x :: Y.drop (k + 1) by simp only [List.append_assoc, List.cons_append, List.nil_append]]
  rw [swp_back]
theorem mvR_len {P Y : List Int} {x : Int} {k : Nat} : (mvR P x Y k).length = P.length + Y.length + 1 := by
  unfold mvR
  simp only [List.length_append, List.length_take, List.length_cons, List.length_drop]
  omega
theorem mvR_all (P Y T : List Int) (x : Int) : mvR P x (Y ++ T) Y.length = P ++ Y ++ x :: T := by
  unfold mvR
  rw [List.take_left, List.drop_left]
theorem mvR_zero (P Y : List Int) (x : Int) : mvR P x Y 0 = P ++ x :: Y := by unfold mvR; simp
end Go.Proofs.Ytgdfjblfpeedjaa
/- Plain mathematics: how many ways of each cost there are, arc by arc. Nothing here speaks of the program. -/
namespace Go.Proofs.Ytgdfjblfpeedjaa
set_option linter.unusedVariables false
set_option linter.unusedSimpArgs false

/-- What counts as too many. -/
def bigC : Int := 4611686018427387905
/-- The ways to the end by arcs of a list. -/
def wsP (g : Gr) : List Int → Int → List (List Int)
  | [], v => if v = g.n - 1 then [[]] else []
  | i :: l, v => if v = (arc g.rs i).f then wsP g l v ++ (wsP g l (arc g.rs i).t).map (List.cons i) else wsP g l v
/-- How many of them have a cost, as far as numbers count. -/
def fwC (g : Gr) : List Int → Int → Int → Int
  | [], v, x => if v = g.n - 1 ∧ x = 0 then 1 else 0
  | i :: l, v, x => if v = (arc g.rs i).f then min (fwC g l v x + fwC g l (arc g.rs i).t (x - (arc g.rs i).c)) bigC else fwC g l v x
theorem sumP_cons (rs : List Ar) (i : Int) (p : List Int) : sumP rs (i :: p) = (arc rs i).c + sumP rs p := by simp [sumP]
def hasC (g : Gr) (x : Int) (p : List Int) : Bool := decide (sumP g.rs p = x)
theorem hasC_cons (g : Gr) (i x : Int) (p : List Int) : hasC g x (i :: p) = hasC g (x - (arc g.rs i).c) p := by
  unfold hasC
  rw [sumP_cons]
  exact decide_eq_decide.2 (by omega)
theorem count_cons (g : Gr) (i x : Int) (L : List (List Int)) : (L.map (List.cons i)).countP (hasC g x) = L.countP (hasC g (x - (arc g.rs i).c)) := by
  rw [List.countP_map]
  congr 1
  funext p
  exact hasC_cons g i x p
theorem fwC_eq (g : Gr) : ∀ (l : List Int) (v x : Int), fwC g l v x = min (((wsP g l v).countP (hasC g x) : Nat) : Int) bigC
  | [], v, x => by
    unfold fwC wsP bigC
    by_cases h : v = g.n - 1
    · rw [if_pos h]
      by_cases hx : x = 0
      · subst hx
        rw [if_pos ⟨h, rfl⟩]
        rfl
      · rw [if_neg (fun e => hx e.2), List.countP_cons, List.countP_nil, if_neg (by unfold hasC; rw [decide_eq_true_iff]; intro e; exact hx e.symm)]
        rfl
    · rw [if_neg h, if_neg (fun e => h e.1)]; rfl
  | i :: l, v, x => by
    unfold fwC wsP
    by_cases h : v = (arc g.rs i).f
    · rw [if_pos h, if_pos h, fwC_eq g l, fwC_eq g l, List.countP_append, count_cons]
      unfold bigC
      omega
    · rw [if_neg h, if_neg h, fwC_eq g l]
theorem walk_from {g : Gr} (h : g.Ok) : ∀ (p : List Int) (v r : Int), walkP g.rs v p = some r → ∀ j ∈ p, v ≤ (arc g.rs j).f
  | [], v, r, _, j, hj => by cases hj
  | i :: p, v, r, hw, j, hj => by
    rw [walkP_cons] at hw
    by_cases hc : 0 ≤ i ∧ i < (g.rs.length : Int) ∧ (arc g.rs i).f = v
    · rw [if_pos hc] at hw
      have ha := h.arc _ (arc_mem hc.1 hc.2.1)
      rcases List.mem_cons.1 hj with rfl | hj
      · omega
      · have := walk_from h p _ r hw j hj
        omega
    · rw [if_neg hc] at hw; cases hw
def keyF (g : Gr) (i : Int) : Int := (arc g.rs i).f
theorem not_on {g : Gr} (h : g.Ok) {p : List Int} {v r i : Int} {l : List Int} (hw : walkP g.rs v p = some r) (hp : ∀ j ∈ p, j ∈ i :: l) (hi : (arc g.rs i).f < v) : ∀ j ∈ p, j ∈ l := fun j hj => by
  rcases List.mem_cons.1 (hp j hj) with rfl | h1
  · have := walk_from h p v r hw j hj
    omega
  · exact h1
theorem wsP_mem {g : Gr} (h : g.Ok) : ∀ (l : List Int), l.Pairwise (RL (keyF g)) → (∀ i ∈ l, 0 ≤ i ∧ i < (g.rs.length : Int)) → ∀ (v : Int) (p : List Int), p ∈ wsP g l v ↔ walkP g.rs v p = some (g.n - 1) ∧ ∀ j ∈ p, j ∈ l
  | [], _, _, v, p => by
    unfold wsP
    constructor
    · intro hp
      split at hp
      · rename_i e
        rw [List.mem_singleton.1 hp, e]
        exact ⟨rfl, fun j hj => by cases hj⟩
      · cases hp
    · rintro ⟨hw, hp⟩
      cases p with
      | nil =>
        have e : some v = some (g.n - 1) := hw
        injection e with e
        rw [if_pos e]; exact List.mem_singleton.2 rfl
      | cons j p => exact absurd (hp j (List.mem_cons_self ..)) (by simp)
  | i :: l, hs, hi, v, p => by
    obtain ⟨s1, s2⟩ := List.pairwise_cons.1 hs
    have ih := wsP_mem h l s2 fun j hj => hi j (List.mem_cons_of_mem _ hj)
    have hii := hi i (List.mem_cons_self ..)
    have hai := h.arc _ (arc_mem hii.1 hii.2)
    have up : ∀ {q : List Int}, q ∈ wsP g l v → q ∈ wsP g (i :: l) v := fun {q} hq => by
      unfold wsP
      split
      · exact List.mem_append_left _ hq
      · exact hq
    constructor
    · intro hp
      unfold wsP at hp
      split at hp
      · rename_i e
        rcases List.mem_append.1 hp with hp | hp
        · obtain ⟨h1, h2⟩ := (ih v p).1 hp
          exact ⟨h1, fun j hj => List.mem_cons_of_mem _ (h2 j hj)⟩
        · obtain ⟨q, hq, rfl⟩ := List.mem_map.1 hp
          obtain ⟨h1, h2⟩ := (ih _ q).1 hq
          refine ⟨?_, fun j hj => ?_⟩
          · show walkP g.rs v (i :: q) = _
            rw [walkP_cons, if_pos ⟨hii.1, hii.2, e.symm⟩]; exact h1
          · rcases List.mem_cons.1 hj with rfl | hj
            · exact List.mem_cons_self ..
            · exact List.mem_cons_of_mem _ (h2 j hj)
      · obtain ⟨h1, h2⟩ := (ih v p).1 hp
        exact ⟨h1, fun j hj => List.mem_cons_of_mem _ (h2 j hj)⟩
    · rintro ⟨hw, hp⟩
      cases p with
      | nil => exact up ((ih v []).2 ⟨hw, fun j hj => by cases hj⟩)
      | cons j q =>
        have hw0 := hw
        rw [walkP_cons] at hw
        by_cases hc : 0 ≤ j ∧ j < (g.rs.length : Int) ∧ (arc g.rs j).f = v
        · rw [if_pos hc] at hw
          have haj := h.arc _ (arc_mem hc.1 hc.2.1)
          have hq : ∀ k ∈ q, k ∈ i :: l := fun k hk => hp k (List.mem_cons_of_mem _ hk)
          rcases List.mem_cons.1 (hp j (List.mem_cons_self ..)) with e | hj
          · subst e
            unfold wsP
            rw [if_pos hc.2.2.symm]
            refine List.mem_append_right _ (List.mem_map.2 ⟨q, (ih _ q).2 ⟨hw, not_on h hw hq (by omega)⟩, rfl⟩)
          · have hk := (s1 j hj).le
            unfold keyF at hk
            refine up ((ih v (j :: q)).2 ⟨hw0, fun k hk2 => ?_⟩)
            rcases List.mem_cons.1 hk2 with rfl | hk2
            · exact hj
            · exact not_on h hw hq (by omega) k hk2
        · rw [if_neg hc] at hw; cases hw
theorem wsP_nodup {g : Gr} (h : g.Ok) : ∀ (l : List Int), l.Pairwise (RL (keyF g)) → (∀ i ∈ l, 0 ≤ i ∧ i < (g.rs.length : Int)) → ∀ (v : Int), (wsP g l v).Nodup
  | [], _, _, v => by
    unfold wsP
    split
    · exact List.nodup_cons.2 ⟨by simp, List.nodup_nil⟩
    · exact List.nodup_nil
  | i :: l, hs, hi, v => by
    obtain ⟨s1, s2⟩ := List.pairwise_cons.1 hs
    have hi2 : ∀ j ∈ l, 0 ≤ j ∧ j < (g.rs.length : Int) := fun j hj => hi j (List.mem_cons_of_mem _ hj)
    have ih := wsP_nodup h l s2 hi2
    unfold wsP
    split
    · refine List.nodup_append.2 ⟨ih v, List.pairwise_map.2 (List.Pairwise.imp ?_ (ih _)), ?_⟩
      · intro a b hab e
        injection e with _ e
        exact hab e
      · intro a ha b hb e
        obtain ⟨q, _, rfl⟩ := List.mem_map.1 hb
        subst e
        have := ((wsP_mem h l s2 hi2 v _).1 ha).2 i (List.mem_cons_self ..)
        exact RL.asymm (s1 i this) (s1 i this)
    · exact ih v
theorem wsP_perm {g : Gr} (h : g.Ok) {Z : List Int} (hs : Z.Pairwise (RL (keyF g))) (hz : ∀ i, i ∈ Z ↔ 0 ≤ i ∧ i < (g.rs.length : Int)) : ((wsP g Z 0).map (sumP g.rs)).Perm g.cs := by
  refine List.Perm.map _ ?_
  refine (List.perm_ext_iff_of_nodup (wsP_nodup h Z hs (fun i hi => (hz i).1 hi) 0) (pv_nd h)).2 fun p => ?_
  rw [wsP_mem h Z hs (fun i hi => (hz i).1 hi), pv_mem h]
  refine ⟨fun e => e.1, fun e => ⟨e, fun j hj => (hz j).2 (walk_ix p 0 e j hj)⟩⟩
where
  walk_ix {g : Gr} : ∀ (p : List Int) (v : Int) {r : Int}, walkP g.rs v p = some r → ∀ j ∈ p, 0 ≤ j ∧ j < (g.rs.length : Int)
    | [], _, _, _, _, hj => by cases hj
    | i :: p, v, r, hw, j, hj => by
      rw [walkP_cons] at hw
      by_cases hc : 0 ≤ i ∧ i < (g.rs.length : Int) ∧ (arc g.rs i).f = v
      · rw [if_pos hc] at hw
        rcases List.mem_cons.1 hj with rfl | hj
        · exact ⟨hc.1, hc.2.1⟩
        · exact walk_ix p _ hw j hj
      · rw [if_neg hc] at hw; cases hw
/-- How many paths cost at most so much. -/
def Gr.wN (g : Gr) (m : Int) : Int := min ((g.cs.countP (fun s => decide (s ≤ m)) : Nat) : Int) bigC
theorem wN_perm {g g2 : Gr} (h : g2.cs.Perm g.cs) (m : Int) : g2.wN m = g.wN m := by
  unfold Gr.wN
  rw [h.countP_eq]
/-- How many ways of a cost a spread holds. -/
def sv (lo : Int) (U : List Int) (x : Int) : Int := if lo ≤ x then U.getD (x - lo).toNat 0 else 0
def capU (U : List Int) : Int := U.foldl (fun n x => min (n + x) 4611686018427387905) 0
theorem count_split (L : List Int) (a b : Int) : L.countP (fun s => decide (a ≤ s ∧ s < b + 1)) = L.countP (fun s => decide (a ≤ s ∧ s < b)) + L.countP (fun s => decide (s = b ∧ a ≤ b)) := by
  induction L with
  | nil => rfl
  | cons y r ih =>
    rw [List.countP_cons, List.countP_cons, List.countP_cons, ih]
    simp only [decide_eq_true_eq]
    split <;> split <;> split <;> omega
theorem capU_take {L : List Int} {lo : Int} {U : List Int} (hU : ∀ k, k < U.length → U.getD k 0 = min ((L.countP (fun s => decide (s = lo + k)) : Nat) : Int) bigC) : ∀ k, k ≤ U.length → capU (U.take k) = min ((L.countP (fun s => decide (lo ≤ s ∧ s < lo + k)) : Nat) : Int) bigC
  | 0, _ => by
    have e : L.countP (fun s => decide (lo ≤ s ∧ s < lo + ((0 : Nat) : Int))) = 0 := by
      rw [List.countP_eq_zero]
      intro s _
      rw [decide_eq_true_iff]
      omega
    rw [e]
    show (0 : Int) = min ((0 : Nat) : Int) 4611686018427387905
    omega
  | k + 1, hk => by
    have ih := capU_take hU k (by omega)
    have hx := hU k (by omega)
    have e1 : U.take (k + 1) = U.take k ++ [U.getD k 0] := by
      rw [List.take_add_one, List.getD_eq_getElem?_getD, List.getElem?_eq_getElem (by omega)]; rfl
    have e2 : capU (U.take (k + 1)) = min (capU (U.take k) + U.getD k 0) 4611686018427387905 := by
      rw [e1]; unfold capU; rw [List.foldl_append]; rfl
    have e3 := count_split L lo (lo + k)
    have e4 : L.countP (fun s => decide (s = lo + (k : Int) ∧ lo ≤ lo + (k : Int))) = L.countP (fun s => decide (s = lo + (k : Int))) := by
      congr 1
      funext s
      exact decide_eq_decide.2 (by omega)
    rw [e4] at e3
    rw [e2, ih, hx, show lo + ((k + 1 : Nat) : Int) = lo + (k : Int) + 1 by omega, e3]
    unfold bigC
    omega
/-- The sum of a spread whose numbers are those of the ways. -/
theorem capU_all {L : List Int} {lo m : Int} {U : List Int} (hU : ∀ x, x ≤ m → sv lo U x = min ((L.countP (fun s => decide (s = x)) : Nat) : Int) bigC) (hm : U ≠ [] → lo + U.length ≤ m + 1) : capU U = min ((L.countP (fun s => decide (s ≤ m)) : Nat) : Int) bigC := by
  have hz : ∀ s ∈ L, s ≤ m → lo ≤ s ∧ s < lo + U.length := by
    intro s hs hsm
    have h1 := hU s hsm
    have h2 : 0 < L.countP (fun y => decide (y = s)) := List.countP_pos_iff.2 ⟨s, hs, by simp⟩
    have h3 : ¬ sv lo U s = 0 := by rw [h1]; unfold bigC; omega
    unfold sv at h3
    by_cases hlo : lo ≤ s
    · rw [if_pos hlo] at h3
      refine ⟨hlo, ?_⟩
      by_cases hlen : (s - lo).toNat < U.length
      · omega
      · exact absurd (by rw [List.getD_eq_getElem?_getD, List.getElem?_eq_none (by omega)]; rfl) h3
    · rw [if_neg hlo] at h3; exact absurd rfl h3
  have h1 := capU_take (L := L) (lo := lo) (U := U) (fun k hk => by
    have hne : U ≠ [] := fun e => by rw [e] at hk; simp at hk
    have h2 := hU (lo + k) (by have := hm hne; omega)
    unfold sv at h2
    rw [if_pos (by omega), show (lo + (k : Int) - lo).toNat = k by omega] at h2
    exact h2) U.length (Nat.le_refl _)
  rw [List.take_length] at h1
  rw [h1]
  congr 2
  refine List.countP_congr fun s hs => ?_
  rw [decide_eq_true_iff, decide_eq_true_iff]
  constructor
  · rintro ⟨h2, h3⟩
    have hne : U ≠ [] := fun e => by rw [e] at h3; simp at h3; omega
    have := hm hne
    omega
  · exact fun h2 => hz s hs h2
end Go.Proofs.Ytgdfjblfpeedjaa
/- Plain mathematics: spreads, and what adding one to another makes of them. Nothing here speaks of the program. -/
namespace Go.Proofs.Ytgdfjblfpeedjaa
set_option linter.unusedVariables false
set_option linter.unusedSimpArgs false

def addK (U : List Int) (s : Nat) (V : List Int) (k : Nat) : List Int := (List.range k).foldl (fun r q => r.set (s + q) (min (r.getD (s + q) 0 + V.getD q 0) bigC)) U
theorem addK_step (U : List Int) (s : Nat) (V : List Int) (k : Nat) : addK U s V (k + 1) = (addK U s V k).set (s + k) (min ((addK U s V k).getD (s + k) 0 + V.getD k 0) bigC) := by
  unfold addK
  rw [List.range_succ, List.foldl_append]; rfl
theorem addK_len (U : List Int) (s : Nat) (V : List Int) : ∀ k, (addK U s V k).length = U.length
  | 0 => rfl
  | k + 1 => by rw [addK_step, List.length_set, addK_len U s V k]
theorem getD_setI (L : List Int) (i j : Nat) (z : Int) (hi : i < L.length) : (L.set i z).getD j 0 = if j = i then z else L.getD j 0 := by
  rw [List.getD_eq_getElem?_getD, List.getD_eq_getElem?_getD, List.getElem?_set]
  by_cases e : i = j
  · rw [if_pos e, if_pos e.symm, if_pos hi]; rfl
  · rw [if_neg e, if_neg (fun h => e h.symm)]
theorem addK_get (U : List Int) (s : Nat) (V : List Int) : ∀ (k j : Nat), s + k ≤ U.length → (addK U s V k).getD j 0 = if s ≤ j ∧ j < s + k then min (U.getD j 0 + V.getD (j - s) 0) bigC else U.getD j 0
  | 0, j, _ => by rw [if_neg (by omega)]; rfl
  | k + 1, j, h => by
    rw [addK_step, getD_setI _ _ _ _ (by rw [addK_len]; omega), addK_get U s V k j (by omega), addK_get U s V k (s + k) (by omega), if_neg (show ¬ (s ≤ s + k ∧ s + k < s + k) by omega)]
    by_cases e : j = s + k
    · subst e
      rw [if_pos rfl, if_pos (by omega), Nat.add_sub_cancel_left]
    · rw [if_neg e]
      by_cases h2 : s ≤ j ∧ j < s + k
      · rw [if_pos h2, if_pos (by omega)]
      · rw [if_neg h2, if_neg (by omega)]
theorem getD_zeros (U : List Int) (d j : Nat) : (U ++ List.replicate d 0).getD j 0 = U.getD j 0 := by
  rw [List.getD_eq_getElem?_getD, List.getD_eq_getElem?_getD]
  by_cases h : j < U.length
  · rw [List.getElem?_append_left h]
  · rw [List.getElem?_append_right (by omega), List.getElem?_eq_none (show U.length ≤ j by omega), List.getElem?_replicate]
    split <;> rfl
theorem getD_out {U : List Int} {j : Nat} (h : U.length ≤ j) : U.getD j 0 = 0 := by rw [List.getD_eq_getElem?_getD, List.getElem?_eq_none h]; rfl
/-- How many places of the other spread are added. -/
def addN (lo2 : Int) (V : List Int) (c m : Int) : Int := min (V.length : Int) (m - c - lo2 + 1)
/-- What a spread becomes. -/
def addU (lo : Int) (U : List Int) (lo2 : Int) (V : List Int) (c m : Int) : List Int :=
  if addN lo2 V c m ≤ 0 then U else addK (U ++ List.replicate ((c + lo2 - lo).toNat + (addN lo2 V c m).toNat - U.length) 0) (c + lo2 - lo).toNat V (addN lo2 V c m).toNat
structure Sp (lo : Int) (U : List Int) (m : Int) : Prop where
  vals : ∀ j, 0 ≤ U.getD j 0 ∧ U.getD j 0 ≤ bigC
  low : U ≠ [] → 0 ≤ lo ∧ lo + U.length ≤ m + 1
theorem Sp.nil (lo m : Int) : Sp lo [] m := ⟨fun j => by rw [getD_out (Nat.zero_le _)]; exact ⟨Int.le_refl _, by unfold bigC; decide⟩, fun h => absurd rfl h⟩
theorem Sp.sv {lo m : Int} {U : List Int} (h : Sp lo U m) (x : Int) : 0 ≤ sv lo U x ∧ sv lo U x ≤ bigC := by
  unfold Go.Proofs.Ytgdfjblfpeedjaa.sv
  split
  · exact h.vals _
  · exact ⟨Int.le_refl _, by unfold bigC; decide⟩
theorem ne_nil {U : List Int} (h : 0 < U.length) : U ≠ [] := fun e => by rw [e] at h; simp at h
theorem addU_all {lo lo2 c m : Int} {U V : List Int} (hU : Sp lo U m) (hV : Sp lo2 V m) (hc : 0 ≤ c) (hlo : V ≠ [] → 0 ≤ lo ∧ lo ≤ c + lo2) :
    Sp lo (addU lo U lo2 V c m) m ∧ ∀ x, x ≤ m → sv lo (addU lo U lo2 V c m) x = min (sv lo U x + sv lo2 V (x - c)) bigC := by
  have hb : (0 : Int) ≤ bigC := by unfold bigC; decide
  unfold addU
  by_cases hn : addN lo2 V c m ≤ 0
  · rw [if_pos hn]
    refine ⟨hU, fun x hx => ?_⟩
    have h0 : sv lo2 V (x - c) = 0 := by
      unfold sv
      split
      · refine getD_out ?_
        unfold addN at hn
        omega
      · rfl
    have := hU.sv x
    rw [h0]; omega
  · rw [if_neg hn]
    unfold addN at hn ⊢
    obtain ⟨N, hN⟩ : ∃ N : Nat, (N : Int) = min (V.length : Int) (m - c - lo2 + 1) := ⟨(min (V.length : Int) (m - c - lo2 + 1)).toNat, by omega⟩
    rw [← hN] at hn ⊢
    have hVne : V ≠ [] := ne_nil (by omega)
    obtain ⟨l0, l1⟩ := hlo hVne
    obtain ⟨s, hs⟩ : ∃ s : Nat, (s : Int) = c + lo2 - lo := ⟨(c + lo2 - lo).toNat, by omega⟩
    rw [← hs, Int.toNat_natCast, Int.toNat_natCast]
    obtain ⟨U1, hU1⟩ : ∃ U1, U1 = U ++ List.replicate (s + N - U.length) 0 := ⟨_, rfl⟩
    have hl1 : U1.length = max U.length (s + N) := by rw [hU1, List.length_append, List.length_replicate]; omega
    have hg1 : ∀ j, U1.getD j 0 = U.getD j 0 := fun j => by rw [hU1, getD_zeros]
    rw [← hU1]
    have hg : ∀ j, (addK U1 s V N).getD j 0 = if s ≤ j ∧ j < s + N then min (U.getD j 0 + V.getD (j - s) 0) bigC else U.getD j 0 := fun j => by rw [addK_get U1 s V N j (by omega), hg1]
    have hlen : (addK U1 s V N).length = max U.length (s + N) := by rw [addK_len, hl1]
    refine ⟨⟨fun j => ?_, fun _ => ⟨l0, ?_⟩⟩, fun x hx => ?_⟩
    · rw [hg]
      have h1 := hU.vals j
      have h2 := hV.vals (j - s)
      split <;> omega
    · rw [hlen]
      by_cases e : U.length = 0
      · omega
      · have := hU.low (ne_nil (by omega))
        omega
    · have h1 := hU.sv x
      have h2 := hV.sv (x - c)
      unfold sv at h1 h2 ⊢
      by_cases hx0 : lo ≤ x
      · rw [if_pos hx0] at h1 ⊢
        rw [if_pos hx0, hg]
        by_cases hj : s ≤ (x - lo).toNat ∧ (x - lo).toNat < s + N
        · rw [if_pos hj, if_pos (show lo2 ≤ x - c by omega), show (x - lo).toNat - s = (x - c - lo2).toNat by omega]
        · rw [if_neg hj]
          have h3 : (if lo2 ≤ x - c then V.getD (x - c - lo2).toNat 0 else 0) = 0 := by
            split
            · exact getD_out (by omega)
            · rfl
          rw [h3]; omega
      · rw [if_neg hx0, if_neg hx0, if_neg (by omega)]; omega
/-! ### All nodes -/
structure SpInv (g : Gr) (m : Int) (lo : List Int) (N : Nat) (r l : List Int) (U : List (List Int)) : Prop where
  len : U.length = N
  sp : ∀ v : Nat, v < N → Sp (lo.getD v 0) (U.getD v []) m
  val : ∀ v : Nat, v < N → (v = 0 ∨ ∃ i ∈ r, (arc g.rs i).t = (v : Int)) → ∀ x, x ≤ m → sv (lo.getD v 0) (U.getD v []) x = fwC g l v x
theorem getD_setL (L : List (List Int)) (i j : Nat) (z : List Int) (hi : i < L.length) : (L.set i z).getD j [] = if j = i then z else L.getD j [] := by
  rw [List.getD_eq_getElem?_getD, List.getD_eq_getElem?_getD, List.getElem?_set]
  by_cases e : i = j
  · rw [if_pos e, if_pos e.symm, if_pos hi]; rfl
  · rw [if_neg e, if_neg (fun h => e h.symm)]
theorem SpInv.start {g : Gr} {m : Int} {lo : List Int} {N : Nat} {Z : List Int} (hN : g.n = (N : Int)) (h1 : 1 ≤ N) (hm : 0 ≤ m) (hlo : lo.getD (N - 1) 0 = 0) : SpInv g m lo N Z [] ((List.replicate N []).set (N - 1) [1]) := by
  have hg : ∀ v : Nat, v < N → ((List.replicate N ([] : List Int)).set (N - 1) [1]).getD v [] = if v = N - 1 then [1] else [] := fun v hv => by
    rw [getD_setL _ _ _ _ (by rw [List.length_replicate]; omega)]
    split
    · rfl
    · rw [List.getD_eq_getElem?_getD, List.getElem?_replicate, if_pos hv]; rfl
  refine ⟨by rw [List.length_set, List.length_replicate], fun v hv => ?_, fun v hv _ x hx => ?_⟩
  · rw [hg v hv]
    by_cases e : v = N - 1
    · rw [if_pos e, e, hlo]
      refine ⟨fun j => ?_, fun _ => ⟨Int.le_refl _, by show (0 : Int) + ((1 : Nat) : Int) ≤ m + 1; omega⟩⟩
      cases j with
      | zero => exact ⟨by show (0 : Int) ≤ 1; decide, by show (1 : Int) ≤ bigC; unfold bigC; decide⟩
      | succ j => rw [getD_out (by simp)]; exact ⟨Int.le_refl _, by unfold bigC; decide⟩
    · rw [if_neg e]; exact Sp.nil _ _
  · rw [hg v hv]
    unfold fwC
    by_cases e : v = N - 1
    · rw [if_pos e, e, hlo]
      unfold sv
      by_cases hx0 : x = 0
      · subst hx0
        rw [if_pos (Int.le_refl _), if_pos ⟨by omega, rfl⟩]; rfl
      · rw [if_neg (show ¬ (((N - 1 : Nat) : Int) = g.n - 1 ∧ x = 0) from fun h => hx0 h.2)]
        split
        · exact getD_out (U := [1]) (by rw [List.length_singleton]; omega)
        · rfl
    · rw [if_neg e, if_neg (fun h => e (by omega))]
      unfold sv
      split
      · exact getD_out (Nat.zero_le _)
      · rfl
theorem SpInv.step {g : Gr} {m : Int} {lo : List Int} {N : Nat} {r l : List Int} {i : Int} {U : List (List Int)} {f t : Nat} {c : Int} (hI : SpInv g m lo N (r ++ [i]) l U) (ha : arc g.rs i = ⟨f, t, c⟩) (hf : f < t) (ht : t < N) (hc : 0 ≤ c)
    (hlo : 0 ≤ lo.getD t 0 → 0 ≤ lo.getD f 0 ∧ lo.getD f 0 ≤ c + lo.getD t 0) : SpInv g m lo N r (i :: l) (U.set f (addU (lo.getD f 0) (U.getD f []) (lo.getD t 0) (U.getD t []) c m)) := by
  have hsf := hI.sp f (by omega)
  have hst := hI.sp t ht
  obtain ⟨h1, h2⟩ := addU_all hsf hst hc fun hne => hlo (hst.low hne).1
  have hg : ∀ v : Nat, (U.set f (addU (lo.getD f 0) (U.getD f []) (lo.getD t 0) (U.getD t []) c m)).getD v [] = if v = f then addU (lo.getD f 0) (U.getD f []) (lo.getD t 0) (U.getD t []) c m else U.getD v [] := fun v => getD_setL _ _ _ _ (by rw [hI.len]; omega)
  refine ⟨by rw [List.length_set]; exact hI.len, fun v hv => ?_, fun v hv hn x hx => ?_⟩
  · rw [hg]
    split
    · rename_i e; rw [e]; exact h1
    · exact hI.sp v hv
  · have hn2 : v = 0 ∨ ∃ j ∈ r ++ [i], (arc g.rs j).t = (v : Int) := hn.imp id fun ⟨j, hj, e⟩ => ⟨j, List.mem_append_left _ hj, e⟩
    rw [hg]
    unfold fwC
    rw [ha]
    by_cases e : v = f
    · rw [if_pos e, if_pos (by rw [e]), e, h2 x hx]
      have k1 := hI.val f (by omega) (by rw [← e]; exact hn2) x hx
      have k2 := hI.val t ht (.inr ⟨i, List.mem_append_right _ (List.mem_singleton.2 rfl), by rw [ha]⟩) (x - c) (by omega)
      rw [k1, k2]
    · rw [if_neg e, if_neg (by show ¬ (v : Int) = (f : Int); omega)]
      exact hI.val v hv hn2 x hx
/-- A spread that is not needed any more is dropped. -/
theorem SpInv.drop {g : Gr} {m : Int} {lo : List Int} {N : Nat} {r l : List Int} {U : List (List Int)} {t : Nat} (hI : SpInv g m lo N r l U) (h0 : 0 < t) (ht : t < N) (hr : ∀ j ∈ r, ¬ (arc g.rs j).t = (t : Int)) : SpInv g m lo N r l (U.set t []) := by
  have hg : ∀ v : Nat, (U.set t []).getD v [] = if v = t then [] else U.getD v [] := fun v => getD_setL _ _ _ _ (by rw [hI.len]; exact ht)
  refine ⟨by rw [List.length_set]; exact hI.len, fun v hv => ?_, fun v hv hn x hx => ?_⟩
  · rw [hg]
    split
    · exact Sp.nil _ _
    · exact hI.sp v hv
  · rw [hg]
    by_cases e : v = t
    · exfalso
      rcases hn with h | ⟨j, hj, h⟩
      · omega
      · exact hr j hj (by rw [h, e])
    · rw [if_neg e]; exact hI.val v hv hn x hx
theorem SpInv.done {g : Gr} (h : g.Ok) {m : Int} {lo : List Int} {N : Nat} {Z : List Int} {U : List (List Int)} (hN : 1 ≤ N) (hs : Z.Pairwise (RL (keyF g))) (hz : ∀ i, i ∈ Z ↔ 0 ≤ i ∧ i < (g.rs.length : Int)) (hI : SpInv g m lo N [] Z U) : capU (U.getD 0 []) = g.wN m := by
  have h1 := capU_all (L := (wsP g Z 0).map (sumP g.rs)) (lo := lo.getD 0 0) (m := m) (U := U.getD 0 []) (fun x hx => by
    rw [hI.val 0 (by omega) (.inl rfl) x hx, fwC_eq, List.countP_map]; rfl) fun hne => ((hI.sp 0 (by omega)).low hne).2
  rw [h1, (wsP_perm h hs hz).countP_eq]; rfl
/-! ### Arcs that are left -/
def opN (g : Gr) (r : List Int) (v : Nat) : Nat := r.countP fun i => decide ((arc g.rs i).t = (v : Int))
theorem opN_snoc (g : Gr) (r : List Int) (i : Int) (v : Nat) : opN g (r ++ [i]) v = opN g r v + if (arc g.rs i).t = (v : Int) then 1 else 0 := by
  unfold opN
  rw [List.countP_append, List.countP_singleton]
  simp only [decide_eq_true_eq]
theorem opN_zero {g : Gr} {r : List Int} {v : Nat} (h : opN g r v = 0) : ∀ j ∈ r, ¬ (arc g.rs j).t = (v : Int) := fun j hj e => by
  have := List.countP_eq_zero.1 h j hj
  rw [decide_eq_true_iff] at this
  exact this e
end Go.Proofs.Ytgdfjblfpeedjaa
/- Plain mathematics: how many ways lead on, reckoned arc by arc. Nothing here speaks of the program. -/
namespace Go.Proofs.Ytgdfjblfpeedjaa
set_option linter.unusedVariables false
set_option linter.unusedSimpArgs false

def inA (q : Nat) (L : List Int) (a : Ar) : List Int := if a.f = (q : Int) then L.set q (min (L.getD q 0 + L.getD a.t.toNat 0) capM) else L
theorem inA_fold (g : Gr) (q : Nat) (L : List Int) : g.rs.foldl (inA q) L = stepW g L q := fold_out (fun (L : List Int) (a : Ar) => L.set q (min (L.getD q 0 + L.getD a.t.toNat 0) capM)) (q : Int) g.rs L
theorem inA_step {rs : List Ar} {k q : Nat} {a : Ar} {L : List Int} (ha : rs[k]? = some a) : (rs.take (k + 1)).foldl (inA q) L = inA q ((rs.take k).foldl (inA q) L) a := by
  rw [List.take_add_one, ha, List.foldl_append]; rfl
theorem WOk.inA {N q : Nat} {L : List Int} (h : WOk N L) (a : Ar) : WOk N (inA q L a) := by
  unfold Go.Proofs.Ytgdfjblfpeedjaa.inA
  split
  · refine ⟨by rw [List.length_set]; exact h.1, fun j => ?_⟩
    rw [getD_set']
    split
    · have h1 := h.2 q
      have h2 := h.2 a.t.toNat
      exact ⟨Int.le_min.2 ⟨by omega, capM_pos⟩, Int.min_le_right _ _⟩
    · exact h.2 j
  · exact h
theorem WOk.foldA {N q : Nat} : ∀ (rs : List Ar) {L : List Int}, WOk N L → WOk N (rs.foldl (Go.Proofs.Ytgdfjblfpeedjaa.inA q) L)
  | [], L, h => h
  | a :: rs, L, h => WOk.foldA rs (h.inA a)
theorem waysK_one {g : Gr} (h : g.Ok) : g.waysK 1 = initW g.n.toNat := by
  have := h.n1
  rw [← waysK_zero h]
  unfold Gr.waysK
  apply List.map_congr_left
  intro q hq
  have := List.mem_range.1 hq
  by_cases e : q + 1 = g.n.toNat
  · rw [if_pos (.inr e), if_pos (.inr e)]
  · rw [if_neg (by omega), if_neg (by omega)]
theorem waysK_ok {g : Gr} (h : g.Ok) (k : Nat) : WOk g.n.toNat (g.waysK k) := by
  refine ⟨waysK_len g k, fun j => ?_⟩
  by_cases hj : j < g.n.toNat
  · rw [waysK_getD hj]
    split
    · have := wy_nonneg h (q := (j : Int)) (by omega) (by omega)
      exact this
    · exact ⟨Int.le_refl _, capM_pos⟩
  · rw [List.getD_eq_getElem?_getD, List.getElem?_eq_none (by rw [waysK_len]; omega)]
    exact ⟨Int.le_refl _, capM_pos⟩
end Go.Proofs.Ytgdfjblfpeedjaa
/- Plain mathematics of the stable sort of the library: blocks. Nothing here speaks of the program. -/
namespace Go.Proofs.Ytgdfjblfpeedjaa
set_option linter.unusedVariables false
set_option linter.unusedSimpArgs false

/-- Each block of this size is sorted, and has the elements of the same block of another list. -/
def PInv (key : Int → Int) (bs : Nat) (P0 P : List Int) : Prop := P.length = P0.length ∧ ∀ k, ((P.drop (k * bs)).take bs).Pairwise (RL key) ∧ ((P.drop (k * bs)).take bs).Perm ((P0.drop (k * bs)).take bs)
theorem PInv.nil (key : Int → Int) (bs : Nat) : PInv key bs [] [] := ⟨rfl, fun k => by simp⟩
theorem PInv.snoc {key : Int → Int} {bs k : Nat} {P0 P X Z : List Int} (h : PInv key bs P0 P) (hl : P.length = k * bs) (hz : Z.Perm X) (hs : Z.Pairwise (RL key)) (hx : X.length ≤ bs) : PInv key bs (P0 ++ X) (P ++ Z) := by
  have hzl := hz.length_eq
  have h0 : P0.length = k * bs := by rw [← h.1, hl]
  refine ⟨by rw [List.length_append, List.length_append, h.1, hzl], fun j => ?_⟩
  rcases Nat.lt_trichotomy j k with hj | hj | hj
  · have e : j * bs + bs ≤ k * bs := by
      have := Nat.mul_le_mul_right bs (show j + 1 ≤ k from hj)
      rwa [Nat.succ_mul] at this
    have g : ∀ (A B : List Int), A.length = k * bs → ((A ++ B).drop (j * bs)).take bs = (A.drop (j * bs)).take bs := fun A B hA => by
      rw [List.drop_append_of_le_length (by omega), List.take_append_of_le_length (by rw [List.length_drop]; omega)]
    rw [g P Z hl, g P0 X h0]
    exact h.2 j
  · subst hj
    have g : ∀ (A B : List Int), A.length = j * bs → B.length ≤ bs → ((A ++ B).drop (j * bs)).take bs = B := fun A B hA hB => by
      rw [← hA, List.drop_left, List.take_of_length_le hB]
    rw [g P Z hl (by omega), g P0 X h0 hx]
    exact ⟨hs, hz⟩
  · have e : k * bs + bs ≤ j * bs := by
      have := Nat.mul_le_mul_right bs (show k + 1 ≤ j from hj)
      rwa [Nat.succ_mul] at this
    rw [List.drop_of_length_le (by rw [List.length_append]; omega), List.drop_of_length_le (by rw [List.length_append]; omega)]
    simp
theorem PInv.block {key : Int → Int} {bs : Nat} {P0 P : List Int} (h : PInv key bs P0 P) : (P.take bs).Pairwise (RL key) ∧ (P.take bs).Perm (P0.take bs) := by
  have := h.2 0
  rwa [Nat.zero_mul, List.drop_zero, List.drop_zero] at this
theorem PInv.tail {key : Int → Int} {bs : Nat} {P0 P : List Int} (h : PInv key bs P0 P) : PInv key bs (P0.drop bs) (P.drop bs) := by
  refine ⟨by rw [List.length_drop, List.length_drop, h.1], fun k => ?_⟩
  rw [List.drop_drop, List.drop_drop, show bs + k * bs = (k + 1) * bs by rw [Nat.succ_mul]; omega]
  exact h.2 (k + 1)
/-- The blocks are one block. -/
theorem PInv.all {key : Int → Int} {bs : Nat} {P0 P : List Int} (h : PInv key bs P0 P) (hb : P.length ≤ bs) : P.Pairwise (RL key) ∧ P.Perm P0 := by
  have := h.block
  rwa [List.take_of_length_le hb, List.take_of_length_le (by rw [← h.1]; exact hb)] at this
/-- Two blocks at the head, of a list that ascends. -/
theorem PInv.two {key : Int → Int} {bs : Nat} {P0 P X Y : List Int} (h : PInv key bs P0 P) (ha : P0.Pairwise (· < ·)) (hX : X = P.take bs) (hY : Y = (P.drop bs).take bs) :
    X.Pairwise (RL key) ∧ Y.Pairwise (RL key) ∧ (∀ x ∈ X, ∀ y ∈ Y, x < y) ∧ (X ++ Y).Perm (P0.take (bs + bs)) := by
  have h1 := h.block
  have h2 := h.tail.block
  subst hX hY
  refine ⟨h1.1, h2.1, fun x hx y hy => ?_, ?_⟩
  · have x1 := h1.2.mem_iff.1 hx
    have y1 := List.mem_of_mem_take (h2.2.mem_iff.1 hy)
    rw [← List.take_append_drop bs P0] at ha
    exact (List.pairwise_append.1 ha).2.2 x x1 y y1
  · have e : P0.take (bs + bs) = P0.take bs ++ (P0.drop bs).take bs := List.take_add
    rw [e]
    exact h1.2.append h2.2
end Go.Proofs.Ytgdfjblfpeedjaa
/- Plain mathematics: the loop over the arcs that fills the spreads. Nothing here speaks of the program. -/
namespace Go.Proofs.Ytgdfjblfpeedjaa
set_option linter.unusedVariables false
set_option linter.unusedSimpArgs false

/-- What an arc makes of the spreads and of the numbers of arcs that are left. -/
def stW (g : Gr) (m : Int) (L : List Int) (s : List (List Int) × List Int) (i : Int) : List (List Int) × List Int :=
  (if s.2.getD (arc g.rs i).t.toNat 0 - 1 = 0 then (s.1.set (arc g.rs i).f.toNat (addU (L.getD (arc g.rs i).f.toNat 0) (s.1.getD (arc g.rs i).f.toNat []) (L.getD (arc g.rs i).t.toNat 0) (s.1.getD (arc g.rs i).t.toNat []) (arc g.rs i).c m)).set (arc g.rs i).t.toNat []
   else s.1.set (arc g.rs i).f.toNat (addU (L.getD (arc g.rs i).f.toNat 0) (s.1.getD (arc g.rs i).f.toNat []) (L.getD (arc g.rs i).t.toNat 0) (s.1.getD (arc g.rs i).t.toNat []) (arc g.rs i).c m),
   s.2.set (arc g.rs i).t.toNat (s.2.getD (arc g.rs i).t.toNat 0 - 1))
theorem stW_at {g : Gr} {m : Int} {L : List Int} {s : List (List Int) × List Int} {i : Int} {f t : Nat} {c : Int} (ha : arc g.rs i = ⟨f, t, c⟩) :
    stW g m L s i = (if s.2.getD t 0 - 1 = 0 then (s.1.set f (addU (L.getD f 0) (s.1.getD f []) (L.getD t 0) (s.1.getD t []) c m)).set t [] else s.1.set f (addU (L.getD f 0) (s.1.getD f []) (L.getD t 0) (s.1.getD t []) c m), s.2.set t (s.2.getD t 0 - 1)) := by
  unfold stW
  rw [ha]
  simp only [Int.toNat_natCast]
/-- Costs that no arc undercuts. -/
def Low (g : Gr) (L : List Int) : Prop := ∀ i, 0 ≤ i → i < (g.rs.length : Int) → 0 ≤ L.getD (arc g.rs i).t.toNat 0 → 0 ≤ L.getD (arc g.rs i).f.toNat 0 ∧ L.getD (arc g.rs i).f.toNat 0 ≤ (arc g.rs i).c + L.getD (arc g.rs i).t.toNat 0
structure WkI (m : Int) (L : List Int) (N k : Nat) (s : List (List Int) × List Int) : Prop where
  len : s.1.length = N
  sp : ∀ v : Nat, v < N → Sp (L.getD v 0) (s.1.getD v []) m
  len2 : s.2.length = N
  bd : ∀ v : Nat, -(k : Int) ≤ s.2.getD v 0 ∧ s.2.getD v 0 ≤ 6000
theorem arc_nat {g : Gr} (h : g.Ok) {N : Nat} (hN : g.n = (N : Int)) {i : Int} (h0 : 0 ≤ i) (h1 : i < (g.rs.length : Int)) : ∃ (f t : Nat) (c : Int), arc g.rs i = ⟨f, t, c⟩ ∧ f < t ∧ t < N ∧ 0 ≤ c ∧ c ≤ 1000000 := by
  have ha := h.arc _ (arc_mem h0 h1)
  obtain ⟨a, ha2⟩ : ∃ a, a = arc g.rs i := ⟨_, rfl⟩
  rw [← ha2] at ha ⊢
  obtain ⟨af, at', ac⟩ := a
  dsimp only at ha
  obtain ⟨f, rfl⟩ := Int.eq_ofNat_of_zero_le (show 0 ≤ af by omega)
  obtain ⟨t, rfl⟩ := Int.eq_ofNat_of_zero_le (show 0 ≤ at' by omega)
  exact ⟨f, t, ac, rfl, by omega, by omega, by omega, by omega⟩
theorem getD_setB (L : List Int) (i j : Nat) (z : Int) : (L.set i z).getD j 0 = z ∨ (L.set i z).getD j 0 = L.getD j 0 := by
  rw [List.getD_eq_getElem?_getD, List.getD_eq_getElem?_getD, List.getElem?_set]
  by_cases e : i = j
  · rw [if_pos e]
    by_cases h : i < L.length
    · rw [if_pos h]; exact .inl rfl
    · rw [if_neg h, List.getElem?_eq_none (by omega)]; exact .inr rfl
  · rw [if_neg e]; exact .inr rfl
theorem WkI.step {g : Gr} (h : g.Ok) {m : Int} {L : List Int} {N k : Nat} {s : List (List Int) × List Int} (hN : g.n = (N : Int)) (hL : Low g L) (hI : WkI m L N k s) {i : Int} (h0 : 0 ≤ i) (h1 : i < (g.rs.length : Int)) : WkI m L N (k + 1) (stW g m L s i) := by
  obtain ⟨f, t, c, ha, hf, ht, c0, c1⟩ := arc_nat h hN h0 h1
  have hl := hL i h0 h1
  rw [ha] at hl
  simp only [Int.toNat_natCast] at hl
  obtain ⟨k1, k2⟩ := addU_all (hI.sp f (by omega)) (hI.sp t ht) c0 fun hne => hl ((hI.sp t ht).low hne).1
  rw [stW_at ha]
  have hU : ∀ v : Nat, v < N → Sp (L.getD v 0) ((s.1.set f (addU (L.getD f 0) (s.1.getD f []) (L.getD t 0) (s.1.getD t []) c m)).getD v []) m := fun v hv => by
    rw [getD_setL _ _ _ _ (by rw [hI.len]; omega)]
    split
    · rename_i e; rw [e]; exact k1
    · exact hI.sp v hv
  refine ⟨?_, fun v hv => ?_, by rw [List.length_set]; exact hI.len2, fun v => ?_⟩
  · dsimp only
    split <;> simp only [List.length_set] <;> exact hI.len
  · dsimp only
    split
    · rw [getD_setL _ _ _ _ (by rw [List.length_set, hI.len]; omega)]
      split
      · exact Sp.nil _ _
      · exact hU v hv
    · exact hU v hv
  · dsimp only
    have b1 := hI.bd t
    have b2 := hI.bd v
    rcases getD_setB s.2 t v (s.2.getD t 0 - 1) with e | e <;> rw [e] <;> omega
theorem WkI.fold {g : Gr} (h : g.Ok) {m : Int} {L : List Int} {N : Nat} (hN : g.n = (N : Int)) (hL : Low g L) : ∀ (l : List Int) (k : Nat) (s : List (List Int) × List Int), WkI m L N k s → (∀ i ∈ l, 0 ≤ i ∧ i < (g.rs.length : Int)) → WkI m L N (k + l.length) (l.foldl (stW g m L) s)
  | [], k, s, hs, _ => hs
  | i :: l, k, s, hs, hi => by
    have h1 := hi i (List.mem_cons_self ..)
    have := WkI.fold h hN hL l (k + 1) _ (hs.step h hN hL h1.1 h1.2) fun j hj => hi j (List.mem_cons_of_mem _ hj)
    rw [List.foldl_cons, List.length_cons, show k + (l.length + 1) = k + 1 + l.length by omega]
    exact this
def startW (N : Nat) (O : List Int) : List (List Int) × List Int := ((List.replicate N []).set (N - 1) [1], O)
theorem WkI.start {m : Int} {L : List Int} {N : Nat} {O : List Int} (h1 : 1 ≤ N) (hm : 0 ≤ m) (hlo : L.getD (N - 1) 0 = 0) (hO : O.length = N) (hb : ∀ v : Nat, 0 ≤ O.getD v 0 ∧ O.getD v 0 ≤ 6000) : WkI m L N 0 (startW N O) := by
  have hs := (SpInv.start (g := ⟨(N : Int), []⟩) (Z := []) rfl h1 hm hlo)
  exact ⟨hs.len, hs.sp, hO, fun v => by have := hb v; show -((0 : Nat) : Int) ≤ O.getD v 0 ∧ O.getD v 0 ≤ 6000; omega⟩
theorem strong {g : Gr} (h : g.Ok) {m : Int} {L : List Int} {N : Nat} {O : List Int} {Z : List Int} (hN : g.n = (N : Int)) (hm : 0 ≤ m) (hL : Low g L) (hlo : L.getD (N - 1) 0 = 0) (hOl : O.length = N) (hO : ∀ v : Nat, v < N → O.getD v 0 = (opN g Z v : Int)) (hZ : ∀ i ∈ Z, 0 ≤ i ∧ i < (g.rs.length : Int)) :
    ∀ (l r : List Int), Z = r ++ l → SpInv g m L N r l (l.reverse.foldl (stW g m L) (startW N O)).1 ∧ (l.reverse.foldl (stW g m L) (startW N O)).2.length = N ∧ ∀ v : Nat, v < N → (l.reverse.foldl (stW g m L) (startW N O)).2.getD v 0 = (opN g r v : Int)
  | [], r, e => by
    rw [List.append_nil] at e
    subst e
    exact ⟨SpInv.start hN (by have := h.n1; omega) hm hlo, hOl, hO⟩
  | i :: l, r, e => by
    obtain ⟨h1, h2, h3⟩ := strong h hN hm hL hlo hOl hO hZ l (r ++ [i]) (by rw [List.append_assoc]; exact e)
    have hi := hZ i (by rw [e]; exact List.mem_append_right _ (List.mem_cons_self ..))
    obtain ⟨f, t, c, ha, hf, ht, c0, c1⟩ := arc_nat h hN hi.1 hi.2
    rw [List.reverse_cons, List.foldl_append]
    obtain ⟨s, hs⟩ : ∃ s, s = l.reverse.foldl (stW g m L) (startW N O) := ⟨_, rfl⟩
    rw [← hs] at h1 h2 h3 ⊢
    show SpInv g m L N r (i :: l) (stW g m L s i).1 ∧ (stW g m L s i).2.length = N ∧ ∀ v : Nat, v < N → (stW g m L s i).2.getD v 0 = (opN g r v : Int)
    have hl := hL i hi.1 hi.2
    rw [ha] at hl
    simp only [Int.toNat_natCast] at hl
    have k1 := h1.step ha hf ht c0 hl
    rw [stW_at ha]
    have ho : ∀ v : Nat, v < N → (s.2.set t (s.2.getD t 0 - 1)).getD v 0 = (opN g r v : Int) := fun v hv => by
      have e1 := opN_snoc g r i v
      rw [ha] at e1
      have e2 := h3 v hv
      rw [getD_setI _ _ _ _ (by omega)]
      by_cases ev : v = t
      · rw [if_pos ev, ← ev, e2, e1, if_pos (by show (t : Int) = (v : Int); omega)]; omega
      · rw [if_neg ev, e2, e1, if_neg (by show ¬ (t : Int) = (v : Int); omega)]; omega
    refine ⟨?_, by show (s.2.set t _).length = N; rw [List.length_set]; exact h2, ho⟩
    dsimp only
    split
    · rename_i e0
      refine k1.drop (by omega) ht (opN_zero ?_)
      have e1 := ho t ht
      rw [getD_setI _ _ _ _ (by omega), if_pos rfl] at e1
      omega
    · exact k1
theorem opK_count (rs : List Ar) (v : Nat) : ∀ (L : List Int), v < L.length → (∀ a ∈ rs, 0 ≤ a.t) → (rs.foldl (fun L a => L.set a.t.toNat (L.getD a.t.toNat 0 + 1)) L).getD v 0 = L.getD v 0 + (rs.countP (fun a => decide (a.t = (v : Int))) : Nat) := by
  induction rs with
  | nil => intro L _ _; simp
  | cons a r ih =>
    intro L hv ha
    have h0 := ha a (List.mem_cons_self ..)
    rw [List.foldl_cons, ih _ (by rw [List.length_set]; exact hv) (fun b hb => ha b (List.mem_cons_of_mem _ hb)), List.countP_cons]
    by_cases e : a.t = (v : Int)
    · rw [if_pos (by simpa using e), show a.t.toNat = v by omega, getD_setI _ _ _ _ hv, if_pos rfl]
      omega
    · rw [if_neg (by simpa using e)]
      have h2 : ¬ a.t.toNat = v := by omega
      have : ∀ z : Int, (L.set a.t.toNat z).getD v 0 = L.getD v 0 := fun z => by
        rw [List.getD_eq_getElem?_getD, List.getD_eq_getElem?_getD, List.getElem?_set, if_neg h2]
      rw [this]; omega
end Go.Proofs.Ytgdfjblfpeedjaa
