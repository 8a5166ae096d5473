/- Plain mathematics of graphs whose arcs lead upwards: errors, ways, how many ways lead on. Nothing here speaks of the program. -/
import Derived.WalkKit
namespace Go.Proofs.Ytdoobdfanalnbaa
set_option linter.unusedVariables false
set_option linter.unusedSimpArgs false

structure Ar where
  f : Int
  t : Int
  c : Int
deriving DecidableEq
structure Gr where
  n : Int
  rs : List Ar
/-- The error of an arc. -/
def arcE (n : Int) (a : Ar) : Int := if ¬ (0 ≤ a.f ∧ a.f < n) ∨ ¬ (0 ≤ a.t ∧ a.t < n) ∨ a.c < 0 ∨ 1000000 < a.c then 6 else if a.t ≤ a.f then 18 else 0
def arcsE (n : Int) : List Ar → Int
  | [] => 0
  | a :: r => if arcE n a = 0 then arcsE n r else arcE n a
def Gr.vE (g : Gr) : Int := if g.n < 1 then 7 else if 2000 < g.n ∨ 6000 < g.rs.length then 3 else arcsE g.n g.rs
theorem arcsE_all {n : Int} : ∀ {rs : List Ar}, (∀ (i : Nat) a, rs[i]? = some a → arcE n a = 0) → arcsE n rs = 0
  | [], _ => rfl
  | a :: r, h => by
    unfold arcsE
    rw [if_pos (h 0 a rfl)]
    exact arcsE_all (fun i b hb => h (i + 1) b (by simpa using hb))
theorem arcsE_at {n : Int} : ∀ {rs : List Ar} {k : Nat} {a : Ar}, rs[k]? = some a → (∀ (i : Nat) b, i < k → rs[i]? = some b → arcE n b = 0) → ¬ arcE n a = 0 → arcsE n rs = arcE n a
  | [], k, a, h, _, _ => by simp at h
  | x :: r, 0, a, h, _, hn => by
    obtain rfl : x = a := by simpa using h
    unfold arcsE; rw [if_neg hn]
  | x :: r, k + 1, a, h, hb, hn => by
    unfold arcsE
    rw [if_pos (hb 0 x (by omega) rfl)]
    exact arcsE_at (by simpa using h) (fun i b hi hib => hb (i + 1) b (by omega) (by simpa using hib)) hn
theorem arcsE_zero {n : Int} : ∀ {rs : List Ar}, arcsE n rs = 0 → ∀ a ∈ rs, arcE n a = 0
  | [], _, a, h => by cases h
  | x :: r, h, a, ha => by
    unfold arcsE at h
    by_cases e : arcE n x = 0
    · rw [if_pos e] at h
      rcases List.mem_cons.1 ha with rfl | ha
      · exact e
      · exact arcsE_zero h a ha
    · rw [if_neg e] at h; exact absurd h e
theorem arcsE_cases {n : Int} : ∀ (rs : List Ar), arcsE n rs = 0 ∨ arcsE n rs = 6 ∨ arcsE n rs = 18
  | [] => .inl rfl
  | x :: r => by
    unfold arcsE
    by_cases e : arcE n x = 0
    · rw [if_pos e]; exact arcsE_cases r
    · rw [if_neg e]
      unfold arcE at e ⊢
      split
      · simp
      · split
        · simp
        · simp
/-- A graph without an error. -/
structure Gr.Ok (g : Gr) : Prop where
  n1 : 1 ≤ g.n
  n2 : g.n ≤ 2000
  len : g.rs.length ≤ 6000
  arc : ∀ a ∈ g.rs, 0 ≤ a.f ∧ a.f < a.t ∧ a.t < g.n ∧ 0 ≤ a.c ∧ a.c ≤ 1000000
theorem arcE_ok {n : Int} {a : Ar} : arcE n a = 0 ↔ 0 ≤ a.f ∧ a.f < a.t ∧ a.t < n ∧ 0 ≤ a.c ∧ a.c ≤ 1000000 := by
  unfold arcE
  constructor
  · intro h
    split at h
    · simp at h
    · split at h
      · simp at h
      · omega
  · intro h
    rw [if_neg (by omega), if_neg (by omega)]
theorem Gr.ok {g : Gr} (h : g.vE = 0) : g.Ok := by
  unfold Gr.vE at h
  by_cases h1 : g.n < 1
  · rw [if_pos h1] at h; simp at h
  rw [if_neg h1] at h
  by_cases h2 : 2000 < g.n ∨ 6000 < g.rs.length
  · rw [if_pos h2] at h; simp at h
  rw [if_neg h2] at h
  exact ⟨by omega, by omega, by omega, fun a ha => arcE_ok.1 (arcsE_zero h a ha)⟩
theorem Gr.Ok.vE {g : Gr} (h : g.Ok) : g.vE = 0 := by
  have := h.n1; have := h.n2; have := h.len
  unfold Gr.vE
  rw [if_neg (by omega), if_neg (by omega)]
  exact arcsE_all fun i a ha => arcE_ok.2 (h.arc a (List.mem_of_getElem? ha))

/-! ### Ways -/
/-- The arc with an index. -/
def arc (rs : List Ar) (i : Int) : Ar := rs.getD i.toNat ⟨0, 0, 0⟩
/-- Where a list of indices leads from a node. -/
def walkP (rs : List Ar) : Int → List Int → Option Int
  | q, [] => some q
  | q, i :: r => if 0 ≤ i ∧ i < (rs.length : Int) ∧ (arc rs i).f = q then walkP rs (arc rs i).t r else none
def sumP (rs : List Ar) (p : List Int) : Int := (p.map fun i => (arc rs i).c).sum
def Gr.chk (g : Gr) (p : List Int) : Bool := decide (g.vE = 0 ∧ walkP g.rs 0 p = some (g.n - 1))
theorem walkP_cons (rs : List Ar) (q i : Int) (r : List Int) : walkP rs q (i :: r) = if 0 ≤ i ∧ i < (rs.length : Int) ∧ (arc rs i).f = q then walkP rs (arc rs i).t r else none := rfl
theorem walkP_app (rs : List Ar) : ∀ (u v : List Int) (q : Int), walkP rs q (u ++ v) = (walkP rs q u).bind fun r => walkP rs r v
  | [], v, q => rfl
  | i :: u, v, q => by
    rw [List.cons_append, walkP_cons, walkP_cons]
    by_cases h : 0 ≤ i ∧ i < (rs.length : Int) ∧ (arc rs i).f = q
    · rw [if_pos h, if_pos h]; exact walkP_app rs u v _
    · rw [if_neg h, if_neg h]; rfl
theorem sumP_app (rs : List Ar) (u v : List Int) : sumP rs (u ++ v) = sumP rs u + sumP rs v := by simp [sumP]
theorem walkP_step {rs : List Ar} {p : List Int} {k : Nat} {i q r : Int} (hi : p[k]? = some i) (h : walkP rs q (p.take k) = some r) :
    walkP rs q (p.take (k + 1)) = if 0 ≤ i ∧ i < (rs.length : Int) ∧ (arc rs i).f = r then some (arc rs i).t else none := by
  rw [List.take_add_one, hi, walkP_app, h]
  show walkP rs r [i] = _
  unfold walkP
  by_cases h : 0 ≤ i ∧ i < (rs.length : Int) ∧ (arc rs i).f = r
  · rw [if_pos h, if_pos h]; rfl
  · rw [if_neg h, if_neg h]
theorem walkP_none {rs : List Ar} {p : List Int} {k : Nat} {q : Int} (h : walkP rs q (p.take k) = none) : walkP rs q p = none := by
  rw [← List.take_append_drop k p, walkP_app, h]; rfl
theorem walkP_part {rs : List Ar} {p : List Int} {k : Nat} {i q r : Int} (hi : p[k]? = some i) (h : walkP rs q p = some r) :
    ∃ s, walkP rs q (p.take k) = some s ∧ 0 ≤ i ∧ i < (rs.length : Int) ∧ (arc rs i).f = s := by
  cases e : walkP rs q (p.take k) with
  | none => rw [walkP_none e] at h; cases h
  | some s =>
    refine ⟨s, rfl, ?_⟩
    have h1 := walkP_step hi e
    by_cases hc : 0 ≤ i ∧ i < (rs.length : Int) ∧ (arc rs i).f = s
    · exact hc
    · rw [if_neg hc] at h1
      rw [walkP_none h1] at h; cases h
theorem sumP_step {rs : List Ar} {p : List Int} {k : Nat} {i : Int} (hi : p[k]? = some i) : sumP rs (p.take (k + 1)) = sumP rs (p.take k) + (arc rs i).c := by
  rw [List.take_add_one, hi, sumP_app]; simp [sumP]
theorem arc_mem {rs : List Ar} {i : Int} (h0 : 0 ≤ i) (h1 : i < (rs.length : Int)) : arc rs i ∈ rs := by
  unfold arc
  have : i.toNat < rs.length := by omega
  rw [List.getD_eq_getElem?_getD, List.getElem?_eq_getElem this]
  exact List.getElem_mem this
theorem arc_get {rs : List Ar} {i : Nat} (h1 : i < rs.length) : rs[i]? = some (arc rs i) := by
  unfold arc
  rw [List.getD_eq_getElem?_getD, Int.toNat_natCast, List.getElem?_eq_getElem h1]
  rfl
theorem walkP_range {g : Gr} (h : g.Ok) : ∀ {p : List Int} {q r : Int}, 0 ≤ q → q < g.n → walkP g.rs q p = some r → q + p.length ≤ r ∧ r < g.n
  | [], q, r, h0, h1, e => by
    unfold walkP at e
    injection e with e
    subst e
    simp; omega
  | i :: p, q, r, h0, h1, e => by
    unfold walkP at e
    by_cases hc : 0 ≤ i ∧ i < (g.rs.length : Int) ∧ (arc g.rs i).f = q
    · rw [if_pos hc] at e
      have ha := h.arc _ (arc_mem hc.1 hc.2.1)
      have := walkP_range h (by omega) (by omega) e
      simp; omega
    · rw [if_neg hc] at e; cases e
theorem sumP_le {g : Gr} (h : g.Ok) : ∀ {p : List Int} {q r : Int}, walkP g.rs q p = some r → 0 ≤ sumP g.rs p ∧ sumP g.rs p ≤ p.length * 1000000
  | [], q, r, e => by simp [sumP]
  | i :: p, q, r, e => by
    unfold walkP at e
    by_cases hc : 0 ≤ i ∧ i < (g.rs.length : Int) ∧ (arc g.rs i).f = q
    · rw [if_pos hc] at e
      have ha := h.arc _ (arc_mem hc.1 hc.2.1)
      have h2 := sumP_le h e
      have h3 : sumP g.rs (i :: p) = (arc g.rs i).c + sumP g.rs p := by simp [sumP]
      rw [h3, List.length_cons]
      omega
    · rw [if_neg hc] at e; cases e

/-! ### The arcs that lead from a node -/
def outI (rs : List Ar) (q : Int) : List Int := ((List.range rs.length).filter fun i : Nat => decide ((arc rs (i : Int)).f = q)).map fun i : Nat => (i : Int)
theorem arc_left {rs : List Ar} {a : Ar} {i : Nat} (h : i < rs.length) : arc (rs ++ [a]) i = arc rs i := by
  unfold arc
  rw [List.getD_eq_getElem?_getD, List.getD_eq_getElem?_getD, Int.toNat_natCast, List.getElem?_append_left h]
theorem arc_last (rs : List Ar) (a : Ar) : arc (rs ++ [a]) (rs.length : Nat) = a := by
  unfold arc
  rw [List.getD_eq_getElem?_getD, Int.toNat_natCast, List.getElem?_concat_length]; rfl
theorem outI_snoc (rs : List Ar) (a : Ar) (q : Int) : outI (rs ++ [a]) q = outI rs q ++ (if a.f = q then [(rs.length : Int)] else []) := by
  unfold outI
  rw [List.length_append, List.length_singleton, List.range_succ, List.filter_append, List.map_append]
  congr 1
  · congr 1
    apply List.filter_congr
    intro i hi
    rw [arc_left (List.mem_range.1 hi)]
  · by_cases e : a.f = q
    · rw [if_pos e, List.filter_cons, arc_last, if_pos (by simp [e])]; simp
    · rw [if_neg e, List.filter_cons, arc_last, if_neg (by simp [e])]; simp
theorem outI_nil (q : Int) : outI [] q = [] := rfl
theorem outI_mem {rs : List Ar} {q i : Int} : i ∈ outI rs q ↔ 0 ≤ i ∧ i < (rs.length : Int) ∧ (arc rs i).f = q := by
  unfold outI
  rw [List.mem_map]
  constructor
  · rintro ⟨k, hk, rfl⟩
    rw [List.mem_filter, List.mem_range] at hk
    exact ⟨by omega, by omega, by simpa using hk.2⟩
  · rintro ⟨h0, h1, h2⟩
    refine ⟨i.toNat, ?_, by omega⟩
    rw [List.mem_filter, List.mem_range]
    have e : ((i.toNat : Nat) : Int) = i := by omega
    exact ⟨by omega, by rw [e]; simpa using h2⟩
theorem outI_take {rs : List Ar} {k : Nat} {a : Ar} (h : rs[k]? = some a) (q : Int) : outI (rs.take (k + 1)) q = outI (rs.take k) q ++ (if a.f = q then [(k : Int)] else []) := by
  have hk := (List.getElem?_eq_some_iff.1 h).1
  rw [List.take_add_one, h]
  show outI (rs.take k ++ [a]) q = _
  rw [outI_snoc, List.length_take, Nat.min_eq_left (by omega)]
theorem outI_len (rs : List Ar) (q : Int) : (outI rs q).length ≤ rs.length := by
  unfold outI
  rw [List.length_map]
  exact Nat.le_trans (List.length_filter_le _ _) (by simp)
theorem outI_pairwise (rs : List Ar) (q : Int) : (outI rs q).Pairwise (· < ·) := by
  unfold outI
  rw [List.pairwise_map]
  refine List.Pairwise.imp ?_ (List.Pairwise.filter _ List.pairwise_lt_range)
  intro a b h; omega
/-- A fold over the arcs from a node is a fold over their indices. -/
theorem fold_out {β : Type} (h : β → Ar → β) (q : Int) : ∀ (rs : List Ar) (z : β), rs.foldl (fun s a => if a.f = q then h s a else s) z = (outI rs q).foldl (fun s i => h s (arc rs i)) z := by
  intro rs z
  have key : ∀ (k : Nat), k ≤ rs.length → (rs.take k).foldl (fun s a => if a.f = q then h s a else s) z = (outI (rs.take k) q).foldl (fun s i => h s (arc rs i)) z := by
    intro k
    induction k with
    | zero => intro _; simp [outI_nil]
    | succ k ih =>
      intro hk
      obtain ⟨a, ha⟩ : ∃ a, rs[k]? = some a := ⟨_, List.getElem?_eq_getElem (by omega)⟩
      rw [outI_take ha, List.foldl_append, ← ih (by omega), List.take_add_one, ha]
      show (rs.take k ++ [a]).foldl _ z = _
      rw [List.foldl_append]
      by_cases e : a.f = q
      · rw [if_pos e]
        have : arc rs (k : Int) = a := by
          have h2 := arc_get (rs := rs) (i := k) (by omega)
          rw [ha] at h2; injection h2 with h2; exact h2.symm
        simp [e, this]
      · rw [if_neg e]; simp [e]
  have := key rs.length (Nat.le_refl _)
  rwa [List.take_length] at this
/-! ### How many ways lead on -/
abbrev capM : Int := 4611686018427387905
def Gr.wyF (g : Gr) : Nat → Int → Int
  | 0, _ => 0
  | d + 1, q => if q = g.n - 1 then 1 else g.rs.foldl (fun s a => if a.f = q then min (s + g.wyF d a.t) capM else s) 0
def Gr.wy (g : Gr) (q : Int) : Int := g.wyF g.n.toNat q
theorem foldl_same {α β : Type} {f g : β → α → β} : ∀ {l : List α} {z : β}, (∀ a ∈ l, ∀ s, f s a = g s a) → l.foldl f z = l.foldl g z
  | [], z, _ => rfl
  | a :: l, z, h => by
    rw [List.foldl_cons, List.foldl_cons, h a (by simp)]
    exact foldl_same fun b hb => h b (List.mem_cons_of_mem _ hb)
theorem wyF_same {g : Gr} (h : g.Ok) : ∀ (d d' : Nat) (q : Int), 0 ≤ q → q < g.n → g.n - q ≤ d → g.n - q ≤ d' → g.wyF d q = g.wyF d' q
  | 0, d', q, h0, h1, h2, h3 => by omega
  | d + 1, 0, q, h0, h1, h2, h3 => by omega
  | d + 1, d' + 1, q, h0, h1, h2, h3 => by
    unfold Gr.wyF
    by_cases e : q = g.n - 1
    · rw [if_pos e, if_pos e]
    · rw [if_neg e, if_neg e]
      refine foldl_same fun a ha s => ?_
      by_cases ef : a.f = q
      · have := h.arc a ha
        rw [if_pos ef, if_pos ef, wyF_same h d d' a.t (by omega) (by omega) (by omega) (by omega)]
      · rw [if_neg ef, if_neg ef]
theorem wy_end {g : Gr} (h : g.Ok) : g.wy (g.n - 1) = 1 := by
  unfold Gr.wy
  have := h.n1
  obtain ⟨d, hd⟩ : ∃ d, g.n.toNat = d + 1 := ⟨g.n.toNat - 1, by omega⟩
  rw [hd]; unfold Gr.wyF; rw [if_pos rfl]
theorem wy_eq {g : Gr} (h : g.Ok) {q : Int} (h0 : 0 ≤ q) (h1 : q < g.n - 1) : g.wy q = g.rs.foldl (fun s a => if a.f = q then min (s + g.wy a.t) capM else s) 0 := by
  unfold Gr.wy
  obtain ⟨d, hd⟩ : ∃ d, g.n.toNat = d + 1 := ⟨g.n.toNat - 1, by omega⟩
  rw [hd]
  rw [Gr.wyF, if_neg (by omega)]
  refine foldl_same fun a ha s => ?_
  by_cases ef : a.f = q
  · have := h.arc a ha
    rw [if_pos ef, if_pos ef, wyF_same h d (d + 1) a.t (by omega) (by omega) (by omega) (by omega)]
  · rw [if_neg ef, if_neg ef]
theorem wy_out {g : Gr} (h : g.Ok) {q : Int} (h0 : 0 ≤ q) (h1 : q < g.n - 1) : g.wy q = (outI g.rs q).foldl (fun s i => min (s + g.wy (arc g.rs i).t) capM) 0 := by
  rw [wy_eq h h0 h1]; exact fold_out (fun s a => min (s + g.wy a.t) capM) q g.rs 0
theorem out_end {g : Gr} (h : g.Ok) : outI g.rs (g.n - 1) = [] := by
  refine List.eq_nil_iff_forall_not_mem.2 fun i hi => ?_
  obtain ⟨h0, h1, h2⟩ := outI_mem.1 hi
  have := h.arc _ (arc_mem h0 h1)
  omega
/-! ### The ways themselves -/
def Gr.pvF (g : Gr) : Nat → Int → List (List Int)
  | 0, _ => []
  | d + 1, q => if q = g.n - 1 then [[]] else (outI g.rs q).flatMap fun i => (g.pvF d (arc g.rs i).t).map (i :: ·)
def Gr.pv (g : Gr) (q : Int) : List (List Int) := g.pvF g.n.toNat q
theorem flatMap_same {α β : Type} {f g : α → List β} : ∀ {l : List α}, (∀ a ∈ l, f a = g a) → l.flatMap f = l.flatMap g
  | [], _ => rfl
  | a :: l, h => by
    rw [List.flatMap_cons, List.flatMap_cons, h a (by simp), flatMap_same fun b hb => h b (List.mem_cons_of_mem _ hb)]
theorem pvF_same {g : Gr} (h : g.Ok) : ∀ (d d' : Nat) (q : Int), 0 ≤ q → q < g.n → g.n - q ≤ d → g.n - q ≤ d' → g.pvF d q = g.pvF d' q
  | 0, d', q, h0, h1, h2, h3 => by omega
  | d + 1, 0, q, h0, h1, h2, h3 => by omega
  | d + 1, d' + 1, q, h0, h1, h2, h3 => by
    unfold Gr.pvF
    by_cases e : q = g.n - 1
    · rw [if_pos e, if_pos e]
    · rw [if_neg e, if_neg e]
      refine flatMap_same fun i hi => ?_
      obtain ⟨i0, i1, i2⟩ := outI_mem.1 hi
      have := h.arc _ (arc_mem i0 i1)
      rw [pvF_same h d d' (arc g.rs i).t (by omega) (by omega) (by omega) (by omega)]
theorem pv_end {g : Gr} (h : g.Ok) : g.pv (g.n - 1) = [[]] := by
  unfold Gr.pv
  have := h.n1
  obtain ⟨d, hd⟩ : ∃ d, g.n.toNat = d + 1 := ⟨g.n.toNat - 1, by omega⟩
  rw [hd]; unfold Gr.pvF; rw [if_pos rfl]
theorem pv_eq {g : Gr} (h : g.Ok) {q : Int} (h0 : 0 ≤ q) (h1 : q < g.n - 1) : g.pv q = (outI g.rs q).flatMap fun i => (g.pv (arc g.rs i).t).map (i :: ·) := by
  unfold Gr.pv
  obtain ⟨d, hd⟩ : ∃ d, g.n.toNat = d + 1 := ⟨g.n.toNat - 1, by omega⟩
  rw [hd]
  rw [Gr.pvF, if_neg (by omega)]
  refine flatMap_same fun i hi => ?_
  obtain ⟨i0, i1, i2⟩ := outI_mem.1 hi
  have := h.arc _ (arc_mem i0 i1)
  rw [pvF_same h d (d + 1) (arc g.rs i).t (by omega) (by omega) (by omega) (by omega)]
theorem pv_iff {g : Gr} (h : g.Ok) : ∀ (p : List Int) (q : Int), 0 ≤ q → q < g.n → (p ∈ g.pv q ↔ walkP g.rs q p = some (g.n - 1))
  | [], q, h0, h1 => by
    by_cases e : q = g.n - 1
    · rw [e, pv_end h]; simp [walkP]
    · rw [pv_eq h h0 (by omega)]; simp [walkP, e]
  | i :: p, q, h0, h1 => by
    unfold walkP
    by_cases e : q = g.n - 1
    · rw [e, pv_end h]
      have : ¬ (0 ≤ i ∧ i < (g.rs.length : Int) ∧ (arc g.rs i).f = g.n - 1) := fun hc => by
        have := h.arc _ (arc_mem hc.1 hc.2.1); omega
      rw [if_neg this]; simp
    · rw [pv_eq h h0 (by omega), List.mem_flatMap]
      by_cases hc : 0 ≤ i ∧ i < (g.rs.length : Int) ∧ (arc g.rs i).f = q
      · rw [if_pos hc]
        have ha := h.arc _ (arc_mem hc.1 hc.2.1)
        rw [← pv_iff h p (arc g.rs i).t (by omega) (by omega)]
        constructor
        · rintro ⟨j, hj, hm⟩
          obtain ⟨r, hr, er⟩ := List.mem_map.1 hm
          injection er with e1 e2
          subst e1; subst e2; exact hr
        · intro hp
          exact ⟨i, outI_mem.2 hc, List.mem_map.2 ⟨p, hp, rfl⟩⟩
      · rw [if_neg hc]
        constructor
        · rintro ⟨j, hj, hm⟩
          obtain ⟨r, hr, er⟩ := List.mem_map.1 hm
          injection er with e1 e2
          subst e1
          exact absurd (outI_mem.1 hj) hc
        · intro h; cases h
theorem fold_min {α : Type} (f : α → Nat) (M : Nat) : ∀ (l : List α) (z : Nat), l.foldl (fun (s : Int) a => min (s + min (f a : Int) M) M) (min (z : Int) M) = min (((z + (l.map f).sum : Nat) : Int)) M
  | [], z => by simp
  | a :: l, z => by
    rw [List.foldl_cons, List.map_cons, List.sum_cons]
    have : min (min (z : Int) M + min (f a : Int) M) (M : Int) = min ((z + f a : Nat) : Int) M := by omega
    rw [this, fold_min f M l (z + f a)]
    congr 2; omega
theorem wy_pv {g : Gr} (h : g.Ok) : ∀ (d : Nat) (q : Int), 0 ≤ q → q < g.n → g.n - q ≤ d → g.wy q = min ((g.pv q).length : Int) capM
  | 0, q, h0, h1, h2 => by omega
  | d + 1, q, h0, h1, h2 => by
    by_cases e : q = g.n - 1
    · rw [e, wy_end h, pv_end h]; rfl
    · rw [wy_out h h0 (by omega), pv_eq h h0 (by omega), List.length_flatMap]
      have h3 := fold_min (fun i => ((g.pv (arc g.rs i).t).map (i :: ·)).length) 4611686018427387905 (outI g.rs q) 0
      rw [show min ((0 : Nat) : Int) ((4611686018427387905 : Nat) : Int) = 0 by omega] at h3
      rw [Nat.zero_add] at h3
      refine Eq.trans (foldl_same fun i hi s => ?_) h3
      obtain ⟨i0, i1, i2⟩ := outI_mem.1 hi
      have ha := h.arc _ (arc_mem i0 i1)
      rw [wy_pv h d (arc g.rs i).t (by omega) (by omega) (by omega), List.length_map]
      rfl
theorem wy_len {g : Gr} (h : g.Ok) {q : Int} (h0 : 0 ≤ q) (h1 : q < g.n) : g.wy q = min ((g.pv q).length : Int) capM := wy_pv h g.n.toNat q h0 h1 (by omega)
theorem wy_nonneg {g : Gr} (h : g.Ok) {q : Int} (h0 : 0 ≤ q) (h1 : q < g.n) : 0 ≤ g.wy q ∧ g.wy q ≤ capM := by
  rw [wy_len h h0 h1]
  show 0 ≤ min ((g.pv q).length : Int) 4611686018427387905 ∧ min ((g.pv q).length : Int) 4611686018427387905 ≤ 4611686018427387905
  omega
/-- What Count answers. -/
def Gr.cnt (g : Gr) : Int × Int := if ¬ g.vE = 0 then (0, g.vE) else if 4611686018427387904 < g.wy 0 then (0, 3) else (g.wy 0, 0)
/-- What Paths answers. -/
def Gr.pth (g : Gr) : List (List Int) × Int := if ¬ g.vE = 0 then ([], g.vE) else if 2000 < g.wy 0 then ([], 3) else (g.pv 0, 0)
/-- What Cost answers. -/
def Gr.cst (g : Gr) (p : List Int) : Int × Int := if ¬ g.vE = 0 then (0, g.vE) else if walkP g.rs 0 p = some (g.n - 1) then (sumP g.rs p, 0) else (0, 1)
end Go.Proofs.Ytdoobdfanalnbaa
