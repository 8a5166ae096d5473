/- Mathematics of clusters: validity, core, class, coda, parts, order. -/
import Derived.Test.YthcdbhancfpldaaUM
namespace Go.Proofs.Ythcdbhancfpldaa
set_option linter.unusedVariables false

structure Clu where
  s : List Snd
  b : List Int
theorem Clu.eq {x y : Clu} (h1 : x.s = y.s) (h2 : x.b = y.b) : x = y := by cases x; cases y; simp_all
def snF : List Snd → Int
  | [] => 0
  | x :: r => if vS x ≠ 0 then vS x else if nuc x = true then 1 else snF r
def brF (n : Int) : Int → List Int → Int
  | _, [] => 0
  | p, a :: r => if a < 0 ∨ n < a then 6 else if a < p then 18 else brF n a r
def vC (c : Clu) : Int := if 12 < c.s.length ∨ 12 < c.b.length then 3 else if snF c.s ≠ 0 then snF c.s else brF c.s.length 0 c.b
theorem snF_zero : ∀ {L : List Snd}, snF L = 0 ↔ ∀ x ∈ L, vS x = 0 ∧ nuc x = false
  | [] => by simp [snF]
  | x :: r => by
    have ih := @snF_zero r
    unfold snF
    by_cases h : vS x = 0
    · rw [if_neg (by simp [h])]
      by_cases g : nuc x = true
      · rw [if_pos g]; simp [g]
      · rw [if_neg g, ih]; simp [h, g]
    · rw [if_pos h]; simp [h]
theorem brF_zero (n : Int) : ∀ {B : List Int} {p : Int}, 0 ≤ p → (brF n p B = 0 ↔ (∀ a ∈ B, p ≤ a ∧ a ≤ n) ∧ B.Pairwise (· ≤ ·))
  | [], p, hp => by simp [brF]
  | a :: r, p, hp => by
    unfold brF
    by_cases h1 : a < 0 ∨ n < a
    · rw [if_pos h1]
      constructor
      · intro e; cases e
      · intro ⟨e, _⟩; have := e a (List.mem_cons_self ..); omega
    · rw [if_neg h1]
      by_cases h2 : a < p
      · rw [if_pos h2]
        constructor
        · intro e; cases e
        · intro ⟨e, _⟩; have := e a (List.mem_cons_self ..); omega
      · rw [if_neg h2, brF_zero n (by omega), List.pairwise_cons]
        constructor
        · rintro ⟨e1, e2⟩
          refine ⟨fun x hx => ?_, fun x hx => (e1 x hx).1, e2⟩
          rcases List.mem_cons.1 hx with rfl | hx
          · omega
          · have := e1 x hx; omega
        · rintro ⟨e1, e2, e3⟩
          exact ⟨fun x hx => ⟨e2 x hx, (e1 x (List.mem_cons_of_mem _ hx)).2⟩, e3⟩
/-- What a valid cluster is. -/
structure COk (c : Clu) : Prop where
  ns : c.s.length ≤ 12
  nb : c.b.length ≤ 12
  snd : ∀ x ∈ c.s, vS x = 0 ∧ nuc x = false
  brk : ∀ a ∈ c.b, 0 ≤ a ∧ a ≤ (c.s.length : Int)
  asc : c.b.Pairwise (· ≤ ·)
theorem vC_zero {c : Clu} : vC c = 0 ↔ COk c := by
  unfold vC
  by_cases h : 12 < c.s.length ∨ 12 < c.b.length
  · rw [if_pos h]
    constructor
    · intro e; cases e
    · intro e; have := e.ns; have := e.nb; omega
  · rw [if_neg h]
    by_cases g : snF c.s = 0
    · rw [if_neg (by simp [g]), brF_zero _ (by omega)]
      exact ⟨fun ⟨e1, e2⟩ => ⟨by omega, by omega, snF_zero.1 g, e1, e2⟩, fun e => ⟨e.brk, e.asc⟩⟩
    · rw [if_pos g]
      exact ⟨fun e => absurd e g, fun e => absurd (snF_zero.2 e.snd) g⟩
theorem snF_cut {L : List Snd} {k : Nat} (h : snF (L.take k) = 0) : snF L = snF (L.drop k) := by
  have : ∀ (a b : List Snd), snF a = 0 → snF (a ++ b) = snF b := by
    intro a
    induction a with
    | nil => intro b _; rfl
    | cons x r ih =>
      intro b h
      have h2 := snF_zero.1 h
      have h3 := h2 x (List.mem_cons_self ..)
      rw [List.cons_append]
      show (if vS x ≠ 0 then vS x else if nuc x = true then 1 else snF (r ++ b)) = _
      rw [if_neg (by simp [h3.1]), if_neg (by simp [h3.2])]
      exact ih b (snF_zero.2 fun y hy => h2 y (List.mem_cons_of_mem _ hy))
  have := this (L.take k) (L.drop k) h
  rwa [List.take_append_drop] at this

/-! ### The core -/
def coS (L : List Snd) : List Snd := L.filter (fun x => !(x.k == 9))
def cpF : Nat → List Snd → List Int
  | _, [] => []
  | i, x :: r => if x.k = 9 then cpF (i + 1) r else (i : Int) :: cpF (i + 1) r
def cpI (L : List Snd) : List Int := cpF 0 L
theorem cpF_cat : ∀ (a b : List Snd) (i : Nat), cpF i (a ++ b) = cpF i a ++ cpF (i + a.length) b
  | [], b, i => by simp [cpF]
  | x :: r, b, i => by
    have ih := cpF_cat r b (i + 1)
    rw [List.cons_append, cpF, cpF, ih, List.length_cons, show i + 1 + r.length = i + (r.length + 1) by omega]
    split <;> simp
theorem cpF_up : ∀ (L : List Snd) (i j : Nat), cpF (i + j) L = (cpF i L).map (· + (j : Int))
  | [], _, _ => rfl
  | x :: r, i, j => by
    have ih := cpF_up r (i + 1) j
    rw [cpF, cpF, show i + j + 1 = i + 1 + j by omega, ih]
    split
    · rfl
    · rw [List.map_cons]; congr 1
theorem cpI_cat (a b : List Snd) : cpI (a ++ b) = cpI a ++ (cpI b).map (· + (a.length : Int)) := by
  unfold cpI; rw [cpF_cat, Nat.zero_add]
  have := cpF_up b 0 a.length
  rw [Nat.zero_add] at this
  rw [this]
theorem cpI_snoc (a : List Snd) (x : Snd) : cpI (a ++ [x]) = cpI a ++ (if x.k = 9 then [] else [(a.length : Int)]) := by
  unfold cpI; rw [cpF_cat]; simp [cpF]
theorem coS_cat (a b : List Snd) : coS (a ++ b) = coS a ++ coS b := by unfold coS; rw [List.filter_append]
theorem coS_snoc (a : List Snd) (x : Snd) : coS (a ++ [x]) = coS a ++ (if x.k = 9 then [] else [x]) := by
  rw [coS_cat]; congr 1; unfold coS; by_cases h : x.k = 9 <;> simp [h]
theorem cpF_len : ∀ (L : List Snd) (i : Nat), (cpF i L).length = (coS L).length
  | [], _ => rfl
  | x :: r, i => by
    have ih := cpF_len r (i + 1)
    unfold coS at *
    rw [cpF, List.filter_cons]
    by_cases h : x.k = 9
    · rw [if_pos h, ih]; simp [h]
    · rw [if_neg h, List.length_cons, ih]; simp [h]
theorem cpI_len (L : List Snd) : (cpI L).length = (coS L).length := cpF_len L 0
/-- The j-th place of the core. -/
def cAt (L : List Snd) (j : Nat) : Int := (cpI L).getD j 0
theorem cp_at : ∀ (L : List Snd) (i j : Nat) (x : Snd), (coS L)[j]? = some x → ∃ k : Nat, (cpF i L)[j]? = some ((i + k : Nat) : Int) ∧ k < L.length ∧ L[k]? = some x
  | [], i, j, x, h => by simp [coS] at h
  | y :: r, i, j, x, h => by
    unfold coS at h
    rw [List.filter_cons] at h
    rw [cpF]
    by_cases hk : y.k = 9
    · rw [if_pos hk]
      rw [if_neg (by simp [hk])] at h
      obtain ⟨k, h1, h2, h3⟩ := cp_at r (i + 1) j x (show (coS r)[j]? = some x from h)
      exact ⟨k + 1, by rw [h1]; congr 2; omega, by rw [List.length_cons]; omega, by simpa using h3⟩
    · rw [if_neg hk]
      rw [if_pos (by simp [hk])] at h
      cases j with
      | zero => exact ⟨0, by simp, by simp, by simpa using h⟩
      | succ j =>
        obtain ⟨k, h1, h2, h3⟩ := cp_at r (i + 1) j x (show (coS r)[j]? = some x from h)
        exact ⟨k + 1, by rw [List.getElem?_cons_succ, h1]; congr 2; omega, by rw [List.length_cons]; omega, by simpa using h3⟩
theorem cAt_is {L : List Snd} {j : Nat} {x : Snd} (h : (coS L)[j]? = some x) : ∃ k : Nat, (cpI L)[j]? = some (k : Int) ∧ cAt L j = k ∧ k < L.length ∧ L[k]? = some x := by
  obtain ⟨k, h1, h2, h3⟩ := cp_at L 0 j x h
  rw [Nat.zero_add] at h1
  refine ⟨k, h1, ?_, h2, h3⟩
  unfold cAt cpI
  rw [List.getD_eq_getElem?_getD, h1]; rfl
/-- The core is exactly a mute and a liquid. -/
def mlB (L : List Snd) : Bool := match coS L with
  | [x, y] => x.k == 3 && y.k == 4
  | _ => false
theorem mlB_yes {L : List Snd} (h : mlB L = true) : ∃ x y, coS L = [x, y] ∧ x.k = 3 ∧ y.k = 4 := by
  unfold mlB at h
  split at h
  · rename_i x y e
    simp at h
    exact ⟨x, y, e, h.1, h.2⟩
  · cases h
theorem mlB_is {L : List Snd} {x y : Snd} (h : coS L = [x, y]) : mlB L = (x.k == 3 && y.k == 4) := by unfold mlB; rw [h]
theorem mlB_no {L : List Snd} (h : ¬ (coS L).length = 2) : mlB L = false := by
  rw [Bool.eq_false_iff]; intro e
  obtain ⟨x, y, e, _⟩ := mlB_yes e
  rw [e] at h; exact h rfl
theorem btL_core (L : List Snd) : btL L = btL (coS L) := by
  induction L with
  | nil => rfl
  | cons x r ih =>
    have e : btL (x :: r) = btS x + btL r := by simp [btL]
    rw [e, ih]
    unfold coS
    rw [List.filter_cons]
    by_cases h : x.k = 9
    · rw [if_neg (by simp [h])]
      have : btS x = 0 := by unfold btS; rw [if_neg (by omega), if_neg (by omega)]
      omega
    · rw [if_pos (by simp [h])]; simp [btL]
theorem btS_one {x : Snd} (h : ¬ x.k = 7) : btS x ≤ 1 := by
  unfold btS; rw [if_neg h]; split <;> omega
/-- The class of a cluster. -/
def clsC (S : List Snd) (B : List Int) : Int :=
  if btL S ≤ 1 then 1 else if mlB S = false then 4 else if (∀ a ∈ B, cAt S 1 < a) then 2 else if (B ≠ [] ∧ ∀ a ∈ B, a ≤ cAt S 0) then 3 else 4
/-- Where the core ends. -/
def lstC (S : List Snd) : Int := (cpI S).getLastD 0
def dblC (S : List Snd) : Bool := match (coS S).getLast? with
  | some x => x.k == 7
  | none => false
def cdC (S : List Snd) (B : List Int) : Int := if clsC S B = 4 then (if dblC S = true then lstC S + 1 else lstC S) else 0
theorem cls_rng (S : List Snd) (B : List Int) : clsC S B = 1 ∨ clsC S B = 2 ∨ clsC S B = 3 ∨ clsC S B = 4 := by
  unfold clsC; split
  · simp
  · split
    · simp
    · split
      · simp
      · split <;> simp
/-- Closed: by the sounds, or by the breaks. -/
theorem cls_four {S : List Snd} {B : List Int} : clsC S B = 4 ↔ 2 ≤ btL S ∧ (mlB S = false ∨ (mlB S = true ∧ (∃ a ∈ B, a ≤ cAt S 1) ∧ ∃ a ∈ B, cAt S 0 < a)) := by
  unfold clsC
  by_cases h : btL S ≤ 1
  · rw [if_pos h]
    constructor
    · intro e; cases e
    · intro e; omega
  · rw [if_neg h]
    by_cases g : mlB S = false
    · rw [if_pos g]; simp [g]; omega
    · rw [if_neg g]
      have g1 : mlB S = true := by simpa using g
      by_cases a1 : ∀ a ∈ B, cAt S 1 < a
      · rw [if_pos a1]
        constructor
        · intro e; cases e
        · rintro ⟨_, e | ⟨_, ⟨a, ha, hl⟩, _⟩⟩
          · exact absurd e g
          · have := a1 a ha; omega
      · rw [if_neg a1]
        have b1 : ∃ a ∈ B, a ≤ cAt S 1 := by
          apply Classical.byContradiction
          intro hn
          exact a1 fun a ha => by
            apply Classical.byContradiction
            intro hh; exact hn ⟨a, ha, by omega⟩
        by_cases a2 : B ≠ [] ∧ ∀ a ∈ B, a ≤ cAt S 0
        · rw [if_pos a2]
          constructor
          · intro e; cases e
          · rintro ⟨_, e | ⟨_, _, ⟨a, ha, hl⟩⟩⟩
            · exact absurd e g
            · have := a2.2 a ha; omega
        · rw [if_neg a2]
          refine ⟨fun _ => ⟨by omega, Or.inr ⟨g1, b1, ?_⟩⟩, fun _ => rfl⟩
          apply Classical.byContradiction
          intro hn
          refine a2 ⟨fun e => ?_, fun a ha => ?_⟩
          · obtain ⟨a, ha, _⟩ := b1; rw [e] at ha; cases ha
          · apply Classical.byContradiction
            intro hh; exact hn ⟨a, ha, by omega⟩
/-! ### Two clusters, one behind the other -/
def upB (n : Int) (B : List Int) : List Int := B.map (· + n)
def jnC (a b : Clu) : Clu := ⟨a.s ++ b.s, a.b ++ upB (a.s.length : Int) b.b⟩
theorem cAt_left {a b : List Snd} {j : Nat} (h : j < (coS a).length) : cAt (a ++ b) j = cAt a j := by
  unfold cAt
  rw [cpI_cat, List.getD_eq_getElem?_getD, List.getD_eq_getElem?_getD, List.getElem?_append_left (by rw [cpI_len]; exact h)]
theorem cAt_right {a b : List Snd} {j : Nat} (ha : coS a = []) (h : j < (coS b).length) : cAt (a ++ b) j = cAt b j + a.length := by
  unfold cAt
  have e : cpI a = [] := List.eq_nil_of_length_eq_zero (by rw [cpI_len, ha]; rfl)
  rw [cpI_cat, e, List.nil_append, List.getD_eq_getElem?_getD, List.getD_eq_getElem?_getD, List.getElem?_map]
  have : j < (cpI b).length := by rw [cpI_len]; exact h
  rw [List.getElem?_eq_getElem this]; rfl
theorem cls_join {a b : Clu} (h : clsC a.s a.b = 4 ∨ clsC b.s b.b = 4) : clsC (jnC a b).s (jnC a b).b = 4 := by
  have hb : btL (jnC a b).s = btL a.s + btL b.s := btL_cat _ _
  by_cases hm : mlB (jnC a b).s = false
  · refine cls_four.2 ⟨?_, Or.inl hm⟩
    rcases h with h | h
    · have := (cls_four.1 h).1; omega
    · have := (cls_four.1 h).1; omega
  · have hm1 : mlB (jnC a b).s = true := by simpa using hm
    obtain ⟨x, y, e, hx, hy⟩ := mlB_yes hm1
    have e2 : coS a.s ++ coS b.s = [x, y] := by rw [← coS_cat]; exact e
    have ba := btL_core a.s
    have bb := btL_core b.s
    have hx1 : btS x ≤ 1 := btS_one (by omega)
    have hy1 : btS y ≤ 1 := btS_one (by omega)
    rcases h with h | h
    · obtain ⟨h2, h3⟩ := cls_four.1 h
      refine cls_four.2 ⟨by omega, Or.inr ⟨hm1, ?_⟩⟩
      rcases hc : coS a.s with _ | ⟨u, _ | ⟨v, r⟩⟩
      · rw [hc] at ba; simp [btL] at ba; have : btL a.s = (List.map btS a.s).sum := rfl; omega
      · rw [hc] at e2
        have : u = x := by simpa using (List.cons.inj e2).1
        subst this
        rw [hc] at ba; have : btL [u] = btS u := by simp [btL]
        omega
      · rw [hc] at e2
        have e3 : u = x ∧ v = y ∧ r = [] := by
          rw [List.cons_append, List.cons_append] at e2
          have := List.cons.inj e2
          have h4 := List.cons.inj this.2
          have h5 := List.append_eq_nil_iff.1 h4.2
          exact ⟨this.1, h4.1, h5.1⟩
        obtain ⟨rfl, rfl, rfl⟩ := e3
        rcases h3 with h3 | ⟨_, ⟨p, hp, hp1⟩, ⟨q, hq, hq1⟩⟩
        · rw [mlB_is hc, hx, hy] at h3; cases h3
        · refine ⟨⟨p, List.mem_append_left _ hp, ?_⟩, ⟨q, List.mem_append_left _ hq, ?_⟩⟩
          · show p ≤ cAt (a.s ++ b.s) 1
            rw [cAt_left (by rw [hc]; simp)]; exact hp1
          · show cAt (a.s ++ b.s) 0 < q
            rw [cAt_left (by rw [hc]; simp)]; exact hq1
    · obtain ⟨h2, h3⟩ := cls_four.1 h
      refine cls_four.2 ⟨by omega, Or.inr ⟨hm1, ?_⟩⟩
      have key : coS a.s = [] ∧ coS b.s = [x, y] := by
        rcases hc : coS a.s with _ | ⟨u, _ | ⟨v, r⟩⟩
        · rw [hc, List.nil_append] at e2; exact ⟨rfl, e2⟩
        · rw [hc] at e2
          have e3 : coS b.s = [y] := (List.cons.inj e2).2
          rw [e3] at bb; have : btL [y] = btS y := by simp [btL]
          omega
        · rw [hc] at e2
          rw [List.cons_append, List.cons_append] at e2
          have := List.cons.inj e2
          have h4 := List.cons.inj this.2
          have h5 := List.append_eq_nil_iff.1 h4.2
          rw [h5.2] at bb; have : btL ([] : List Snd) = 0 := rfl
          omega
      rcases h3 with h3 | ⟨_, ⟨p, hp, hp1⟩, ⟨q, hq, hq1⟩⟩
      · rw [mlB_is key.2, hx, hy] at h3; cases h3
      · refine ⟨⟨p + a.s.length, List.mem_append_right _ (List.mem_map.2 ⟨p, hp, rfl⟩), ?_⟩, ⟨q + a.s.length, List.mem_append_right _ (List.mem_map.2 ⟨q, hq, rfl⟩), ?_⟩⟩
        · show p + a.s.length ≤ cAt (a.s ++ b.s) 1
          rw [cAt_right key.1 (by rw [key.2]; simp)]; omega
        · show cAt (a.s ++ b.s) 0 < q + a.s.length
          rw [cAt_right key.1 (by rw [key.2]; simp)]; omega
theorem join_ok {a b : Clu} (ha : COk a) (hb : COk b) (h1 : a.s.length + b.s.length ≤ 12) (h2 : a.b.length + b.b.length ≤ 12) : COk (jnC a b) := by
  refine ⟨?_, ?_, ?_, ?_, ?_⟩
  · show (a.s ++ b.s).length ≤ 12; rw [List.length_append]; exact h1
  · show (a.b ++ upB _ b.b).length ≤ 12; unfold upB; rw [List.length_append, List.length_map]; exact h2
  · intro x hx
    rcases List.mem_append.1 hx with hx | hx
    · exact ha.snd x hx
    · exact hb.snd x hx
  · intro z hz
    show 0 ≤ z ∧ z ≤ ((a.s ++ b.s).length : Int)
    rw [List.length_append]
    rcases List.mem_append.1 hz with hz | hz
    · have := ha.brk z hz; omega
    · obtain ⟨u, hu, rfl⟩ := List.mem_map.1 hz
      have := hb.brk u hu; omega
  · show (a.b ++ upB _ b.b).Pairwise (· ≤ ·)
    rw [List.pairwise_append]
    refine ⟨ha.asc, List.pairwise_map.2 (hb.asc.imp fun h => by omega), fun u hu v hv => ?_⟩
    obtain ⟨z, hz, rfl⟩ := List.mem_map.1 hv
    have := ha.brk u hu; have := hb.brk z hz; omega
/-! ### Two parts -/
def ltB (n : Int) (B : List Int) : List Int := B.filter (fun a => decide (a ≤ n))
def gtB (n : Int) (B : List Int) : List Int := (B.filter (fun a => !decide (a ≤ n))).map (· - n)
def spA (c : Clu) (k : Nat) : Clu := ⟨c.s.take k, ltB k c.b⟩
def spB (c : Clu) (k : Nat) : Clu := ⟨c.s.drop k, gtB k c.b⟩
theorem asc_cut : ∀ {B : List Int} (n : Int), B.Pairwise (· ≤ ·) → B.filter (fun a => decide (a ≤ n)) ++ B.filter (fun a => !decide (a ≤ n)) = B
  | [], _, _ => rfl
  | a :: r, n, h => by
    have h1 := List.pairwise_cons.1 h
    have ih := asc_cut n h1.2
    rw [List.filter_cons, List.filter_cons]
    by_cases g : a ≤ n
    · rw [if_pos (by simp [g]), if_neg (by simp [g]), List.cons_append, ih]
    · have e : r.filter (fun a => decide (a ≤ n)) = [] := List.filter_eq_nil_iff.2 fun z hz => by
        have := h1.1 z hz; simp; omega
      rw [if_neg (by simp [g]), if_pos (by simp [g]), e]
      rw [e, List.nil_append] at ih
      rw [ih]; rfl
theorem asc_take {B : List Int} {n : Int} {f : Nat} (h : B.Pairwise (· ≤ ·)) (h1 : ∀ (j : Nat) a, B[j]? = some a → (j < f ↔ a ≤ n)) : B.take f = ltB n B ∧ B.drop f = B.filter (fun a => !decide (a ≤ n)) := by
  have e1 : (B.take f).filter (fun a => decide (a ≤ n)) = B.take f := List.filter_eq_self.2 fun a ha => by
    obtain ⟨j, hj, e⟩ := List.mem_iff_getElem.1 ha
    rw [List.length_take] at hj
    rw [List.getElem_take] at e
    have := (h1 j a (by rw [List.getElem?_eq_getElem (by omega), e])).1 (by omega)
    simp [this]
  have e2 : (B.drop f).filter (fun a => decide (a ≤ n)) = [] := List.filter_eq_nil_iff.2 fun a ha => by
    obtain ⟨j, hj, e⟩ := List.mem_iff_getElem.1 ha
    rw [List.length_drop] at hj
    rw [List.getElem_drop] at e
    have := (h1 (f + j) a (by rw [List.getElem?_eq_getElem (by omega), e]))
    simp; omega
  have e3 : (B.take f).filter (fun a => !decide (a ≤ n)) = [] := List.filter_eq_nil_iff.2 fun a ha => by
    rw [← e1] at ha
    simpa using (List.mem_filter.1 ha).2
  have e4 : (B.drop f).filter (fun a => !decide (a ≤ n)) = B.drop f := List.filter_eq_self.2 fun a ha => by
    have := List.filter_eq_nil_iff.1 e2 a ha
    simpa using this
  have s1 : ltB n B = B.take f := by
    unfold ltB
    conv => lhs; rw [← List.take_append_drop f B]
    rw [List.filter_append, e1, e2, List.append_nil]
  have s2 : B.filter (fun a => !decide (a ≤ n)) = B.drop f := by
    conv => lhs; rw [← List.take_append_drop f B]
    rw [List.filter_append, e3, e4, List.nil_append]
  exact ⟨s1.symm, s2.symm⟩
theorem split_join {c : Clu} {k : Nat} (hc : COk c) (hk : k ≤ c.s.length) : jnC (spA c k) (spB c k) = c := by
  refine Clu.eq (List.take_append_drop _ _) ?_
  show ltB k c.b ++ upB ((c.s.take k).length : Int) (gtB k c.b) = c.b
  unfold upB gtB ltB
  rw [List.length_take, Nat.min_eq_left hk, List.map_map]
  have e : ((fun x : Int => x + (k : Int)) ∘ fun x => x - (k : Int)) = id := by funext x; simp
  rw [e, List.map_id]
  exact asc_cut _ hc.asc
theorem split_okA {c : Clu} {k : Nat} (hc : COk c) (hk : k ≤ c.s.length) : COk (spA c k) := by
  have h1 := hc.ns
  have h2 := hc.nb
  refine ⟨?_, ?_, fun x hx => hc.snd x (List.mem_of_mem_take hx), ?_, hc.asc.filter _⟩
  · show (c.s.take k).length ≤ 12; rw [List.length_take]; omega
  · exact Nat.le_trans (List.length_filter_le _ _) h2
  · intro a ha
    show 0 ≤ a ∧ a ≤ ((c.s.take k).length : Int)
    have := List.mem_filter.1 ha
    have h3 := hc.brk a this.1
    have h4 : a ≤ k := by simpa using this.2
    rw [List.length_take]; omega
theorem split_okB {c : Clu} {k : Nat} (hc : COk c) (hk : k ≤ c.s.length) : COk (spB c k) := by
  have h1 := hc.ns
  have h2 := hc.nb
  refine ⟨?_, ?_, fun x hx => hc.snd x (List.mem_of_mem_drop hx), ?_, ?_⟩
  · show (c.s.drop k).length ≤ 12; rw [List.length_drop]; omega
  · show ((c.b.filter _).map _).length ≤ 12
    rw [List.length_map]
    exact Nat.le_trans (List.length_filter_le _ _) h2
  · intro a ha
    show 0 ≤ a ∧ a ≤ ((c.s.drop k).length : Int)
    obtain ⟨u, hu, rfl⟩ := List.mem_map.1 ha
    have := List.mem_filter.1 hu
    have h3 := hc.brk u this.1
    have h4 : (k : Int) < u := by simpa using this.2
    rw [List.length_drop]; omega
  · show ((c.b.filter _).map _).Pairwise (· ≤ ·)
    exact List.pairwise_map.2 ((hc.asc.filter _).imp fun h => by omega)
/-! ### The order -/
def lx {α : Type} (f : α → α → Int) : List α → List α → Int
  | [], [] => 0
  | [], _ :: _ => -1
  | _ :: _, [] => 1
  | x :: a, y :: b => if f x y ≠ 0 then f x y else lx f a b
structure Tot {α : Type} (f : α → α → Int) : Prop where
  rng : ∀ x y, f x y = -1 ∨ f x y = 0 ∨ f x y = 1
  zero : ∀ x y, f x y = 0 ↔ x = y
  neg : ∀ x y, f y x = - f x y
  trans : ∀ x y z, f x y ≤ 0 → f y z ≤ 0 → f x z ≤ 0
theorem lx_tot {α : Type} {f : α → α → Int} (h : Tot f) : Tot (lx f) := by
  have rng : ∀ (x y : List α), lx f x y = -1 ∨ lx f x y = 0 ∨ lx f x y = 1 := by
    intro x
    induction x with
    | nil => intro y; cases y <;> simp [lx]
    | cons a r ih =>
      intro y
      cases y with
      | nil => simp [lx]
      | cons b s =>
        unfold lx
        split
        · exact h.rng a b
        · exact ih s
  have zero : ∀ (x y : List α), lx f x y = 0 ↔ x = y := by
    intro x
    induction x with
    | nil => intro y; cases y <;> simp [lx]
    | cons a r ih =>
      intro y
      cases y with
      | nil => simp [lx]
      | cons b s =>
        unfold lx
        by_cases e : f a b = 0
        · rw [if_neg (by simp [e]), ih s, (h.zero a b).1 e]; simp
        · rw [if_pos e]
          constructor
          · intro g; exact absurd g e
          · intro g; injection g with g1 g2; exact absurd ((h.zero a b).2 g1) e
  have neg : ∀ (x y : List α), lx f y x = - lx f x y := by
    intro x
    induction x with
    | nil => intro y; cases y <;> simp [lx]
    | cons a r ih =>
      intro y
      cases y with
      | nil => simp [lx]
      | cons b s =>
        unfold lx
        rw [h.neg a b]
        by_cases e : f a b = 0
        · rw [if_neg (by simp [e]), if_neg (by simp [e])]; exact ih s
        · rw [if_pos (by omega), if_pos e]
  have trans : ∀ (x y z : List α), lx f x y ≤ 0 → lx f y z ≤ 0 → lx f x z ≤ 0 := by
    intro x
    induction x with
    | nil => intro y z _ _; cases z <;> simp [lx]
    | cons a r ih =>
      intro y z h1 h2
      cases y with
      | nil => simp [lx] at h1
      | cons b s =>
        cases z with
        | nil => simp [lx] at h2
        | cons c t =>
          unfold lx at h1 h2 ⊢
          by_cases e1 : f a b = 0
          · rw [if_neg (by simp [e1])] at h1
            have := (h.zero a b).1 e1
            subst this
            by_cases e2 : f a c = 0
            · rw [if_neg (by simp [e2])] at h2 ⊢
              exact ih s t h1 h2
            · rw [if_pos e2] at h2 ⊢; exact h2
          · rw [if_pos e1] at h1
            by_cases e2 : f b c = 0
            · have := (h.zero b c).1 e2
              subst this
              rw [if_pos e1]; exact h1
            · rw [if_pos e2] at h2
              have h3 := h.trans a b c h1 h2
              have h4 : ¬ f a c = 0 := fun e => by
                have := (h.zero a c).1 e
                subst this
                have := h.neg a b
                omega
              rw [if_pos h4]; exact h3
  exact ⟨rng, zero, neg, trans⟩
theorem cmpI_trans {a b c : Int} (h1 : Lib.compareInt a b ≤ 0) (h2 : Lib.compareInt b c ≤ 0) : Lib.compareInt a c ≤ 0 := by
  rcases cmpI_cases a b with ⟨h, g⟩ | ⟨h, g⟩ | ⟨h, g⟩ <;> rcases cmpI_cases b c with ⟨h3, g3⟩ | ⟨h3, g3⟩ | ⟨h3, g3⟩ <;> rcases cmpI_cases a c with ⟨h4, g4⟩ | ⟨h4, g4⟩ | ⟨h4, g4⟩ <;> omega
theorem tot_int : Tot Lib.compareInt := ⟨fun x y => by rcases cmpI_cases x y with ⟨h, _⟩ | ⟨h, _⟩ | ⟨h, _⟩ <;> rw [h] <;> simp,
  fun x y => by rcases cmpI_cases x y with ⟨h, g⟩ | ⟨h, g⟩ | ⟨h, g⟩ <;> rw [h] <;> constructor <;> intro e <;> first | exact g | omega | (cases e),
  cmpI_neg, fun _ _ _ => cmpI_trans⟩
theorem tot_snd : Tot cmpS := ⟨cmpS_rng, fun _ _ => cmpS_zero, cmpS_neg, fun _ _ _ => cmpS_trans⟩
def cmpC (a b : Clu) : Int := if lx cmpS a.s b.s ≠ 0 then lx cmpS a.s b.s else lx Lib.compareInt a.b b.b
theorem tot_clu : Tot cmpC := by
  have h1 := lx_tot tot_snd
  have h2 := lx_tot tot_int
  refine ⟨fun x y => ?_, fun x y => ?_, fun x y => ?_, fun x y z => ?_⟩
  · unfold cmpC; split
    · exact h1.rng _ _
    · exact h2.rng _ _
  · unfold cmpC
    by_cases e : lx cmpS x.s y.s = 0
    · rw [if_neg (by simp [e]), h2.zero]
      exact ⟨fun g => Clu.eq ((h1.zero _ _).1 e) g, fun g => by rw [g]⟩
    · rw [if_pos e]
      exact ⟨fun g => absurd g e, fun g => absurd ((h1.zero _ _).2 (by rw [g])) e⟩
  · unfold cmpC
    rw [h1.neg x.s y.s, h2.neg x.b y.b]
    by_cases e : lx cmpS x.s y.s = 0
    · rw [if_neg (by simp [e]), if_neg (by simp [e])]
    · rw [if_pos (by omega), if_pos e]
  · unfold cmpC
    intro g1 g2
    by_cases e1 : lx cmpS x.s y.s = 0
    · rw [if_neg (by simp [e1])] at g1
      rw [(h1.zero _ _).1 e1]
      by_cases e2 : lx cmpS y.s z.s = 0
      · rw [if_neg (by simp [e2])] at g2 ⊢
        exact h2.trans _ _ _ g1 g2
      · rw [if_pos e2] at g2 ⊢; exact g2
    · rw [if_pos e1] at g1
      by_cases e2 : lx cmpS y.s z.s = 0
      · rw [← (h1.zero _ _).1 e2, if_pos e1]; exact g1
      · rw [if_pos e2] at g2
        have h3 := h1.trans _ _ _ g1 g2
        have h4 : ¬ lx cmpS x.s z.s = 0 := fun e => by
          have := (h1.zero _ _).1 e
          rw [← this] at g2 e2
          have := h1.neg x.s y.s
          omega
        rw [if_pos h4]; exact h3
/-! ### A breath ahead; the coda -/
theorem core_last : ∀ (n : Nat) (L : List Snd), L.length = n → coS L ≠ [] → ∃ A x C, L = A ++ x :: C ∧ coS C = [] ∧ ¬ x.k = 9 ∧ lstC L = A.length ∧ coS L = coS A ++ [x] := by
  intro n
  induction n with
  | zero => intro L h h1; rw [List.eq_nil_of_length_eq_zero h] at h1; exact absurd rfl h1
  | succ n ih =>
    intro L h h1
    have hne : L ≠ [] := fun e => by rw [e] at h; cases h
    obtain ⟨r, z, rfl⟩ : ∃ r z, L = r ++ [z] := ⟨L.dropLast, L.getLast hne, (List.dropLast_concat_getLast hne).symm⟩
    rw [List.length_append, List.length_singleton] at h
    by_cases hz : z.k = 9
    · have e : coS (r ++ [z]) = coS r := by rw [coS_snoc, if_pos hz, List.append_nil]
      have e2 : cpI (r ++ [z]) = cpI r := by rw [cpI_snoc, if_pos hz, List.append_nil]
      obtain ⟨A, x, C, rfl, hC, hx, hl, hs⟩ := ih r (by omega) (by rw [← e]; exact h1)
      refine ⟨A, x, C ++ [z], by simp, by rw [coS_snoc, hC, if_pos hz]; rfl, hx, ?_, by rw [e]; exact hs⟩
      unfold lstC at *; rw [e2]; exact hl
    · refine ⟨r, z, [], rfl, rfl, hz, ?_, by rw [coS_snoc, if_neg hz]⟩
      unfold lstC
      rw [cpI_snoc, if_neg hz]; simp
theorem coS_ne {L : List Snd} (h : 1 ≤ btL L) : coS L ≠ [] := fun e => by
  have := btL_core L
  rw [e] at this
  have : btL ([] : List Snd) = 0 := rfl
  omega
theorem coda_facts (S : List Snd) (B : List Int) : 0 ≤ cdC S B ∧ cdC S B ≤ S.length ∧ (clsC S B = 4 ↔ 0 < cdC S B) ∧ (cdC S B = 0 ∨ btL (S.drop (cdC S B).toNat) ≤ 1) := by
  by_cases h : clsC S B = 4
  · have hb := (cls_four.1 h).1
    obtain ⟨A, x, C, rfl, hC, hx, hl, hs⟩ := core_last _ S rfl (coS_ne (by omega))
    have bC : btL C = 0 := by rw [btL_core, hC]; rfl
    have bx : btL (x :: C) = btS x + btL C := by simp [btL]
    have hlen : (A ++ x :: C).length = A.length + (C.length + 1) := by rw [List.length_append, List.length_cons]
    have hd : dblC (A ++ x :: C) = (x.k == 7) := by unfold dblC; rw [hs, List.getLast?_append]; simp
    have hcd : cdC (A ++ x :: C) B = if dblC (A ++ x :: C) = true then lstC (A ++ x :: C) + 1 else lstC (A ++ x :: C) := by unfold cdC; rw [if_pos h]
    rw [hcd, hd, hl, hlen]
    by_cases h7 : x.k = 7
    · rw [if_pos (by simp [h7])]
      refine ⟨by omega, by omega, ⟨fun _ => by omega, fun _ => h⟩, Or.inr ?_⟩
      rw [show ((A.length : Int) + 1).toNat = (A ++ [x]).length by rw [List.length_append, List.length_singleton]; omega, show A ++ x :: C = (A ++ [x]) ++ C by simp, List.drop_left]
      omega
    · rw [if_neg (by simp [h7])]
      have b1 := btS_one h7
      have hA : 0 < A.length := by
        apply Classical.byContradiction
        intro hn
        have : A = [] := List.eq_nil_of_length_eq_zero (by omega)
        subst this
        rw [List.nil_append, bx] at hb
        omega
      refine ⟨by omega, by omega, ⟨fun _ => by omega, fun _ => h⟩, Or.inr ?_⟩
      rw [Int.toNat_natCast, List.drop_left, bx]
      omega
  · have hcd : cdC S B = 0 := by unfold cdC; rw [if_neg h]
    rw [hcd]
    exact ⟨Int.le_refl _, by omega, ⟨fun e => absurd e h, fun e => by omega⟩, Or.inl rfl⟩
theorem breath_same {z : Snd} (hz : z.k = 9) (S : List Snd) (B : List Int) : clsC (z :: S) (upB 1 B) = clsC S B ∧ cdC (z :: S) (upB 1 B) = if clsC S B = 4 then cdC S B + 1 else cdC S B := by
  have e1 : coS (z :: S) = coS S := by unfold coS; rw [List.filter_cons, if_neg (by simp [hz])]
  have e2 : cpI (z :: S) = (cpI S).map (· + 1) := by
    unfold cpI
    rw [cpF, if_pos hz]
    exact cpF_up S 0 1
  have eb : btL (z :: S) = btL S := by rw [btL_core, e1, ← btL_core]
  have em : mlB (z :: S) = mlB S := by unfold mlB; rw [e1]
  have ea : ∀ j, j < (coS S).length → cAt (z :: S) j = cAt S j + 1 := by
    intro j hj
    unfold cAt
    rw [e2, List.getD_eq_getElem?_getD, List.getD_eq_getElem?_getD, List.getElem?_map, List.getElem?_eq_getElem (by rw [cpI_len]; exact hj)]
    rfl
  have hc : clsC (z :: S) (upB 1 B) = clsC S B := by
    unfold clsC
    rw [eb, em]
    by_cases h1 : btL S ≤ 1
    · rw [if_pos h1, if_pos h1]
    · rw [if_neg h1, if_neg h1]
      by_cases h2 : mlB S = false
      · rw [if_pos h2, if_pos h2]
      · rw [if_neg h2, if_neg h2]
        obtain ⟨x, y, e, _, _⟩ := mlB_yes (by simpa using h2)
        rw [ea 0 (by rw [e]; simp), ea 1 (by rw [e]; simp)]
        have p1 : (∀ a ∈ upB 1 B, cAt S 1 + 1 < a) ↔ ∀ a ∈ B, cAt S 1 < a := by
          unfold upB
          constructor
          · intro h a ha; have := h (a + 1) (List.mem_map.2 ⟨a, ha, rfl⟩); omega
          · intro h a ha; obtain ⟨u, hu, rfl⟩ := List.mem_map.1 ha; have := h u hu; omega
        have p2 : (upB 1 B ≠ [] ∧ ∀ a ∈ upB 1 B, a ≤ cAt S 0 + 1) ↔ B ≠ [] ∧ ∀ a ∈ B, a ≤ cAt S 0 := by
          unfold upB
          constructor
          · rintro ⟨h0, h⟩; exact ⟨fun e => h0 (by rw [e]; rfl), fun a ha => by have := h (a + 1) (List.mem_map.2 ⟨a, ha, rfl⟩); omega⟩
          · rintro ⟨h0, h⟩; exact ⟨fun e => h0 (List.map_eq_nil_iff.1 e), fun a ha => by obtain ⟨u, hu, rfl⟩ := List.mem_map.1 ha; have := h u hu; omega⟩
        simp only [p1, p2]
  refine ⟨hc, ?_⟩
  unfold cdC
  rw [hc]
  by_cases h : clsC S B = 4
  · rw [if_pos h, if_pos h, if_pos h]
    have hd : dblC (z :: S) = dblC S := by unfold dblC; rw [e1]
    have hl : lstC (z :: S) = lstC S + 1 := by
      have hne : coS S ≠ [] := coS_ne (by have := (cls_four.1 h).1; omega)
      have hn2 : cpI S ≠ [] := fun e => hne (List.eq_nil_of_length_eq_zero (by rw [← cpI_len, e]; rfl))
      unfold lstC
      rw [e2, List.getLastD_eq_getLast?, List.getLastD_eq_getLast?, List.getLast?_map, List.getLast?_eq_some_getLast hn2]
      rfl
    rw [hd, hl]
    split <;> rfl
  · rw [if_neg h, if_neg h, if_neg h]
end Go.Proofs.Ythcdbhancfpldaa
