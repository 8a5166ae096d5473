/- Plain mathematics: classes that are told apart step by step, by where their letters lead. Nothing here speaks of the program. -/
import Derived.Test.YtdkdfmflghbhiaaAMf
namespace Go.Proofs.Ytdkdfmflghbhiaa
set_option linter.unusedVariables false

/-- The number of the class to which something leads; 0 for nowhere. -/
def oI (o : Nat → Int) (t : Int) : Int := if t < 0 then 0 else o t.toNat
theorem oI_neg {o : Nat → Int} {t : Int} (h : t < 0) : oI o t = 0 := if_pos h
theorem oI_nat {o : Nat → Int} (n : Nat) : oI o (n : Int) = o n := by unfold oI; rw [if_neg (by omega)]; rfl
/-- Classes that are not too fine, with n numbers. -/
structure Moo (N k : Nat) (nxt : Nat → Nat → Int) (acc lv : Nat → Bool) (o : Nat → Int) (n : Nat) : Prop where
  d : ∀ q, q < N → lv q = false → o q = 0
  l : ∀ q, q < N → lv q = true → 1 ≤ o q
  h1 : ∀ x y : Nat, x < N → y < N → lv x = true → lv y = true → Alike k nxt acc x y → o x = o y
  h2 : ∀ x y : Nat, x < N → y < N → lv x = true → lv y = true → o x = o y → acc x = acc y
  full : ∀ v : Nat, v < n → ∃ q, q < N ∧ lv q = true ∧ o q = (v : Int) + 1
/-- The classes of the next step. -/
structure MooNext (N k : Nat) (nxt : Nat → Nat → Int) (lv : Nat → Bool) (o o' : Nat → Int) (n' : Nat) : Prop where
  d : ∀ q, q < N → lv q = false → o' q = 0
  l : ∀ q, q < N → lv q = true → 1 ≤ o' q ∧ o' q ≤ n'
  same : ∀ x y : Nat, x < N → y < N → lv x = true → lv y = true → (o' x = o' y ↔ o x = o y ∧ ∀ c, c < k → oI o (nxt x c) = oI o (nxt y c))
  full : ∀ v : Nat, v < n' → ∃ q, q < N ∧ lv q = true ∧ o' q = (v : Int) + 1
section
variable {N k : Nat} {nxt : Nat → Nat → Int} {acc lv : Nat → Bool} {o o' : Nat → Int} {n n' : Nat}
theorem oI_alike (hs : Sys N k nxt acc lv) (h : Moo N k nxt acc lv o n) {s t : Int} (s1 : -1 ≤ s) (s2 : s < N) (t1 : -1 ≤ t) (t2 : t < N) (e : Alike k nxt acc s t) : oI o s = oI o t := by
  have cases : ∀ s : Int, -1 ≤ s → s < N → (∃ m : Nat, s = m ∧ m < N ∧ lv m = true ∧ oI o s = o m) ∨ ((∀ u, Let k u → aq acc (u.foldl (gq nxt) s) = false) ∧ oI o s = 0) := by
    intro s s1 s2
    by_cases e : s < 0
    · right
      have e1 : s = -1 := by omega
      subst e1
      exact ⟨fun u _ => by rw [fold_neg]; exact aq_neg (by omega), oI_neg (by omega)⟩
    · obtain ⟨m, rfl⟩ := Int.eq_ofNat_of_zero_le (show 0 ≤ s by omega)
      have hm : m < N := by omega
      cases hl : lv m with
      | true => exact .inl ⟨m, rfl, hm, hl, oI_nat m⟩
      | false => exact .inr ⟨fun u hu => hs.dead hm hl u hu, (oI_nat m).trans (h.d m hm hl)⟩
  have no : ∀ (m : Nat) (t : Int), m < N → lv m = true → Alike k nxt acc m t → ¬ (∀ u, Let k u → aq acc (u.foldl (gq nxt) t) = false) := by
    intro m t hm hl e hd
    obtain ⟨u, hu, ha⟩ := (hs.live m hm).1 hl
    have := e u hu
    rw [hd u hu, ha] at this; cases this
  rcases cases s s1 s2 with ⟨a, rfl, a1, a2, a3⟩ | ⟨a1, a2⟩ <;> rcases cases t t1 t2 with ⟨b, rfl, b1, b2, b3⟩ | ⟨b1, b2⟩
  · rw [a3, b3]; exact h.h1 a b a1 b1 a2 b2 e
  · exact absurd b1 (no a t a1 a2 e)
  · exact absurd a1 (no b s b1 b2 (fun u hu => (e u hu).symm))
  · rw [a2, b2]
theorem MooNext.moo (hs : Sys N k nxt acc lv) (h : Moo N k nxt acc lv o n) (g : MooNext N k nxt lv o o' n') : Moo N k nxt acc lv o' n' := by
  refine ⟨g.d, fun q hq hl => (g.l q hq hl).1, ?_, ?_, g.full⟩
  · intro x y hx hy lx ly e
    refine (g.same x y hx hy lx ly).2 ⟨h.h1 x y hx hy lx ly e, ?_⟩
    intro c hc
    obtain ⟨x1, x2⟩ := hs.nin x c hx hc
    obtain ⟨y1, y2⟩ := hs.nin y c hy hc
    refine oI_alike hs h x1 x2 y1 y2 ?_
    have := e.step hc
    rwa [gq_nat, gq_nat] at this
  · intro x y hx hy lx ly e
    exact h.h2 x y hx hy lx ly ((g.same x y hx hy lx ly).1 e).1
/-- There are not fewer numbers than before; and if there are as many, nothing was divided. -/
theorem MooNext.grows (h : Moo N k nxt acc lv o n) (g : MooNext N k nxt lv o o' n') : n ≤ n' ∧ (n' = n → 0 < n → ∀ x y : Nat, x < N → y < N → lv x = true → lv y = true → o x = o y → o' x = o' y) := by
  obtain ⟨r, hr⟩ : ∃ r : Nat → Nat, ∀ v, v < n → r v < N ∧ lv (r v) = true ∧ o (r v) = (v : Int) + 1 := by
    refine ⟨fun v => Classical.epsilon fun q => q < N ∧ lv q = true ∧ o q = (v : Int) + 1, fun v hv => Classical.epsilon_spec (h.full v hv)⟩
  -- a number of the new classes for each old one
  have key : ∀ (s : Nat → Nat), (∀ v, v < n → s v < N ∧ lv (s v) = true ∧ o (s v) = (v : Int) + 1) →
      ((List.range n).map fun v => (o' (s v) - 1).toNat).Nodup ∧ ∀ x ∈ (List.range n).map (fun v => (o' (s v) - 1).toNat), x < n' := by
    intro s hsv
    constructor
    · refine nodup_of ?_
      intro i j x e1 e2
      rw [List.getElem?_map] at e1 e2
      by_cases hi : i < n
      · by_cases hj : j < n
        · rw [List.getElem?_range hi] at e1
          rw [List.getElem?_range hj] at e2
          injection e1 with e1
          injection e2 with e2
          dsimp only at e1 e2
          obtain ⟨a1, a2, a3⟩ := hsv i hi
          obtain ⟨b1, b2, b3⟩ := hsv j hj
          have l1 := g.l _ a1 a2
          have l2 := g.l _ b1 b2
          have := ((g.same _ _ a1 b1 a2 b2).1 (by omega)).1
          omega
        · rw [List.getElem?_eq_none (by simp; omega)] at e2; cases e2
      · rw [List.getElem?_eq_none (by simp; omega)] at e1; cases e1
    · intro x hx
      obtain ⟨v, hv, rfl⟩ := List.mem_map.1 hx
      obtain ⟨a1, a2, _⟩ := hsv v (List.mem_range.1 hv)
      have := g.l _ a1 a2
      omega
  constructor
  · obtain ⟨k1, k2⟩ := key r hr
    have := few_below n' _ k1 k2
    simpa using this
  · intro he hn x y hx hy lx ly e
    apply Classical.byContradiction
    intro hne
    have hpx := h.l x hx lx
    have gx := g.l x hx lx
    have gy := g.l y hy ly
    -- whether the number of x is one of those of the old classes
    by_cases hbig : ∃ v : Nat, v < n ∧ o x = (v : Int) + 1
    · obtain ⟨v0, hv0, hov⟩ := hbig
      have hs2 : ∀ v, v < n → (if v = v0 then x else r v) < N ∧ lv (if v = v0 then x else r v) = true ∧ o (if v = v0 then x else r v) = (v : Int) + 1 := by
        intro v hv
        by_cases c : v = v0
        · rw [if_pos c, c]; exact ⟨hx, lx, hov⟩
        · rw [if_neg c]; exact hr v hv
      obtain ⟨k1, k2⟩ := key _ hs2
      have := few_below n' ((o' y - 1).toNat :: (List.range n).map (fun v => (o' (if v = v0 then x else r v) - 1).toNat)) (List.nodup_cons.2 ⟨?_, k1⟩) (fun z hz => by
        rcases List.mem_cons.1 hz with f | f
        · rw [f]; omega
        · exact k2 z f)
      · simp at this; omega
      · intro hm
        obtain ⟨v, hv, e2⟩ := List.mem_map.1 hm
        have hv := List.mem_range.1 hv
        obtain ⟨a1, a2, a3⟩ := hs2 v hv
        have l1 := g.l _ a1 a2
        have e3 := (g.same _ y a1 hy a2 ly).1 (by omega)
        rw [a3, ← e, hov] at e3
        have e4 : v = v0 := by have := e3.1; omega
        rw [if_pos e4] at e2
        omega
    · obtain ⟨k1, k2⟩ := key r hr
      have := few_below n' ((o' x - 1).toNat :: (List.range n).map (fun v => (o' (r v) - 1).toNat)) (List.nodup_cons.2 ⟨?_, k1⟩) (fun z hz => by
        rcases List.mem_cons.1 hz with f | f
        · rw [f]; omega
        · exact k2 z f)
      · simp at this; omega
      · intro hm
        obtain ⟨v, hv, e2⟩ := List.mem_map.1 hm
        have hv := List.mem_range.1 hv
        obtain ⟨a1, a2, a3⟩ := hr v hv
        have l1 := g.l _ a1 a2
        have e3 := ((g.same _ x a1 hx a2 lx).1 (by omega)).1
        exact hbig ⟨v, hv, by rw [← e3, a3]⟩
theorem MooNext.few (hs : Sys N k nxt acc lv) (g : MooNext N k nxt lv o o' n') : n' ≤ N := by
  obtain ⟨r, hr⟩ : ∃ r : Nat → Nat, ∀ v, v < n' → r v < N ∧ lv (r v) = true ∧ o' (r v) = (v : Int) + 1 := by
    refine ⟨fun v => Classical.epsilon fun q => q < N ∧ lv q = true ∧ o' q = (v : Int) + 1, fun v hv => Classical.epsilon_spec (g.full v hv)⟩
  have hd : ((List.range n').map r).Nodup := by
    refine nodup_of ?_
    intro i j x e1 e2
    rw [List.getElem?_map] at e1 e2
    by_cases hi : i < n'
    · by_cases hj : j < n'
      · rw [List.getElem?_range hi] at e1
        rw [List.getElem?_range hj] at e2
        injection e1 with e1
        injection e2 with e2
        have a := (hr i hi).2.2
        have b := (hr j hj).2.2
        rw [e1] at a
        rw [e2] at b
        omega
      · rw [List.getElem?_eq_none (by simp; omega)] at e2; cases e2
    · rw [List.getElem?_eq_none (by simp; omega)] at e1; cases e1
  have := few_below N _ hd (fun x hx => by
    obtain ⟨v, hv, rfl⟩ := List.mem_map.1 hx
    exact (hr v (List.mem_range.1 hv)).1)
  simpa using this
def oCls (o : Nat → Int) (t : Int) : Int := if t < 0 then -1 else if o t.toNat = 0 then -1 else o t.toNat
theorem oCls_neg {t : Int} (h : t < 0) : oCls o t = -1 := if_pos h
theorem oCls_nat (n : Nat) : oCls o (n : Int) = if o n = 0 then -1 else o n := by unfold oCls; rw [if_neg (by omega)]; rfl
/-- When nothing is divided any more, the classes are those of the words. -/
theorem MooNext.cls (hs : Sys N k nxt acc lv) (h : Moo N k nxt acc lv o n) (g : MooNext N k nxt lv o o' n') (he : n' = n) :
    Cls (gq nxt) (aq acc) k (fun t => -1 ≤ t ∧ t < N) (oCls o') := by
  have hm := g.moo hs h
  have eqv : ∀ x y : Nat, x < N → y < N → lv x = true → lv y = true → o x = o y → o' x = o' y := by
    intro x y hx hy lx ly e
    by_cases hn : 0 < n
    · exact (g.grows h).2 he hn x y hx hy lx ly e
    · have := g.l x hx lx
      omega
  have stepI : ∀ (x y c : Nat), x < N → y < N → lv x = true → lv y = true → o' x = o' y → c < k → oI o' (nxt x c) = oI o' (nxt y c) := by
    intro x y c hx hy lx ly e hc
    have e1 := ((g.same x y hx hy lx ly).1 e).2 c hc
    obtain ⟨x1, x2⟩ := hs.nin x c hx hc
    obtain ⟨y1, y2⟩ := hs.nin y c hy hc
    have cases : ∀ s : Int, -1 ≤ s → s < N → (oI o s = 0 ∧ oI o' s = 0) ∨ ∃ m : Nat, s = m ∧ m < N ∧ lv m = true := by
      intro s s1 s2
      by_cases e : s < 0
      · exact .inl ⟨oI_neg e, oI_neg e⟩
      · obtain ⟨m, rfl⟩ := Int.eq_ofNat_of_zero_le (show 0 ≤ s by omega)
        have hm : m < N := by omega
        cases hl : lv m with
        | true => exact .inr ⟨m, rfl, hm, hl⟩
        | false => exact .inl ⟨(oI_nat m).trans (h.d m hm hl), (oI_nat m).trans (g.d m hm hl)⟩
    rcases cases _ x1 x2 with ⟨a1, a2⟩ | ⟨a, a1, a2, a3⟩ <;> rcases cases _ y1 y2 with ⟨b1, b2⟩ | ⟨b, b1, b2, b3⟩
    · rw [a2, b2]
    · rw [b1, oI_nat, a1] at e1
      have := h.l b b2 b3
      omega
    · rw [a1, oI_nat, b1] at e1
      have := h.l a a2 a3
      omega
    · rw [a1, b1, oI_nat, oI_nat] at e1 ⊢
      exact eqv a b a2 b2 a3 b3 e1
  have key : ∀ (u : List Nat), Let k u → ∀ s t : Int, -1 ≤ s → s < N → -1 ≤ t → t < N → oI o' s = oI o' t → aq acc (u.foldl (gq nxt) s) = aq acc (u.foldl (gq nxt) t) := by
    have dead : ∀ (u : List Nat), Let k u → ∀ s : Int, -1 ≤ s → s < N → oI o' s = 0 → aq acc (u.foldl (gq nxt) s) = false := by
      intro u hu s s1 s2 e
      by_cases e1 : s < 0
      · have e2 : s = -1 := by omega
        rw [e2, fold_neg]; exact aq_neg (by omega)
      · obtain ⟨m, rfl⟩ := Int.eq_ofNat_of_zero_le (show 0 ≤ s by omega)
        have hm : m < N := by omega
        cases hl : lv m with
        | true =>
          have := g.l m hm hl
          rw [show ((m : Int)) = ((m : Nat) : Int) from rfl, oI_nat] at e
          omega
        | false => exact hs.dead hm hl u hu
    have lives : ∀ s : Int, -1 ≤ s → s < N → oI o' s ≠ 0 → ∃ m : Nat, s = m ∧ m < N ∧ lv m = true := by
      intro s s1 s2 e
      by_cases e1 : s < 0
      · exact absurd (oI_neg e1) e
      · obtain ⟨m, rfl⟩ := Int.eq_ofNat_of_zero_le (show 0 ≤ s by omega)
        have hm : m < N := by omega
        cases hl : lv m with
        | true => exact ⟨m, rfl, hm, hl⟩
        | false => exact absurd ((oI_nat m).trans (g.d m hm hl)) e
    intro u
    induction u with
    | nil =>
      intro hu s t s1 s2 t1 t2 e
      by_cases e0 : oI o' s = 0
      · rw [dead [] hu s s1 s2 e0, dead [] hu t t1 t2 (e ▸ e0)]
      · obtain ⟨a, rfl, a1, a2⟩ := lives s s1 s2 e0
        obtain ⟨b, rfl, b1, b2⟩ := lives t t1 t2 (e ▸ e0)
        show aq acc (a : Int) = aq acc (b : Int)
        rw [aq_nat, aq_nat]
        rw [oI_nat, oI_nat] at e
        exact hm.h2 a b a1 b1 a2 b2 e
    | cons c u ih =>
      intro hu s t s1 s2 t1 t2 e
      by_cases e0 : oI o' s = 0
      · rw [dead _ hu s s1 s2 e0, dead _ hu t t1 t2 (e ▸ e0)]
      · obtain ⟨a, rfl, a1, a2⟩ := lives s s1 s2 e0
        obtain ⟨b, rfl, b1, b2⟩ := lives t t1 t2 (e ▸ e0)
        rw [List.foldl_cons, List.foldl_cons, gq_nat, gq_nat]
        rw [oI_nat, oI_nat] at e
        obtain ⟨x1, x2⟩ := hs.nin a c a1 hu.cons.1
        obtain ⟨y1, y2⟩ := hs.nin b c b1 hu.cons.1
        exact ih hu.cons.2 _ _ x1 x2 y1 y2 (stepI a b c a1 b1 a2 b2 e hu.cons.1)
  have toI : ∀ t : Int, -1 ≤ t → t < N → (oCls o' t = -1 ∧ oI o' t = 0) ∨ (∃ m : Nat, t = m ∧ m < N ∧ lv m = true ∧ oCls o' t = o' m ∧ 1 ≤ o' m) := by
    intro s s1 s2
    by_cases e1 : s < 0
    · exact .inl ⟨oCls_neg e1, oI_neg e1⟩
    · obtain ⟨m, rfl⟩ := Int.eq_ofNat_of_zero_le (show 0 ≤ s by omega)
      have hmN : m < N := by omega
      rw [show ((m : Int)) = ((m : Nat) : Int) from rfl, oCls_nat]
      cases hl : lv m with
      | true =>
        have := g.l m hmN hl
        exact .inr ⟨m, rfl, hmN, hl, if_neg (by omega), this.1⟩
      | false => exact .inl ⟨if_pos (g.d m hmN hl), (oI_nat m).trans (g.d m hmN hl)⟩
  refine ⟨?_, ?_, ?_⟩
  · rintro x ⟨x1, x2⟩
    rcases toI x x1 x2 with ⟨a1, a2⟩ | ⟨m, rfl, m1, m2, m3, m4⟩
    · refine ⟨fun _ u hu => ?_, fun _ => a1⟩
      have := key u hu x (-1) x1 x2 (by omega) (by omega) (a2.trans (oI_neg (by omega)).symm)
      rw [this, fold_neg]; exact aq_neg (by omega)
    · constructor
      · intro e; omega
      · intro e
        obtain ⟨u, hu, ha⟩ := (hs.live m m1).1 m2
        rw [e u hu] at ha; cases ha
  · rintro x y ⟨x1, x2⟩ ⟨y1, y2⟩ hx hy
    rcases toI x x1 x2 with ⟨a1, a2⟩ | ⟨m, rfl, m1, m2, m3, m4⟩
    · exact absurd a1 hx
    · rcases toI y y1 y2 with ⟨b1, b2⟩ | ⟨l, rfl, l1, l2, l3, l4⟩
      · exact absurd b1 hy
      · rw [m3, l3]
        constructor
        · intro e u hu
          exact key u hu _ _ x1 x2 y1 y2 (by rw [oI_nat, oI_nat]; exact e)
        · intro e; exact hm.h1 m l m1 l1 m2 l2 e
  · rintro x c ⟨x1, x2⟩ hc
    exact hs.go_in x1 x2 hc
end
end Go.Proofs.Ytdkdfmflghbhiaa
