/- Plain mathematics: an automaton whose states are classes is the minimal one. Nothing here speaks of the program. -/
import Derived.Test.YtdkdfmflghbhiaaAMb
namespace Go.Proofs.Ytdkdfmflghbhiaa
set_option linter.unusedVariables false

theorem pos_div {k i c : Nat} (hc : c < k) : (i * k + c) / k = i ∧ (i * k + c) % k = c := by
  have hk : 0 < k := by omega
  exact ⟨by rw [Nat.mul_comm, Nat.mul_add_div hk, Nat.div_eq_of_lt hc, Nat.add_zero], by rw [Nat.mul_comm, Nat.mul_add_mod, Nat.mod_eq_of_lt hc]⟩
theorem pos_up {k i n c : Nat} (hc : c < k) (h : i < n) : i * k + c < n * k := by
  have := Nat.mul_le_mul_right k (show i + 1 ≤ n from h)
  rw [Nat.add_mul] at this
  omega
theorem pos_mk (p k : Nat) : p / k * k + p % k = p := by rw [Nat.mul_comm]; exact Nat.div_add_mod p k
theorem let_cons {k c : Nat} {u : List Nat} (hc : c < k) (hu : Let k u) : Let k (c :: u) := fun d hd => by
  rcases List.mem_cons.1 hd with e | e
  · rw [e]; exact hc
  · exact hu d e

/-! ### Classes as states -/
section
variable {k : Nat} {f : Int → Nat → Int} {a : Int → Bool} {cl : List Int} {pa : List Nat} {P : Nat} {C0 : Int} {R : Au}
/-- R has the classes cl as its states. -/
structure IsQuot (k : Nat) (f : Int → Nat → Int) (a : Int → Bool) (cl : List Int) (R : Au) : Prop where
  lt : R.lt = k
  n : R.nx.length = cl.length
  rows : ∀ (i : Nat) (row : List Int), R.nx[i]? = some row → row.length = k
  acl : R.ac.length = cl.length
  st : R.st = if cl.length = 0 then -1 else 0
  go : ∀ (j : Nat) C c, cl[j]? = some C → c < k → (f C c = -1 ∧ R.go j c = -1) ∨ ∃ i : Nat, R.go j c = i ∧ cl[i]? = some (f C c)
  ac : ∀ (j : Nat) C, cl[j]? = some C → R.acc j = a C
theorem fold_dead (hf : ∀ c, f (-1) c = -1) : ∀ u : List Nat, u.foldl f (-1) = -1
  | [] => rfl
  | c :: u => by rw [List.foldl_cons, hf]; exact fold_dead hf u
theorem IsQuot.run (h : IsQuot k f a cl R) (hf : ∀ c, f (-1) c = -1) (ha : a (-1) = false) : ∀ (u : List Nat), Let k u → ∀ (j : Nat) C, cl[j]? = some C → R.acc (R.run j u) = a (u.foldl f C)
  | [], _, j, C, hj => h.ac j C hj
  | c :: u, hu, j, C, hj => by
    rw [Au.run_cons, List.foldl_cons]
    rcases h.go j C c hj hu.cons.1 with ⟨e1, e2⟩ | ⟨i, e1, e2⟩
    · rw [e1, e2, fold_dead hf, ha, R.run_neg, R.acc_neg (by omega)]
    · rw [e1]; exact h.run hf ha u hu.cons.2 i _ e2
theorem IsQuot.right (h : IsQuot k f a cl R) (hk : 0 < k) (hin : ∀ (j : Nat) c, j < R.n → c < k → -1 ≤ R.go j c ∧ R.go j c < R.n) : R.Right k := by
  refine ⟨h.lt, hk, ?_, by rw [h.acl, h.n], ?_, ?_⟩
  · intro i row hi
    refine ⟨h.rows i row hi, fun x hx => ?_⟩
    obtain ⟨c, hc⟩ := List.mem_iff_getElem?.1 hx
    have hck : c < k := by rw [← h.rows i row hi]; exact (List.getElem?_eq_some_iff.1 hc).1
    have := hin i c (List.getElem?_eq_some_iff.1 hi).1 hck
    unfold Au.go at this
    rw [if_neg (by omega)] at this
    simp only [Int.toNat_natCast] at this
    rw [List.getD_eq_getElem?_getD, List.getD_eq_getElem?_getD, hi] at this
    simp only [Option.getD_some] at this
    rw [hc] at this
    simpa using this
  · intro h0
    rw [h.st, if_pos]
    rw [← h.n]; exact h0
  · intro h0
    rw [h.st, if_neg (by rw [← h.n]; unfold Au.n at h0; omega)]
    omega
theorem IsQuot.inside (h : IsQuot k f a cl R) (j : Nat) (c : Nat) (hj : j < R.n) (hc : c < k) : -1 ≤ R.go j c ∧ R.go j c < R.n := by
  have hjl : j < cl.length := by rw [← h.n]; exact hj
  have hn : R.n = cl.length := h.n
  rcases h.go j cl[j] c (List.getElem?_eq_getElem hjl) hc with ⟨_, e⟩ | ⟨i, e1, e2⟩
  · rw [e]; omega
  · rw [e1, hn]
    have := (List.getElem?_eq_some_iff.1 e2).1
    omega
theorem canon_classes (hk : 0 < k) (h : IsQuot k f a cl R) (hf : ∀ c, f (-1) c = -1) (ha : a (-1) = false) (hb : Bfs f (fun q => q = -1) k C0 cl pa P) (hP : cl.length * k ≤ P)
    (live : ∀ (j : Nat) C, cl[j]? = some C → ∃ u, Let k u ∧ a (u.foldl f C) = true)
    (red : ∀ (i j : Nat) C D, cl[i]? = some C → cl[j]? = some D → (∀ u, Let k u → a (u.foldl f C) = a (u.foldl f D)) → C = D) :
    Canon k (fun u => a (u.foldl f C0)) R := by
  have hn : R.n = cl.length := h.n
  have hpos : 0 < cl.length := (List.getElem?_eq_some_iff.1 hb.first).1
  have hst : R.st = 0 := by rw [h.st, if_neg (by omega)]
  refine ⟨h.right hk h.inside, fun _ => hst, ?_, ?_, ?_, fun _ => ⟨pa, ?_⟩⟩
  · intro u hu
    show R.acc (R.run R.st u) = _
    rw [hst]
    exact h.run hf ha u hu 0 C0 hb.first
  · intro q hq
    have hql : q < cl.length := by omega
    obtain ⟨u, hu, e⟩ := live q _ (List.getElem?_eq_getElem hql)
    exact ⟨u, hu, by rw [h.run hf ha u hu q _ (List.getElem?_eq_getElem hql)]; exact e⟩
  · intro q r hq hr e
    have hql : q < cl.length := by omega
    have hrl : r < cl.length := by omega
    have h1 := List.getElem?_eq_getElem hql
    have h2 := List.getElem?_eq_getElem hrl
    have := red q r _ _ h1 h2 (fun u hu => by rw [← h.run hf ha u hu q _ h1, ← h.run hf ha u hu r _ h2]; exact e u hu)
    rw [this] at h1
    exact hb.nd q r _ h1 h2
  · refine ⟨rangeI_mk (by omega), ?_, ?_, ?_, ?_, hb.mono, ?_, ?_⟩
    · intro j x hx
      have := rangeI hx
      show ¬ x = -1
      omega
    · intro i j x h1 h2
      have a1 := rangeI h1
      have a2 := rangeI h2
      omega
    · rw [hb.len]; simp [hn]
    · intro j x p h0 hx hp
      obtain ⟨hj, rfl⟩ := rangeI hx
      have hjl : j < cl.length := by omega
      obtain ⟨b1, b2, y, b3, b4⟩ := hb.par j _ p h0 (List.getElem?_eq_getElem hjl) hp
      refine ⟨b1, pos_lt hk (by omega), _, rangeI_mk (by omega), ?_⟩
      rcases h.go (p / k) y (p % k) b3 (Nat.mod_lt p hk) with ⟨e1, e2⟩ | ⟨i, e1, e2⟩
      · exact absurd (b4.symm.trans e1) (hb.ns j _ (List.getElem?_eq_getElem hjl))
      · show R.go (p / k : Nat) (p % k) = _
        rw [e1]
        rw [b4] at e2
        have := hb.nd i j _ e2 (List.getElem?_eq_getElem hjl)
        omega
    · intro p y hp hy
      obtain ⟨hj, rfl⟩ := rangeI hy
      have hjl : p / k < cl.length := by omega
      have hpP : p < P := Nat.lt_of_lt_of_le (by rw [hn] at hp; exact hp) hP
      rcases h.go (p / k) _ (p % k) (List.getElem?_eq_getElem hjl) (Nat.mod_lt p hk) with ⟨e1, e2⟩ | ⟨i, e1, e2⟩
      · exact .inl e2
      · refine .inr ⟨i, ?_, ?_⟩
        · show ((List.range R.n).map Int.ofNat)[i]? = some (R.go (p / k : Nat) (p % k))
          rw [e1]; exact rangeI_mk (by rw [hn]; exact (List.getElem?_eq_some_iff.1 e2).1)
        · rcases hb.closed p _ hpP (List.getElem?_eq_getElem hjl) with e | ⟨j1, e3, e4⟩
          · exact absurd e (hb.ns i _ e2)
          · rw [hb.nd i j1 _ e2 e3]; exact e4
    · intro p hp
      have : p / k < R.n := (Nat.div_lt_iff_lt_mul hk).2 hp
      simpa using this
theorem canon_empty (hk : 0 < k) (h : IsQuot k f a [] R) : Canon k (fun _ => false) R := by
  have hn : R.n = 0 := h.n
  have hst : R.st = -1 := by rw [h.st]; rfl
  refine ⟨h.right hk h.inside, fun h0 => by omega, ?_, fun q hq => by omega, fun q r hq => by omega, fun h0 => by omega⟩
  intro u hu
  show R.acc (R.run R.st u) = false
  rw [hst, R.run_neg, R.acc_neg (by omega)]
end

/-! ### Which states belong together -/
/-- cls tells which states have the same words: -1 for those without any. -/
structure Cls {α : Type} (sc : α → Nat → α) (a : α → Bool) (k : Nat) (D : α → Prop) (cls : α → Int) : Prop where
  dead : ∀ x, D x → (cls x = -1 ↔ ∀ u, Let k u → a (u.foldl sc x) = false)
  same : ∀ x y, D x → D y → cls x ≠ -1 → cls y ≠ -1 → (cls x = cls y ↔ ∀ u, Let k u → a (u.foldl sc x) = a (u.foldl sc y))
  step : ∀ x c, D x → c < k → D (sc x c)
section
variable {α : Type} {sc : α → Nat → α} {a : α → Bool} {k : Nat} {D : α → Prop} {cls : α → Int}
/-- Where a class leads. -/
noncomputable def clF (sc : α → Nat → α) (D : α → Prop) (cls : α → Int) (C : Int) (c : Nat) : Int :=
  open Classical in if h : C ≠ -1 ∧ ∃ y, D y ∧ cls y = C then cls (sc h.2.choose c) else -1
noncomputable def clA (a : α → Bool) (D : α → Prop) (cls : α → Int) (C : Int) : Bool :=
  open Classical in decide (C ≠ -1 ∧ ∃ y, D y ∧ cls y = C ∧ a y = true)
theorem clF_dead (c : Nat) : clF sc D cls (-1) c = -1 := by unfold clF; rw [dif_neg]; intro h; exact h.1 rfl
open Classical in
theorem clA_dead : clA a D cls (-1) = false := by unfold clA; exact decide_eq_false (fun h => h.1 rfl)
theorem Cls.deadStep (h : Cls sc a k D cls) {x : α} (hx : D x) {c : Nat} (hc : c < k) (h1 : cls x = -1) : cls (sc x c) = -1 :=
  (h.dead _ (h.step x c hx hc)).2 (fun u hu => (h.dead x hx).1 h1 (c :: u) (let_cons hc hu))
theorem Cls.together (h : Cls sc a k D cls) {x y : α} (hx : D x) (hy : D y) {c : Nat} (hc : c < k) (he : cls x = cls y) : cls (sc x c) = cls (sc y c) := by
  by_cases h1 : cls x = -1
  · rw [h.deadStep hx hc h1, h.deadStep hy hc (he ▸ h1)]
  · have e := (h.same x y hx hy h1 (he ▸ h1)).1 he
    have e2 : ∀ u, Let k u → a (u.foldl sc (sc x c)) = a (u.foldl sc (sc y c)) := fun u hu => e (c :: u) (let_cons hc hu)
    have dx := h.step x c hx hc
    have dy := h.step y c hy hc
    by_cases h2 : cls (sc x c) = -1
    · rw [h2]
      exact ((h.dead _ dy).2 (fun u hu => (e2 u hu).symm.trans ((h.dead _ dx).1 h2 u hu))).symm
    · have h3 : cls (sc y c) ≠ -1 := fun h3 => h2 ((h.dead _ dx).2 (fun u hu => (e2 u hu).trans ((h.dead _ dy).1 h3 u hu)))
      exact (h.same _ _ dx dy h2 h3).2 e2
theorem Cls.f (h : Cls sc a k D cls) {x : α} (hx : D x) {c : Nat} (hc : c < k) : clF sc D cls (cls x) c = cls (sc x c) := by
  by_cases h1 : cls x = -1
  · rw [h1, clF_dead, h.deadStep hx hc h1]
  · have hh : cls x ≠ -1 ∧ ∃ y, D y ∧ cls y = cls x := ⟨h1, x, hx, rfl⟩
    unfold clF
    rw [dif_pos hh]
    exact h.together hh.2.choose_spec.1 hx hc hh.2.choose_spec.2
open Classical in
theorem Cls.acc (h : Cls sc a k D cls) {x : α} (hx : D x) : clA a D cls (cls x) = a x := by
  by_cases h1 : cls x = -1
  · rw [h1, clA_dead]; exact ((h.dead x hx).1 h1 [] (let_nil k)).symm
  · unfold clA
    cases e : a x with
    | true => exact decide_eq_true ⟨h1, x, hx, rfl, e⟩
    | false =>
      refine decide_eq_false ?_
      rintro ⟨_, y, hy, e1, e2⟩
      have := (h.same y x hy hx (e1 ▸ h1) h1).1 e1 [] (let_nil k)
      have e3 : a y = a x := this
      rw [e2, e] at e3; cases e3
theorem Cls.fold (h : Cls sc a k D cls) : ∀ (u : List Nat), Let k u → ∀ x, D x → clA a D cls (u.foldl (clF sc D cls) (cls x)) = a (u.foldl sc x)
  | [], _, x, hx => h.acc hx
  | c :: u, hu, x, hx => by
    rw [List.foldl_cons, List.foldl_cons, h.f hx hu.cons.1]
    exact h.fold u hu.cons.2 _ (h.step x c hx hu.cons.1)
theorem Cls.live (h : Cls sc a k D cls) {x : α} (hx : D x) (h1 : cls x ≠ -1) : ∃ u, Let k u ∧ clA a D cls (u.foldl (clF sc D cls) (cls x)) = true := by
  apply Classical.byContradiction
  intro hn
  apply h1
  refine (h.dead x hx).2 (fun u hu => ?_)
  cases e : a (u.foldl sc x) with
  | false => rfl
  | true => exact absurd ⟨u, hu, (h.fold u hu x hx).trans e⟩ hn
/-- The automaton of the classes is minimal. -/
theorem Cls.canon (h : Cls sc a k D cls) (hk : 0 < k) {s : α} (hs : D s) {cl : List Int} {pa : List Nat} {P : Nat} {R : Au} (hq : IsQuot k (clF sc D cls) (clA a D cls) cl R)
    (hb : Bfs (clF sc D cls) (fun q => q = -1) k (cls s) cl pa P) (hP : cl.length * k ≤ P) (hin : ∀ (j : Nat) C, cl[j]? = some C → ∃ x, D x ∧ cls x = C) :
    Canon k (fun u => clA a D cls (u.foldl (clF sc D cls) (cls s))) R := by
  refine canon_classes hk hq clF_dead clA_dead hb hP ?_ ?_
  · intro j C hj
    obtain ⟨x, hx, rfl⟩ := hin j C hj
    exact h.live hx (hb.ns j _ hj)
  · intro i j C E hi hj he
    obtain ⟨x, hx, rfl⟩ := hin i C hi
    obtain ⟨y, hy, rfl⟩ := hin j E hj
    refine (h.same x y hx hy (hb.ns i _ hi) (hb.ns j _ hj)).2 (fun u hu => ?_)
    rw [← h.fold u hu x hx, ← h.fold u hu y hy]
    exact he u hu
theorem Canon.of_eq {P Q : List Nat → Bool} {R : Au} (h : Canon k P R) (e : ∀ u, Let k u → P u = Q u) : Canon k Q R :=
  ⟨h.right, h.start, fun u hu => (h.lang u hu).trans (e u hu), h.live, h.red, h.bfs⟩

/-! ### The first one of each class -/
open Classical in
/-- The places below m where a class stands for the first time. -/
noncomputable def firsts (c : List Int) : Nat → List Nat
  | 0 => []
  | m + 1 => if c.getD m (-1) = -1 ∨ ∃ i, i < m ∧ c.getD i (-1) = c.getD m (-1) then firsts c m else firsts c m ++ [m]
theorem firsts_mem {c : List Int} : ∀ {m i : Nat}, i ∈ firsts c m → i < m ∧ c.getD i (-1) ≠ -1 ∧ ∀ i', i' < i → c.getD i' (-1) ≠ c.getD i (-1)
  | 0, i, h => by simp [firsts] at h
  | m + 1, i, h => by
    unfold firsts at h
    split at h
    · obtain ⟨a, b⟩ := firsts_mem h
      exact ⟨by omega, b⟩
    · rename_i hn
      rcases List.mem_append.1 h with h | h
      · obtain ⟨a, b⟩ := firsts_mem h
        exact ⟨by omega, b⟩
      · obtain rfl := List.mem_singleton.1 h
        exact ⟨by omega, fun e => hn (.inl e), fun i' hi e => hn (.inr ⟨i', hi, e⟩)⟩
theorem firsts_has {c : List Int} : ∀ {m i : Nat}, i < m → c.getD i (-1) ≠ -1 → ∃ i0, i0 ∈ firsts c m ∧ i0 ≤ i ∧ c.getD i0 (-1) = c.getD i (-1)
  | 0, i, h, _ => by omega
  | m + 1, i, h, h1 => by
    by_cases e : i = m
    · subst e
      unfold firsts
      split
      · rename_i hd
        rcases hd with hd | ⟨i', a, b⟩
        · exact absurd hd h1
        · obtain ⟨i0, c1, c2, c3⟩ := firsts_has (m := i) a (by rw [b]; exact h1)
          exact ⟨i0, c1, by omega, c3.trans b⟩
      · exact ⟨i, by simp, Nat.le_refl _, rfl⟩
    · obtain ⟨i0, c1, c2, c3⟩ := firsts_has (m := m) (i := i) (by omega) h1
      refine ⟨i0, ?_, c2, c3⟩
      unfold firsts
      split
      · exact c1
      · exact List.mem_append_left _ c1
theorem firsts_rise {c : List Int} : ∀ {m a b x y : Nat}, a < b → (firsts c m)[a]? = some x → (firsts c m)[b]? = some y → x < y
  | 0, a, b, x, y, _, h, _ => by simp [firsts] at h
  | m + 1, a, b, x, y, hab, h, h2 => by
    unfold firsts at h h2
    split at h
    · rename_i hd
      rw [if_pos hd] at h2
      exact firsts_rise hab h h2
    · rename_i hd
      rw [if_neg hd] at h2
      rcases get_snoc h with ⟨_, e⟩ | ⟨e1, e2⟩
      · rcases get_snoc h2 with ⟨_, g⟩ | ⟨g1, g2⟩
        · exact firsts_rise hab e g
        · rw [g2]; exact (firsts_mem (List.mem_of_getElem? e)).1
      · rcases get_snoc h2 with ⟨g0, g⟩ | ⟨g1, g2⟩ <;> omega
theorem firsts_inj {c : List Int} {m a b x : Nat} (h : (firsts c m)[a]? = some x) (h2 : (firsts c m)[b]? = some x) : a = b := by
  rcases Nat.lt_trichotomy a b with e | e | e
  · have := firsts_rise e h h2; omega
  · exact e
  · have := firsts_rise e h2 h; omega
theorem firsts_le {c : List Int} {m a b x y : Nat} (h : (firsts c m)[a]? = some x) (h2 : (firsts c m)[b]? = some y) (hxy : x < y) : a < b := by
  rcases Nat.lt_trichotomy a b with e | e | e
  · exact e
  · subst e; rw [h] at h2; injection h2 with h2; omega
  · have := firsts_rise e h2 h; omega
theorem mem_at {β : Type} {l : List β} {x : β} (h : x ∈ l) : ∃ i : Nat, l[i]? = some x := List.mem_iff_getElem?.1 h
/-- What is found breadth first in a graph leads to what is found breadth first in the graph of its classes. -/
theorem Cls.bfs (h : Cls sc a k D cls) (hk : 0 < k) {sk : α → Prop} {s : α} {l : List α} {pa : List Nat} {P : Nat} (hb : Bfs sc sk k s l pa P) (hP : l.length * k ≤ P)
    (hD : ∀ (j : Nat) x, l[j]? = some x → D x) (hsk : ∀ x, D x → sk x → cls x = -1) (hs : cls s ≠ -1) {c : List Int} (hc : c = l.map cls) :
    ∃ pb, Bfs (clF sc D cls) (fun q => q = -1) k (cls s) ((firsts c l.length).map fun i => c.getD i (-1)) pb (((firsts c l.length).map fun i => c.getD i (-1)).length * k) := by
  have cat : ∀ {i : Nat} {x : α}, l[i]? = some x → c.getD i (-1) = cls x := by
    intro i x hx
    rw [hc, List.getD_eq_getElem?_getD, List.getElem?_map, hx]; rfl
  have cat' : ∀ {i : Nat}, c.getD i (-1) ≠ -1 → ∃ x, l[i]? = some x := by
    intro i hi
    by_cases hl : i < l.length
    · exact ⟨_, List.getElem?_eq_getElem hl⟩
    · exfalso; apply hi
      rw [hc, List.getD_eq_getElem?_getD, List.getElem?_eq_none (by simp; omega)]; rfl
  obtain ⟨F, hF⟩ : ∃ F, F = firsts c l.length := ⟨_, rfl⟩
  have Fm : ∀ {j i : Nat}, F[j]? = some i → ∃ x, l[i]? = some x ∧ cls x ≠ -1 ∧ D x ∧ c.getD i (-1) = cls x ∧ ∀ i', i' < i → c.getD i' (-1) ≠ cls x := by
    intro j i hj
    obtain ⟨_, m2, m3⟩ := firsts_mem (by rw [← hF]; exact List.mem_of_getElem? hj)
    obtain ⟨x, hx⟩ := cat' m2
    rw [cat hx] at m2 m3
    exact ⟨x, hx, m2, hD _ _ hx, cat hx, m3⟩
  have F0 : F[0]? = some 0 := by
    have h0 : 0 < l.length := (List.getElem?_eq_some_iff.1 hb.first).1
    obtain ⟨i0, m1, m2, _⟩ := firsts_has (c := c) h0 (by rw [cat hb.first]; exact hs)
    obtain rfl : i0 = 0 := by omega
    rw [← hF] at m1
    obtain ⟨j, hj⟩ := mem_at m1
    by_cases e : j = 0
    · subst e; exact hj
    · have hlt : 0 < F.length := by have := (List.getElem?_eq_some_iff.1 hj).1; omega
      have h1 : F[0]? = some F[0] := List.getElem?_eq_getElem hlt
      have := firsts_rise (show 0 < j by omega) (by rw [← hF]; exact h1) (by rw [← hF]; exact hj)
      omega
  -- where the first one of a class was found stands a first one
  have up : ∀ {j i p : Nat}, 0 < j → F[j]? = some i → pa[i]? = some p → ∃ κ y x, F[κ]? = some (p / k) ∧ κ < j ∧ l[p / k]? = some y ∧ l[i]? = some x ∧ sc y (p % k) = x := by
    intro j i p h0 hj hp
    obtain ⟨x, hx, x1, x2, x3, x4⟩ := Fm hj
    have hi0 : 0 < i := firsts_rise h0 (by rw [← hF]; exact F0) (by rw [← hF]; exact hj)
    obtain ⟨p1, p2, y, p3, p4⟩ := hb.par i x p hi0 hx hp
    have hcm := Nat.mod_lt p hk
    have dy := hD _ _ p3
    have hy1 : cls y ≠ -1 := fun e => x1 (by rw [← p4]; exact h.deadStep dy hcm e)
    have hpl := (List.getElem?_eq_some_iff.1 p3).1
    obtain ⟨i0, m1, m2, m3⟩ := firsts_has (c := c) hpl (by rw [cat p3]; exact hy1)
    obtain ⟨κ, hκ⟩ := mem_at m1
    have m0 := (firsts_mem m1).1
    have hz : l[i0]? = some l[i0] := List.getElem?_eq_getElem m0
    rw [cat hz, cat p3] at m3
    have e1 := h.together (hD _ _ hz) dy hcm m3
    rw [p4] at e1
    obtain ⟨d1, d2⟩ := pos_div (i := i0) hcm
    rcases hb.closed (i0 * k + p % k) _ (Nat.lt_of_lt_of_le (pos_up hcm m0) hP) (by rw [d1]; exact hz) with e | ⟨j1, e2, e3⟩
    · rw [d2] at e
      exact absurd (e1.symm.trans (hsk _ (h.step _ _ (hD _ _ hz) hcm) e)) x1
    · rw [d2] at e2
      have hj1 : ¬ j1 < i := fun e => x4 j1 e (by rw [cat e2]; exact e1)
      rcases e3 with e3 | ⟨q, e4, e5⟩
      · omega
      · have hmk := pos_mk p k
        have h2 : i0 * k ≤ p / k * k := Nat.mul_le_mul_right k m2
        have h3 : j1 = i := by
          by_cases e : j1 = i
          · exact e
          · have := hb.mono i j1 p q hi0 (by omega) hp e4
            omega
        subst h3
        rw [hp] at e4
        injection e4 with e4
        have h4 : i0 = p / k := by
          by_cases e : i0 = p / k
          · exact e
          · have := Nat.mul_le_mul_right k (show i0 + 1 ≤ p / k by omega)
            rw [Nat.add_mul] at this
            omega
        subst h4
        rw [← hF] at hκ
        exact ⟨κ, y, x, hκ, firsts_le (by rw [← hF]; exact hκ) (by rw [← hF]; exact hj) p1, p3, hx, p4⟩
  obtain ⟨g, hg⟩ : ∃ g : Nat → Nat, ∀ j i p κ, 0 < j → F[j]? = some i → pa[i]? = some p → F[κ]? = some (p / k) → g i = κ * k + p % k := by
    refine ⟨fun i => (Classical.epsilon fun κ => F[κ]? = some (pa.getD i 0 / k)) * k + pa.getD i 0 % k, ?_⟩
    intro j i p κ h0 hj hp hκ
    have e : pa.getD i 0 = p := by rw [List.getD_eq_getElem?_getD, hp]; rfl
    simp only [e]
    have := Classical.epsilon_spec (p := fun κ => F[κ]? = some (p / k)) ⟨κ, hκ⟩
    have e2 := firsts_inj (by rw [← hF]; exact this) (by rw [← hF]; exact hκ)
    rw [e2]
  have Fpa : ∀ {j i : Nat}, 0 < j → F[j]? = some i → ∃ p, pa[i]? = some p := by
    intro j i h0 hj
    obtain ⟨x, hx, _⟩ := Fm hj
    exact ⟨_, List.getElem?_eq_getElem (by rw [hb.len]; exact (List.getElem?_eq_some_iff.1 hx).1)⟩
  have mp : ∀ {j : Nat} {C : Int}, (F.map fun i => c.getD i (-1))[j]? = some C → ∃ i x, F[j]? = some i ∧ l[i]? = some x ∧ cls x = C ∧ C ≠ -1 := by
    intro j C hj
    rw [List.getElem?_map] at hj
    cases e : F[j]? with
    | none => rw [e] at hj; cases hj
    | some i =>
      rw [e] at hj
      injection hj with hj
      obtain ⟨x, hx, x1, _, x3, _⟩ := Fm e
      exact ⟨i, x, rfl, hx, by rw [← x3]; exact hj, by rw [← hj]; show c.getD i (-1) ≠ -1; rw [x3]; exact x1⟩
  have mk : ∀ {j i : Nat} {x : α}, F[j]? = some i → l[i]? = some x → (F.map fun i => c.getD i (-1))[j]? = some (cls x) := by
    intro j i x hj hx
    rw [List.getElem?_map, hj]
    show some (c.getD i (-1)) = _
    rw [cat hx]
  have gp : ∀ {j q : Nat}, (F.map g)[j]? = some q → ∃ i, F[j]? = some i ∧ q = g i := by
    intro j q hj
    rw [List.getElem?_map] at hj
    cases e : F[j]? with
    | none => rw [e] at hj; cases hj
    | some i => rw [e] at hj; injection hj with hj; exact ⟨i, rfl, hj.symm⟩
  rw [← hF]
  refine ⟨F.map g, mk F0 hb.first, ?_, ?_, by simp, ?_, ?_, ?_, ?_⟩
  · intro j C hj
    obtain ⟨i, x, _, _, _, hC⟩ := mp hj
    exact hC
  · intro i j C h1 h2
    obtain ⟨i1, x1, a1, a2, a3, _⟩ := mp h1
    obtain ⟨i2, x2, b1, b2, b3, _⟩ := mp h2
    rcases Nat.lt_trichotomy i j with e | e | e
    · have hlt := firsts_rise e (by rw [← hF]; exact a1) (by rw [← hF]; exact b1)
      obtain ⟨x, c1, _, _, _, c5⟩ := Fm b1
      rw [b2] at c1; injection c1 with c1; subst c1
      exact absurd ((cat a2).trans (a3.trans b3.symm)) (c5 i1 hlt)
    · exact e
    · have hlt := firsts_rise e (by rw [← hF]; exact b1) (by rw [← hF]; exact a1)
      obtain ⟨x, c1, _, _, _, c5⟩ := Fm a1
      rw [a2] at c1; injection c1 with c1; subst c1
      exact absurd ((cat b2).trans (b3.trans a3.symm)) (c5 i2 hlt)
  · intro j C q h0 hj hq
    obtain ⟨i, x, a1, a2, a3, _⟩ := mp hj
    obtain ⟨i', b1, rfl⟩ := gp hq
    rw [a1] at b1; injection b1 with b1; subst b1
    obtain ⟨p, hp⟩ := Fpa h0 a1
    obtain ⟨κ, y, x', u1, u2, u3, u4, u5⟩ := up h0 a1 hp
    rw [a2] at u4; injection u4 with u4; subst u4
    have hcm := Nat.mod_lt p hk
    rw [hg j i p κ h0 a1 hp u1]
    obtain ⟨d1, d2⟩ := pos_div (i := κ) hcm
    rw [d1, d2]
    refine ⟨u2, pos_up hcm ?_, cls y, mk u1 u3, ?_⟩
    · rw [List.length_map]; exact (List.getElem?_eq_some_iff.1 u1).1
    · rw [h.f (hD _ _ u3) hcm, u5, a3]
  · intro i j p q h0 hij hp hq
    obtain ⟨i1, a1, rfl⟩ := gp hp
    obtain ⟨i2, b1, rfl⟩ := gp hq
    obtain ⟨p1, e1⟩ := Fpa h0 a1
    obtain ⟨p2, e2⟩ := Fpa (by omega) b1
    obtain ⟨κ1, _, _, u1, _, _, _, _⟩ := up h0 a1 e1
    obtain ⟨κ2, _, _, v1, _, _, _, _⟩ := up (show 0 < j by omega) b1 e2
    rw [hg i i1 p1 κ1 h0 a1 e1 u1, hg j i2 p2 κ2 (by omega) b1 e2 v1]
    have hlt := firsts_rise hij (by rw [← hF]; exact a1) (by rw [← hF]; exact b1)
    have h1 : 0 < i1 := firsts_rise h0 (by rw [← hF]; exact F0) (by rw [← hF]; exact a1)
    have hm := hb.mono i1 i2 p1 p2 h1 hlt e1 e2
    have c1 := Nat.mod_lt p1 hk
    have m1 := pos_mk p1 k
    have m2 := pos_mk p2 k
    have hd : p1 / k ≤ p2 / k := Nat.div_le_div_right (Nat.le_of_lt hm)
    by_cases e : p1 / k = p2 / k
    · rw [e] at u1
      have e9 : κ1 = κ2 := firsts_inj (by rw [← hF]; exact u1) (by rw [← hF]; exact v1)
      rw [e9]
      rw [e] at m1
      omega
    · have := firsts_le (by rw [← hF]; exact u1) (by rw [← hF]; exact v1) (show p1 / k < p2 / k by omega)
      have h3 := Nat.mul_le_mul_right k (show κ1 + 1 ≤ κ2 from this)
      rw [Nat.add_mul] at h3
      omega
  · intro p C hp hC
    obtain ⟨i, x, a1, a2, a3, _⟩ := mp hC
    have hcm := Nat.mod_lt p hk
    have hil := (List.getElem?_eq_some_iff.1 a2).1
    obtain ⟨d1, d2⟩ := pos_div (i := i) hcm
    rw [← a3, h.f (hD _ _ a2) hcm]
    by_cases e : cls (sc x (p % k)) = -1
    · exact .inl e
    · refine .inr ?_
      rcases hb.closed (i * k + p % k) _ (Nat.lt_of_lt_of_le (pos_up hcm hil) hP) (by rw [d1]; exact a2) with e1 | ⟨j1, e1, e2⟩
      · rw [d2] at e1; exact absurd (hsk _ (h.step _ _ (hD _ _ a2) hcm) e1) e
      · rw [d2] at e1
        have hjl := (List.getElem?_eq_some_iff.1 e1).1
        obtain ⟨i0, m1, m2, m3⟩ := firsts_has (c := c) hjl (by rw [cat e1]; exact e)
        rw [← hF] at m1
        obtain ⟨t, ht⟩ := mem_at m1
        rw [cat e1] at m3
        refine ⟨t, ?_, ?_⟩
        · rw [List.getElem?_map, ht]; show some (c.getD i0 (-1)) = _; rw [m3]
        · by_cases t0 : t = 0
          · exact .inl t0
          · refine .inr ⟨g i0, by rw [List.getElem?_map, ht]; rfl, ?_⟩
            obtain ⟨p1, f1⟩ := Fpa (by omega) ht
            obtain ⟨κ1, _, _, u1, _, _, _, _⟩ := up (show 0 < t by omega) ht f1
            rw [hg t i0 p1 κ1 (by omega) ht f1 u1]
            have h1 : 0 < i0 := firsts_rise (show 0 < t by omega) (by rw [← hF]; exact F0) (by rw [← hF]; exact ht)
            have hle : p1 ≤ i * k + p % k := by
              rcases e2 with e2 | ⟨q, f2, f3⟩
              · omega
              · by_cases e4 : i0 = j1
                · subst e4; rw [f1] at f2; injection f2 with f2; omega
                · have := hb.mono i0 j1 p1 q h1 (by omega) f1 f2
                  omega
            have c1 := Nat.mod_lt p1 hk
            have r1 := pos_mk p1 k
            have r2 := pos_mk p k
            have hd : p1 / k ≤ i := by rw [← d1]; exact Nat.div_le_div_right hle
            by_cases e5 : p1 / k = i
            · rw [e5] at u1 r1
              have e9 : κ1 = p / k := firsts_inj (by rw [← hF]; exact u1) (by rw [← hF]; exact a1)
              rw [e9]
              omega
            · have := firsts_le (by rw [← hF]; exact u1) (by rw [← hF]; exact a1) (show p1 / k < i by omega)
              have h3 := Nat.mul_le_mul_right k (show κ1 + 1 ≤ p / k from this)
              rw [Nat.add_mul] at h3
              omega
  · intro p hp
    exact (Nat.div_lt_iff_lt_mul hk).2 hp
end
end Go.Proofs.Ytdkdfmflghbhiaa
