/- Plain mathematics: which states lead on, and the classes of states by rounds of rows. Nothing here speaks of the program. -/
import Derived.Test.YtbfedfiemkhefaaAMr
namespace Go.Proofs.Ytbfedfiemkhefaa
set_option linter.unusedVariables false

/-- Some word leads from there to a state that accepts. -/
def liveQ (M : Au) (k : Nat) (t : Int) : Prop := ∃ u, Let k u ∧ M.acc (M.run t u) = true
def lvAt (lv : List Bool) (t : Int) : Bool := decide (0 ≤ t) && lv.getD t.toNat false
theorem lvAt_nat (lv : List Bool) (q : Nat) : lvAt lv (q : Int) = lv.getD q false := by unfold lvAt; rw [decide_eq_true (by omega)]; rfl
theorem lvAt_neg {lv : List Bool} {t : Int} (h : t < 0) : lvAt lv t = false := by unfold lvAt; rw [decide_eq_false (by omega)]; rfl
/-- The marks are right. -/
structure LiveOk (M : Au) (k : Nat) (lv : List Bool) : Prop where
  len : lv.length = M.n
  iff : ∀ q : Nat, q < M.n → (lv.getD q false = true ↔ liveQ M k q)
/-- The marks so far. -/
structure LvI (M : Au) (k : Nat) (lv : List Bool) : Prop where
  len : lv.length = M.n
  acc : ∀ q : Nat, q < M.n → M.ac.getD q false = true → lv.getD q false = true
  sound : ∀ q : Nat, q < M.n → lv.getD q false = true → liveQ M k q
/-- Nothing is to be marked among the states below m. -/
def LvC (M : Au) (k : Nat) (lv : List Bool) (m : Nat) : Prop := ∀ q c : Nat, q < m → c < k → lvAt lv (M.go q c) = true → lv.getD q false = true
section
variable {M : Au} {k : Nat} {lv : List Bool}
theorem acc_nat (M : Au) (q : Nat) : M.acc (q : Int) = M.ac.getD q false := by unfold Au.acc; rw [decide_eq_true (by omega)]; rfl
theorem liveQ_neg {t : Int} (h : t < 0) : ¬ liveQ M k t := by
  rintro ⟨u, _, hu⟩
  cases u with
  | nil => rw [show M.run t [] = t from rfl, M.acc_neg h] at hu; cases hu
  | cons c u => rw [M.run_cons, M.go_neg h, M.run_neg, M.acc_neg (by omega)] at hu; cases hu
theorem LvI.start (hr : M.Right k) : LvI M k M.ac :=
  ⟨by rw [hr.acl]; rfl, fun q _ h => h, fun q hq h => ⟨[], let_nil k, by rw [show M.run (q : Int) [] = (q : Int) from rfl, acc_nat]; exact h⟩⟩
theorem LvI.set (h : LvI M k lv) (hr : M.Right k) {q c : Nat} (hq : q < M.n) (hc : c < k) (hl : lvAt lv (M.go q c) = true) : LvI M k (lv.set q true) := by
  have hql : q < lv.length := by rw [h.len]; exact hq
  refine ⟨by rw [List.length_set]; exact h.len, fun p hp ha => ?_, fun p hp ha => ?_⟩
  · rw [getD_set hql]
    split
    · rfl
    · exact h.acc p hp ha
  · rw [getD_set hql] at ha
    split at ha
    · rename_i e
      subst e
      have hgi := hr.go_in (q := (p : Int)) (c := c)
      by_cases hn : M.go p c < 0
      · rw [lvAt_neg hn] at hl; cases hl
      · obtain ⟨t, ht⟩ := Int.eq_ofNat_of_zero_le (show 0 ≤ M.go p c by omega)
        have ht : M.go p c = (t : Int) := ht
        rw [ht, lvAt_nat] at hl
        rw [ht] at hgi
        obtain ⟨u, hu, hw⟩ := h.sound t (by omega) hl
        exact ⟨c :: u, let_cons hc hu, by rw [M.run_cons, ht]; exact hw⟩
    · exact h.sound p hp ha
theorem LvI.done (h : LvI M k lv) (hr : M.Right k) (hc : LvC M k lv M.n) : LiveOk M k lv := by
  have key : ∀ (u : List Nat), Let k u → ∀ q : Nat, q < M.n → M.acc (M.run q u) = true → lv.getD q false = true := by
    intro u
    induction u with
    | nil => intro _ q hq ha; rw [show M.run (q : Int) [] = (q : Int) from rfl, acc_nat] at ha; exact h.acc q hq ha
    | cons c u ih =>
      intro hu q hq ha
      rw [M.run_cons] at ha
      have hgi := hr.go_in (q := (q : Int)) (c := c)
      by_cases hn : M.go q c < 0
      · exact absurd ⟨u, hu.cons.2, ha⟩ (liveQ_neg hn)
      · obtain ⟨t, ht⟩ := Int.eq_ofNat_of_zero_le (show 0 ≤ M.go q c by omega)
        have ht : M.go q c = (t : Int) := ht
        rw [ht] at ha hgi
        refine hc q c hq hu.cons.1 ?_
        rw [ht, lvAt_nat]
        exact ih hu.cons.2 t (by omega) ha
  exact ⟨h.len, fun q hq => ⟨h.sound q hq, fun ⟨u, hu, hw⟩ => key u hu q hq hw⟩⟩
theorem LvC.set_none {m : Nat} (h : LvC M k lv m) (hm : lv.getD m false = true ∨ ∀ c, c < k → lvAt lv (M.go m c) = false) : LvC M k lv (m + 1) := by
  intro q c hq hc hl
  by_cases e : q = m
  · subst e
    rcases hm with h1 | h1
    · exact h1
    · rw [h1 c hc] at hl; cases hl
  · exact h q c (by omega) hc hl

/-! ### Rounds -/
def clV (L : List Int) (t : Int) : Int := if t < 0 then 0 else L.getD t.toNat 0
theorem clV_nat (L : List Int) (q : Nat) : clV L (q : Int) = L.getD q 0 := by unfold clV; rw [if_neg (by omega)]; rfl
theorem clV_neg {L : List Int} {t : Int} (h : t < 0) : clV L t = 0 := if_pos h
/-- The row of a state. -/
def rowM (M : Au) (k : Nat) (L : List Int) (q : Nat) : List Int := L.getD q 0 :: (List.range k).map fun c => clV L (M.go q c)
/-- Classes that are not too fine. -/
structure Mre (M : Au) (k : Nat) (lv : List Bool) (L : List Int) : Prop where
  len : L.length = M.n
  dead : ∀ q : Nat, q < M.n → lv.getD q false = false → L.getD q 0 = 0
  pos : ∀ q : Nat, q < M.n → lv.getD q false = true → 0 < L.getD q 0
  acc : ∀ p q : Nat, p < M.n → q < M.n → lv.getD p false = true → lv.getD q false = true → L.getD p 0 = L.getD q 0 → M.ac.getD p false = M.ac.getD q false
  coarse : ∀ p q : Nat, p < M.n → q < M.n → lv.getD p false = true → lv.getD q false = true → (∀ u, Let k u → M.acc (M.run p u) = M.acc (M.run q u)) → L.getD p 0 = L.getD q 0
/-- There are n classes. -/
structure Cnt (M : Au) (lv : List Bool) (L : List Int) (n : Nat) : Prop where
  le : ∀ q : Nat, q < M.n → lv.getD q false = true → L.getD q 0 ≤ n
  has : ∀ v : Nat, v < n → ∃ q : Nat, q < M.n ∧ lv.getD q false = true ∧ L.getD q 0 = (v : Int) + 1
/-- A round, up to the state m. -/
structure Rnd (N : Nat) (lv : List Bool) (row : Nat → List Int) (m : Nat) (L : List Int) (names : List (List Int)) : Prop where
  len : L.length = N
  dead : ∀ q : Nat, q < N → (lv.getD q false = false ∨ m ≤ q) → L.getD q 0 = 0
  live : ∀ q : Nat, q < N → q < m → lv.getD q false = true → ∃ j : Nat, L.getD q 0 = (j : Int) + 1 ∧ names[j]? = some (row q)
  nd : ∀ (i j : Nat) x, names[i]? = some x → names[j]? = some x → i = j
  used : ∀ (j : Nat) x, names[j]? = some x → ∃ q : Nat, q < N ∧ q < m ∧ lv.getD q false = true ∧ row q = x
theorem Rnd.start (N : Nat) (lv : List Bool) (row : Nat → List Int) : Rnd N lv row 0 (List.replicate N 0) [] :=
  ⟨by simp, fun q hq _ => by rw [List.getD_eq_getElem?_getD, List.getElem?_replicate, if_pos hq]; rfl, fun q _ h => absurd h (Nat.not_lt_zero _), fun i j x h => by simp at h, fun j x h => by simp at h⟩
variable {N m : Nat} {row : Nat → List Int} {L L' : List Int} {names : List (List Int)} {n : Nat}
theorem Rnd.skip (h : Rnd N lv row m L names) (hm : lv.getD m false = false) : Rnd N lv row (m + 1) L names := by
  refine ⟨h.len, fun q hq e => h.dead q hq ?_, fun q hq hqm hl => ?_, h.nd, fun j x hj => ?_⟩
  · rcases e with e | e
    · exact .inl e
    · exact .inr (by omega)
  · have : q ≠ m := fun e => by subst e; rw [hm] at hl; cases hl
    exact h.live q hq (by omega) hl
  · obtain ⟨q, a, b, c, d⟩ := h.used j x hj
    exact ⟨q, a, by omega, c, d⟩
theorem Rnd.old (h : Rnd N lv row m L names) (hN : m < N) (hm : lv.getD m false = true) {j : Nat} (hj : names[j]? = some (row m)) : Rnd N lv row (m + 1) (L.set m ((j : Int) + 1)) names := by
  have hml : m < L.length := by rw [h.len]; exact hN
  refine ⟨by rw [List.length_set]; exact h.len, fun q hq e => ?_, fun q hq hqm hl => ?_, h.nd, fun j x hj => ?_⟩
  · rw [getD_set hml, if_neg]
    · exact h.dead q hq (by rcases e with e | e; exact .inl e; exact .inr (by omega))
    · intro e2; subst e2
      rcases e with e | e
      · rw [hm] at e; cases e
      · omega
  · rw [getD_set hml]
    by_cases e : q = m
    · subst e; rw [if_pos rfl]; exact ⟨j, rfl, hj⟩
    · rw [if_neg e]; exact h.live q hq (by omega) hl
  · obtain ⟨q, a, b, c, d⟩ := h.used j x hj
    exact ⟨q, a, by omega, c, d⟩
theorem Rnd.new (h : Rnd N lv row m L names) (hN : m < N) (hm : lv.getD m false = true) (hn : ∀ j : Nat, names[j]? ≠ some (row m)) : Rnd N lv row (m + 1) (L.set m ((names.length : Int) + 1)) (names ++ [row m]) := by
  have hml : m < L.length := by rw [h.len]; exact hN
  refine ⟨by rw [List.length_set]; exact h.len, fun q hq e => ?_, fun q hq hqm hl => ?_, fun i j x hi hj => ?_, fun j x hj => ?_⟩
  · rw [getD_set hml, if_neg]
    · exact h.dead q hq (by rcases e with e | e; exact .inl e; exact .inr (by omega))
    · intro e2; subst e2
      rcases e with e | e
      · rw [hm] at e; cases e
      · omega
  · rw [getD_set hml]
    by_cases e : q = m
    · subst e; rw [if_pos rfl]; exact ⟨names.length, rfl, get_last⟩
    · rw [if_neg e]
      obtain ⟨j, a, b⟩ := h.live q hq (by omega) hl
      exact ⟨j, a, get_left b⟩
  · rcases get_snoc hi with ⟨_, e1⟩ | ⟨e1, e2⟩ <;> rcases get_snoc hj with ⟨_, e3⟩ | ⟨e3, e4⟩
    · exact h.nd i j x e1 e3
    · rw [e4] at e1; exact absurd e1 (hn i)
    · rw [e2] at e3; exact absurd e3 (hn j)
    · omega
  · rcases get_snoc hj with ⟨_, e⟩ | ⟨_, rfl⟩
    · obtain ⟨q, a, b, c, d⟩ := h.used j x e
      exact ⟨q, a, by omega, c, d⟩
    · exact ⟨m, hN, by omega, hm, rfl⟩
theorem inj_below {n m : Nat} (f : Nat → Nat) (h : ∀ v, v < n → f v < m) (hi : ∀ a b, a < n → b < n → f a = f b → a = b) : n ≤ m := by
  have := few_below m ((List.range n).map f) (nodup_of fun a b x ha hb => by
    rw [List.getElem?_map] at ha hb
    by_cases e1 : a < n
    · by_cases e2 : b < n
      · rw [List.getElem?_range e1] at ha
        rw [List.getElem?_range e2] at hb
        injection ha with ha
        injection hb with hb
        exact hi a b e1 e2 (ha.trans hb.symm)
      · rw [List.getElem?_eq_none (by simp; omega)] at hb; cases hb
    · rw [List.getElem?_eq_none (by simp; omega)] at ha; cases ha) (fun x hx => by
    obtain ⟨c, hc, rfl⟩ := List.mem_map.1 hx
    exact h c (List.mem_range.1 hc))
  rwa [List.length_map, List.length_range] at this
theorem row_head {p q : Nat} (h : rowM M k L p = rowM M k L q) : L.getD p 0 = L.getD q 0 := by unfold rowM at h; injection h
theorem row_at {p q c : Nat} (h : rowM M k L p = rowM M k L q) (hc : c < k) : clV L (M.go p c) = clV L (M.go q c) := by
  unfold rowM at h
  injection h with _ h
  have e := congrArg (fun l => l[c]?) h
  rw [List.getElem?_map, List.getElem?_map, List.getElem?_range hc] at e
  injection e
theorem row_eq {p q : Nat} (h : L.getD p 0 = L.getD q 0) (h2 : ∀ c, c < k → clV L (M.go p c) = clV L (M.go q c)) : rowM M k L p = rowM M k L q := by
  unfold rowM
  rw [h]
  congr 1
  exact List.map_congr_left fun c hc => h2 c (List.mem_range.1 hc)
/-- The class of a state that was met. -/
theorem Rnd.same (g : Rnd N lv row N L' names) {p q : Nat} (hp : p < N) (hq : q < N) (lp : lv.getD p false = true) (lq : lv.getD q false = true) : L'.getD p 0 = L'.getD q 0 ↔ row p = row q := by
  obtain ⟨i, a1, a2⟩ := g.live p hp hp lp
  obtain ⟨j, b1, b2⟩ := g.live q hq hq lq
  constructor
  · intro e
    obtain rfl : i = j := by omega
    rw [a2] at b2
    injection b2
  · intro e
    rw [e] at a2
    rw [a1, b1, g.nd i j _ a2 b2]
theorem Mre.zero (h : Mre M k lv L) (hl : LiveOk M k lv) {t : Int} (h1 : -1 ≤ t) (h2 : t < M.n) : clV L t = 0 ↔ ¬ liveQ M k t := by
  by_cases hn : t < 0
  · rw [clV_neg hn]
    exact ⟨fun _ => liveQ_neg hn, fun _ => rfl⟩
  · obtain ⟨q, rfl⟩ := Int.eq_ofNat_of_zero_le (show 0 ≤ t by omega)
    change clV L (q : Int) = 0 ↔ ¬ liveQ M k (q : Int)
    have hq : q < M.n := by omega
    rw [clV_nat, ← hl.iff q hq]
    cases e : lv.getD q false with
    | true => exact ⟨fun e2 => (by have := h.pos q hq e; omega), fun e2 => absurd rfl e2⟩
    | false => exact ⟨fun _ h2 => (by cases h2), fun _ => h.dead q hq e⟩
theorem Rnd.moo (hl : LiveOk M k lv) (hr : M.Right k) (h : Mre M k lv L) (g : Rnd M.n lv (rowM M k L) M.n L' names) : Mre M k lv L' ∧ Cnt M lv L' names.length := by
  refine ⟨⟨g.len, fun q hq e => g.dead q hq (.inl e), fun q hq e => ?_, fun p q hp hq lp lq e => ?_, fun p q hp hq lp lq e => ?_⟩, fun q hq e => ?_, fun v hv => ?_⟩
  · obtain ⟨j, a, _⟩ := g.live q hq hq e; omega
  · exact h.acc p q hp hq lp lq (row_head ((g.same hp hq lp lq).1 e))
  · refine (g.same hp hq lp lq).2 (row_eq (h.coarse p q hp hq lp lq e) fun c hc => ?_)
    have e2 : ∀ u, Let k u → M.acc (M.run (M.go p c) u) = M.acc (M.run (M.go q c) u) := fun u hu => e (c :: u) (let_cons hc hu)
    have gp := hr.go_in (q := (p : Int)) (c := c)
    have gq' := hr.go_in (q := (q : Int)) (c := c)
    have e3 : liveQ M k (M.go p c) ↔ liveQ M k (M.go q c) := ⟨fun ⟨u, a, b⟩ => ⟨u, a, by rw [← e2 u a]; exact b⟩, fun ⟨u, a, b⟩ => ⟨u, a, by rw [e2 u a]; exact b⟩⟩
    by_cases hlv : liveQ M k (M.go p c)
    · have hlv2 := e3.1 hlv
      have n1 : ¬ M.go p c < 0 := fun hn => liveQ_neg hn hlv
      have n2 : ¬ M.go q c < 0 := fun hn => liveQ_neg hn hlv2
      obtain ⟨a, ha⟩ := Int.eq_ofNat_of_zero_le (show 0 ≤ M.go p c by omega)
      obtain ⟨b, hb⟩ := Int.eq_ofNat_of_zero_le (show 0 ≤ M.go q c by omega)
      have ha : M.go p c = (a : Int) := ha
      have hb : M.go q c = (b : Int) := hb
      rw [ha] at hlv gp e2 ⊢
      rw [hb] at hlv2 gq' e2 ⊢
      rw [clV_nat, clV_nat]
      exact h.coarse a b (by omega) (by omega) ((hl.iff a (by omega)).2 hlv) ((hl.iff b (by omega)).2 hlv2) e2
    · rw [(h.zero hl gp.1 gp.2).2 hlv, (h.zero hl gq'.1 gq'.2).2 (fun e4 => hlv (e3.2 e4))]
  · obtain ⟨j, a, b⟩ := g.live q hq hq e
    have := (List.getElem?_eq_some_iff.1 b).1
    omega
  · obtain ⟨q, a, b, c, d⟩ := g.used v names[v] (List.getElem?_eq_getElem hv)
    obtain ⟨j, e1, e2⟩ := g.live q a a c
    have e3 := g.nd j v _ e2 (by rw [d]; exact List.getElem?_eq_getElem hv)
    exact ⟨q, a, c, by rw [e1, e3]⟩
theorem Rnd.le_all (g : Rnd N lv row N L' names) : names.length ≤ N := by
  have hx : ∀ v, v < names.length → ∃ q : Nat, q < N ∧ names[v]? = some (row q) := fun v hv => by
    obtain ⟨q, a, _, _, d⟩ := g.used v names[v] (List.getElem?_eq_getElem hv)
    exact ⟨q, a, by rw [d]; exact List.getElem?_eq_getElem hv⟩
  refine inj_below (fun v => if hv : v < names.length then (hx v hv).choose else 0) (fun v hv => ?_) (fun a b ha hb e => ?_)
  · rw [dif_pos hv]; exact (hx v hv).choose_spec.1
  · rw [dif_pos ha, dif_pos hb] at e
    have h1 := (hx a ha).choose_spec.2
    have h2 := (hx b hb).choose_spec.2
    rw [e] at h1
    exact g.nd a b _ h1 h2
/-- Rounds don't take classes together; with as many classes as before they are the same. -/
theorem Rnd.more (h : Mre M k lv L) (hc : Cnt M lv L n) (g : Rnd M.n lv (rowM M k L) M.n L' names) :
    n ≤ names.length ∧ (names.length = n → ∀ p q : Nat, p < M.n → q < M.n → lv.getD p false = true → lv.getD q false = true → L.getD p 0 = L.getD q 0 → L'.getD p 0 = L'.getD q 0) := by
  have rep : ∀ v, v < n → ∃ q : Nat, q < M.n ∧ lv.getD q false = true ∧ L.getD q 0 = (v : Int) + 1 := hc.has
  have ix : ∀ q : Nat, q < M.n → lv.getD q false = true → ((L'.getD q 0).toNat - 1 < names.length ∧ L'.getD q 0 = (((L'.getD q 0).toNat - 1 : Nat) : Int) + 1) := fun q hq hl => by
    obtain ⟨j, a, b⟩ := g.live q hq hq hl
    have := (List.getElem?_eq_some_iff.1 b).1
    omega
  have inj : ∀ p q : Nat, p < M.n → q < M.n → lv.getD p false = true → lv.getD q false = true → L'.getD p 0 = L'.getD q 0 → L.getD p 0 = L.getD q 0 := fun p q hp hq lp lq e => row_head ((g.same hp hq lp lq).1 e)
  let r : Nat → Nat := fun v => if hv : v < n then (rep v hv).choose else 0
  have hr : ∀ v, v < n → r v < M.n ∧ lv.getD (r v) false = true ∧ L.getD (r v) 0 = (v : Int) + 1 := fun v hv => by
    show (if hv : v < n then (rep v hv).choose else 0) < M.n ∧ lv.getD (if hv : v < n then (rep v hv).choose else 0) false = true ∧ L.getD (if hv : v < n then (rep v hv).choose else 0) 0 = _
    rw [dif_pos hv]; exact (rep v hv).choose_spec
  have key : ∀ a b, a < n → b < n → (L'.getD (r a) 0).toNat - 1 = (L'.getD (r b) 0).toNat - 1 → a = b := fun a b ha hb e => by
    obtain ⟨a1, a2, a3⟩ := hr a ha
    obtain ⟨b1, b2, b3⟩ := hr b hb
    have := inj _ _ a1 b1 a2 b2 (by rw [(ix _ a1 a2).2, (ix _ b1 b2).2, e])
    omega
  refine ⟨inj_below (fun v => (L'.getD (r v) 0).toNat - 1) (fun v hv => (ix _ (hr v hv).1 (hr v hv).2.1).1) key, fun hn p q hp hq lp lq e => ?_⟩
  have one : ∀ x : Nat, x < M.n → lv.getD x false = true → ∀ v, v < n → L.getD x 0 = (v : Int) + 1 → L'.getD x 0 = L'.getD (r v) 0 := by
    intro x hx lx v hv ev
    apply Classical.byContradiction
    intro hne
    have hb := inj_below (n := n + 1) (m := names.length) (fun i => if i < n then (L'.getD (r i) 0).toNat - 1 else (L'.getD x 0).toNat - 1) (fun i hi => by
      split
      · exact (ix _ (hr i (by assumption)).1 (hr i (by assumption)).2.1).1
      · exact (ix _ hx lx).1) (fun a b ha hb' e2 => by
      have no : ∀ i, i < n → (L'.getD (r i) 0).toNat - 1 = (L'.getD x 0).toNat - 1 → False := fun i hi e3 => by
        obtain ⟨i1, i2, i3⟩ := hr i hi
        have e4 : L'.getD (r i) 0 = L'.getD x 0 := by rw [(ix _ i1 i2).2, (ix _ hx lx).2, e3]
        have := inj _ _ i1 hx i2 lx e4
        have : i = v := by omega
        subst this
        exact hne e4.symm
      split at e2 <;> split at e2
      · exact key a b (by assumption) (by assumption) e2
      · exact (no a (by assumption) e2).elim
      · exact (no b (by assumption) e2.symm).elim
      · omega)
    omega
  have hv : ∃ v : Nat, v < n ∧ L.getD p 0 = (v : Int) + 1 := by
    have h1 := h.pos p hp lp
    have h2 := hc.le p hp lp
    exact ⟨(L.getD p 0).toNat - 1, by omega, by omega⟩
  obtain ⟨v, v1, v2⟩ := hv
  rw [one p hp lp v v1 v2, one q hq lq v v1 (by rw [← e]; exact v2)]
/-- The classes of the last round. -/
theorem Rnd.cls (hl : LiveOk M k lv) (hr : M.Right k) (h : Mre M k lv L) (g : Rnd M.n lv (rowM M k L) M.n L' names) (hn : Cnt M lv L names.length ∨ names.length = 0) :
    Cls M.go M.acc k (fun t => -1 ≤ t ∧ t < M.n) (fun t => clV L' t - 1) := by
  obtain ⟨h', _⟩ := g.moo hl hr h
  have stab : ∀ p q : Nat, p < M.n → q < M.n → lv.getD p false = true → lv.getD q false = true → L.getD p 0 = L.getD q 0 → L'.getD p 0 = L'.getD q 0 := by
    rcases hn with hc | h0
    · exact (g.more h hc).2 rfl
    · intro p q hp _ lp
      obtain ⟨j, _, b⟩ := g.live p hp hp lp
      have := (List.getElem?_eq_some_iff.1 b).1
      omega
  have nat : ∀ t : Int, -1 ≤ t → t < M.n → liveQ M k t → ∃ q : Nat, t = q ∧ q < M.n ∧ lv.getD q false = true := fun t h1 h2 h3 => by
    have n1 : ¬ t < 0 := fun hn => liveQ_neg hn h3
    obtain ⟨q, hq⟩ := Int.eq_ofNat_of_zero_le (show 0 ≤ t by omega)
    have hq : t = (q : Int) := hq
    subst hq
    exact ⟨q, rfl, by omega, (hl.iff q (by omega)).2 h3⟩
  have up : ∀ s t : Int, -1 ≤ s → s < M.n → -1 ≤ t → t < M.n → clV L s = clV L t → clV L' s = clV L' t := by
    intro s t s1 s2 t1 t2 e
    by_cases hs : liveQ M k s
    · have ht : liveQ M k t := Classical.byContradiction fun hn => (fun e2 => absurd hs ((h.zero hl s1 s2).1 e2)) (by rw [e]; exact (h.zero hl t1 t2).2 hn)
      obtain ⟨p, rfl, p1, p2⟩ := nat s s1 s2 hs
      obtain ⟨q, rfl, q1, q2⟩ := nat t t1 t2 ht
      rw [clV_nat, clV_nat] at e ⊢
      exact stab p q p1 q1 p2 q2 e
    · have ht : ¬ liveQ M k t := (h.zero hl t1 t2).1 (by rw [← e]; exact (h.zero hl s1 s2).2 hs)
      rw [(h'.zero hl s1 s2).2 hs, (h'.zero hl t1 t2).2 ht]
  have key : ∀ (u : List Nat), Let k u → ∀ s t : Int, -1 ≤ s → s < M.n → -1 ≤ t → t < M.n → clV L' s = clV L' t → M.acc (M.run s u) = M.acc (M.run t u) := by
    intro u
    induction u with
    | nil =>
      intro _ s t s1 s2 t1 t2 e
      by_cases hs : liveQ M k s
      · have ht : liveQ M k t := Classical.byContradiction fun hn => (fun e2 => absurd hs ((h'.zero hl s1 s2).1 e2)) (by rw [e]; exact (h'.zero hl t1 t2).2 hn)
        obtain ⟨p, rfl, p1, p2⟩ := nat s s1 s2 hs
        obtain ⟨q, rfl, q1, q2⟩ := nat t t1 t2 ht
        rw [clV_nat, clV_nat] at e
        show M.acc (p : Int) = M.acc (q : Int)
        rw [acc_nat, acc_nat]
        exact h'.acc p q p1 q1 p2 q2 e
      · have ht : ¬ liveQ M k t := (h'.zero hl t1 t2).1 (by rw [← e]; exact (h'.zero hl s1 s2).2 hs)
        have f : ∀ x : Int, ¬ liveQ M k x → M.acc (M.run x []) = false := fun x hx => by
          cases e2 : M.acc (M.run x []) with
          | false => rfl
          | true => exact absurd ⟨[], let_nil k, e2⟩ hx
        rw [f s hs, f t ht]
    | cons c u ih =>
      intro hu s t s1 s2 t1 t2 e
      by_cases hs : liveQ M k s
      · have ht : liveQ M k t := Classical.byContradiction fun hn => (fun e2 => absurd hs ((h'.zero hl s1 s2).1 e2)) (by rw [e]; exact (h'.zero hl t1 t2).2 hn)
        obtain ⟨p, rfl, p1, p2⟩ := nat s s1 s2 hs
        obtain ⟨q, rfl, q1, q2⟩ := nat t t1 t2 ht
        rw [clV_nat, clV_nat] at e
        have hrow := (g.same p1 q1 p2 q2).1 e
        rw [M.run_cons, M.run_cons]
        exact ih hu.cons.2 _ _ hr.go_in.1 hr.go_in.2 hr.go_in.1 hr.go_in.2 (up _ _ hr.go_in.1 hr.go_in.2 hr.go_in.1 hr.go_in.2 (row_at hrow hu.cons.1))
      · have ht : ¬ liveQ M k t := (h'.zero hl t1 t2).1 (by rw [← e]; exact (h'.zero hl s1 s2).2 hs)
        have f : ∀ x : Int, ¬ liveQ M k x → M.acc (M.run x (c :: u)) = false := fun x hx => by
          cases e2 : M.acc (M.run x (c :: u)) with
          | false => rfl
          | true => exact absurd ⟨_, hu, e2⟩ hx
        rw [f s hs, f t ht]
  refine ⟨fun x hx => ?_, fun x y hx hy nx ny => ?_, fun x c _ _ => hr.go_in⟩
  · have e : (clV L' x - 1 = -1) ↔ clV L' x = 0 := by omega
    show (clV L' x - 1 = -1) ↔ _
    rw [e, h'.zero hl hx.1 hx.2]
    constructor
    · intro hn u hu
      cases e2 : M.acc (u.foldl M.go x) with
      | false => rfl
      | true => exact absurd ⟨u, hu, e2⟩ hn
    · rintro hn ⟨u, hu, e2⟩
      have h3 := hn u hu
      change M.acc (M.run x u) = false at h3
      rw [e2] at h3; cases h3
  · change clV L' x - 1 ≠ -1 at nx
    change clV L' y - 1 ≠ -1 at ny
    show (clV L' x - 1 = clV L' y - 1) ↔ _
    constructor
    · intro e u hu
      exact key u hu x y hx.1 hx.2 hy.1 hy.2 (by omega)
    · intro e
      have lx : liveQ M k x := Classical.byContradiction fun hn => nx (by rw [(h'.zero hl hx.1 hx.2).2 hn]; rfl)
      have ly : liveQ M k y := Classical.byContradiction fun hn => ny (by rw [(h'.zero hl hy.1 hy.2).2 hn]; rfl)
      obtain ⟨p, rfl, p1, p2⟩ := nat x hx.1 hx.2 lx
      obtain ⟨q, rfl, q1, q2⟩ := nat y hy.1 hy.2 ly
      rw [clV_nat, clV_nat, h'.coarse p q p1 q1 p2 q2 e]
/-- Before the first round. -/
theorem Mre.start (hl : LiveOk M k lv) (hr : M.Right k) (h0 : L.length = M.n) (h : ∀ q : Nat, q < M.n → L.getD q 0 = if lv.getD q false = true then (if M.ac.getD q false = true then 2 else 1) else 0) : Mre M k lv L := by
  refine ⟨h0, fun q hq e => by rw [h q hq, e]; rfl, fun q hq e => by rw [h q hq, if_pos e]; split <;> omega, fun p q hp hq lp lq e => ?_, fun p q hp hq lp lq e => ?_⟩
  · rw [h p hp, h q hq, if_pos lp, if_pos lq] at e
    cases e1 : M.ac.getD p false <;> cases e2 : M.ac.getD q false <;> rw [e1, e2] at e <;> simp at e <;> rfl
  · have := e [] (let_nil k)
    change M.acc (p : Int) = M.acc (q : Int) at this
    rw [acc_nat, acc_nat] at this
    rw [h p hp, h q hq, if_pos lp, if_pos lq, this]
end
end Go.Proofs.Ytbfedfiemkhefaa
/- Plain mathematics: the classes as they are found one by one, with the rows of the automaton of the classes. Nothing here speaks of the program. -/
namespace Go.Proofs.Ytbfedfiemkhefaa
set_option linter.unusedVariables false

/-- The row of a state, up to a letter: numbers of classes. -/
def RowTo (cl : Int → Int) (M : Au) (CL : List Int) (q : Int) (c : Nat) (row : List Int) : Prop :=
  row.length = c ∧ ∀ e : Nat, e < c → (cl (M.go q e) = -1 ∧ row.getD e (-1) = -1) ∨ ∃ i : Nat, row.getD e (-1) = (i : Int) ∧ CL[i]? = some (cl (M.go q e))
section
variable {cl : Int → Int} {M : Au} {CL : List Int} {q : Int} {c : Nat} {row : List Int}
theorem RowTo.start : RowTo cl M CL q 0 [] := ⟨rfl, fun e h => absurd h (Nat.not_lt_zero _)⟩
theorem RowTo.more (h : RowTo cl M CL q c row) (x : Int) : RowTo cl M (CL ++ [x]) q c row := ⟨h.1, fun e he => by
  rcases h.2 e he with h1 | ⟨i, h1, h2⟩
  · exact .inl h1
  · exact .inr ⟨i, h1, get_left h2⟩⟩
theorem getD_snoc {β : Type} {l : List β} {x d : β} {e : Nat} (he : e < l.length) : (l ++ [x]).getD e d = l.getD e d := by
  rw [List.getD_eq_getElem?_getD, List.getD_eq_getElem?_getD, List.getElem?_append_left he]
theorem getD_last {β : Type} {l : List β} {x d : β} : (l ++ [x]).getD l.length d = x := by
  rw [List.getD_eq_getElem?_getD, get_last]; rfl
theorem RowTo.snoc (h : RowTo cl M CL q c row) {v : Int} (hv : (cl (M.go q c) = -1 ∧ v = -1) ∨ ∃ i : Nat, v = (i : Int) ∧ CL[i]? = some (cl (M.go q c))) : RowTo cl M CL q (c + 1) (row ++ [v]) := by
  refine ⟨by rw [List.length_append, h.1]; rfl, fun e he => ?_⟩
  by_cases ee : e = c
  · subst ee
    rw [← h.1, getD_last, h.1]
    rcases hv with ⟨h1, h2⟩ | ⟨i, h1, h2⟩
    · exact .inl ⟨h1, h2⟩
    · exact .inr ⟨i, h1, h2⟩
  · rw [getD_snoc (by rw [h.1]; omega)]
    exact h.2 e (by omega)
end
/-- What was found, with the rows and marks of the first i classes. -/
structure MSt (M : Au) (k : Nat) (cl : Int → Int) (s : Int) (fl : List Int) (pa : List Nat) (RW : List (List Int)) (acs : List Bool) (i P : Nat) : Prop where
  bfs : Bfs (clF M.go (fun t => -1 ≤ t ∧ t < M.n) cl) (fun q => q = -1) k (cl s) (fl.map cl) pa P
  hd : fl[0]? = some s
  fin : ∀ q ∈ fl, 0 ≤ q ∧ q < M.n
  rl : RW.length = i
  rows : ∀ (j : Nat) row, RW[j]? = some row → ∃ q, fl[j]? = some q ∧ RowTo cl M (fl.map cl) q k row
  al : acs.length = i
  acs : ∀ (j : Nat) b, acs[j]? = some b → ∃ q, fl[j]? = some q ∧ b = M.acc q
section
variable {M : Au} {k : Nat} {cl : Int → Int} {s : Int} {fl : List Int} {pa : List Nat} {RW : List (List Int)} {acs : List Bool} {i P : Nat}
theorem map_at {fl : List Int} {j : Nat} {q : Int} (h : fl[j]? = some q) : (fl.map cl)[j]? = some (cl q) := by rw [List.getElem?_map, h]; rfl
theorem MSt.start (hs : 0 ≤ s ∧ s < M.n) (h1 : cl s ≠ -1) : MSt M k cl s [s] [0] [] [] 0 0 :=
  ⟨Bfs.start 0 h1, rfl, fun q hq => by rw [List.mem_singleton.1 hq]; exact hs, rfl, fun j row h => by simp at h, rfl, fun j b h => by simp at h⟩
theorem MSt.dom (h : MSt M k cl s fl pa RW acs i P) {j : Nat} {q : Int} (hq : fl[j]? = some q) : (fun t : Int => -1 ≤ t ∧ t < M.n) q := by
  have := h.fin q (List.mem_of_getElem? hq)
  exact ⟨by omega, this.2⟩
/-- A letter that leads to no class, or to one that was found. -/
theorem MSt.seen (hc : Cls M.go M.acc k (fun t => -1 ≤ t ∧ t < M.n) cl) (h : MSt M k cl s fl pa RW acs i P) {j c : Nat} (hP : P = j * k + c) (hck : c < k) {q : Int} (hq : fl[j]? = some q)
    (hv : cl (M.go q c) = -1 ∨ ∃ i' : Nat, (fl.map cl)[i']? = some (cl (M.go q c))) : MSt M k cl s fl pa RW acs i (P + 1) := by
  obtain ⟨d1, d2⟩ := pos_div (i := j) hck
  refine ⟨?_, h.hd, h.fin, h.rl, h.rows, h.al, h.acs⟩
  refine h.bfs.seen (y := cl q) (by rw [hP, d1]; exact map_at hq) ?_
  rw [hP, d2, hc.f (h.dom hq) hck]
  exact hv
/-- A letter that leads to a new class. -/
theorem MSt.new (hc : Cls M.go M.acc k (fun t => -1 ≤ t ∧ t < M.n) cl) (h : MSt M k cl s fl pa RW acs i P) {j c : Nat} (hP : P = j * k + c) (hck : c < k) {q : Int} (hq : fl[j]? = some q)
    (h1 : cl (M.go q c) ≠ -1) (h0 : 0 ≤ M.go q c ∧ M.go q c < M.n) (hn : ∀ i' : Nat, (fl.map cl)[i']? ≠ some (cl (M.go q c))) : MSt M k cl s (fl ++ [M.go q c]) (pa ++ [P]) RW acs i (P + 1) := by
  obtain ⟨d1, d2⟩ := pos_div (i := j) hck
  have e : (fl ++ [M.go q c]).map cl = fl.map cl ++ [cl (M.go q c)] := by rw [List.map_append]; rfl
  have hf : clF M.go (fun t => -1 ≤ t ∧ t < M.n) cl (cl q) (P % k) = cl (M.go q c) := by rw [hP, d2, hc.f (h.dom hq) hck]
  have hb := h.bfs.new (y := cl q) (by rw [hP, d1]; exact map_at hq) (by rw [hf]; exact h1) (by rw [hf]; exact hn)
  rw [hf] at hb
  refine ⟨by rw [e]; exact hb, get_left h.hd, fun x hx => ?_, h.rl, fun j' row hr => ?_, h.al, fun j' b hb' => ?_⟩
  · rcases List.mem_append.1 hx with hx | hx
    · exact h.fin x hx
    · rw [List.mem_singleton.1 hx]; exact h0
  · obtain ⟨q', a, b⟩ := h.rows j' row hr
    exact ⟨q', get_left a, by rw [e]; exact b.more _⟩
  · obtain ⟨q', a, b⟩ := h.acs j' b hb'
    exact ⟨q', get_left a, b⟩
/-- The row of a state is done. -/
theorem MSt.close (h : MSt M k cl s fl pa RW acs i P) {q : Int} (hq : fl[i]? = some q) {row : List Int} (hr : RowTo cl M (fl.map cl) q k row) : MSt M k cl s fl pa (RW ++ [row]) (acs ++ [M.acc q]) (i + 1) P := by
  refine ⟨h.bfs, h.hd, h.fin, by rw [List.length_append, h.rl]; rfl, fun j r hj => ?_, by rw [List.length_append, h.al]; rfl, fun j b hj => ?_⟩
  · rcases get_snoc hj with ⟨_, e⟩ | ⟨e, rfl⟩
    · exact h.rows j r e
    · exact ⟨q, by rw [e, h.rl]; exact hq, hr⟩
  · rcases get_snoc hj with ⟨_, e⟩ | ⟨e, rfl⟩
    · exact h.acs j b e
    · exact ⟨q, by rw [e, h.al]; exact hq, rfl⟩
theorem MSt.few (h : MSt M k cl s fl pa RW acs i P) : fl.length ≤ M.n := by
  refine inj_below (fun j => (fl.getD j 0).toNat) (fun j hj => ?_) (fun a b ha hb e => ?_)
  · have := h.fin _ (List.getElem_mem hj)
    have e2 : fl.getD j 0 = fl[j] := getD_at hj
    show (fl.getD j 0).toNat < M.n
    rw [e2]; omega
  · have h1 := h.fin _ (List.getElem_mem ha)
    have h2 := h.fin _ (List.getElem_mem hb)
    have e1 : fl.getD a 0 = fl[a] := getD_at ha
    have e2 : fl.getD b 0 = fl[b] := getD_at hb
    have e3 : (fl.getD a 0).toNat = (fl.getD b 0).toNat := e
    rw [e1, e2] at e3
    have e4 : fl[a] = fl[b] := by omega
    exact h.bfs.nd a b (cl fl[a]) (map_at (List.getElem?_eq_getElem ha)) (by rw [e4]; exact map_at (List.getElem?_eq_getElem hb))
/-- At the end it is the minimal automaton. -/
theorem MSt.canon (hc : Cls M.go M.acc k (fun t => -1 ≤ t ∧ t < M.n) cl) (hr : M.Right k) (h : MSt M k cl s fl pa RW acs i P) (hi : i = fl.length) (hP : P = fl.length * k) (hs : M.st = s) : Canon k (fun u => M.lang u) ⟨k, RW, acs, 0⟩ := by
  have hD := h.dom h.hd
  have h0 : 0 < fl.length := (List.getElem?_eq_some_iff.1 h.hd).1
  have cat : ∀ {j : Nat} {C : Int}, (fl.map cl)[j]? = some C → ∃ q, fl[j]? = some q ∧ cl q = C := by
    intro j C hj
    rw [List.getElem?_map] at hj
    cases e : fl[j]? with
    | none => rw [e] at hj; cases hj
    | some q => rw [e] at hj; injection hj with hj; exact ⟨q, rfl, hj⟩
  have hq : IsQuot k (clF M.go (fun t => -1 ≤ t ∧ t < M.n) cl) (clA M.acc (fun t => -1 ≤ t ∧ t < M.n) cl) (fl.map cl) ⟨k, RW, acs, 0⟩ := by
    refine ⟨rfl, by rw [List.length_map]; exact h.rl.trans hi, fun j row hr => ?_, by rw [List.length_map]; exact h.al.trans hi, by rw [List.length_map, if_neg (by omega)], fun j C c hj hck => ?_, fun j C hj => ?_⟩
    · obtain ⟨q, _, b⟩ := h.rows j row hr
      exact b.1
    · obtain ⟨q, hq, rfl⟩ := cat hj
      have hjl := (List.getElem?_eq_some_iff.1 hq).1
      obtain ⟨row, hrw⟩ : ∃ row, RW[j]? = some row := ⟨_, List.getElem?_eq_getElem (show j < RW.length by rw [h.rl]; omega)⟩
      obtain ⟨q', a, b⟩ := h.rows j _ hrw
      rw [hq] at a
      injection a with a
      subst a
      rw [hc.f (h.dom hq) hck]
      have hgo : Au.go ⟨k, RW, acs, 0⟩ (j : Int) c = row.getD c (-1) := by
        unfold Au.go
        rw [if_neg (by omega), Int.toNat_natCast]
        show (RW.getD j []).getD c (-1) = _
        rw [List.getD_eq_getElem?_getD (l := RW), hrw]; rfl
      rw [hgo]
      exact b.2 c hck
    · obtain ⟨q, hq, rfl⟩ := cat hj
      have hjl := (List.getElem?_eq_some_iff.1 hq).1
      obtain ⟨av, hac⟩ : ∃ v, acs[j]? = some v := ⟨_, List.getElem?_eq_getElem (show j < acs.length by rw [h.al]; omega)⟩
      obtain ⟨q', a, b⟩ := h.acs j _ hac
      rw [hq] at a
      injection a with a
      subst a
      rw [hc.acc (h.dom hq), acc_nat]
      show acs.getD j false = M.acc q
      rw [List.getD_eq_getElem?_getD, hac, ← b]; rfl
  have hcan := hc.canon hr.pos hD hq h.bfs (by rw [List.length_map, hP]; exact Nat.le_refl _) (fun j C hj => by
    obtain ⟨q, hq, e⟩ := cat hj
    exact ⟨q, h.dom hq, e⟩)
  refine hcan.of_eq (fun u hu => ?_)
  rw [hc.fold u hu s hD]
  show M.acc (u.foldl M.go s) = M.acc (u.foldl M.go M.st)
  rw [hs]
/-- No class at the start: no words. -/
theorem canon_none (hc : Cls M.go M.acc k (fun t => -1 ≤ t ∧ t < M.n) cl) (hr : M.Right k) (h : M.st < 0 ∨ cl M.st = -1) : Canon k (fun u => M.lang u) ⟨k, [], [], -1⟩ := by
  have hq : IsQuot k M.go M.acc [] ⟨k, [], [], -1⟩ := ⟨rfl, rfl, fun i row h => by simp at h, rfl, rfl, fun j C c h => by simp at h, fun j C h => by simp at h⟩
  refine (canon_empty hr.pos hq).of_eq (fun u hu => ?_)
  show false = M.acc (M.run M.st u)
  rcases h with h | h
  · have e : M.st = -1 := by have := hr.st_in; omega
    rw [e, M.run_neg, M.acc_neg (by omega)]
  · exact ((hc.dead M.st hr.st_in).1 h u hu).symm
/-! ### The map from classes to numbers -/
def psOf (L : List Int) : List Int → Nat → List (Int × Value)
  | [], _ => []
  | q :: r, n => (clV L q, .int .i64 (n : Int)) :: psOf L r (n + 1)
theorem psOf_snoc {L : List Int} {q : Int} : ∀ (fl : List Int) (n : Nat), psOf L (fl ++ [q]) n = psOf L fl n ++ [(clV L q, .int .i64 ((n + fl.length : Nat) : Int))]
  | [], n => by simp [psOf]
  | x :: r, n => by
    show _ :: psOf L (r ++ [q]) (n + 1) = _ :: (psOf L r (n + 1) ++ _)
    rw [psOf_snoc r (n + 1), show n + 1 + r.length = n + (x :: r).length by simp; omega]
end
end Go.Proofs.Ytbfedfiemkhefaa
