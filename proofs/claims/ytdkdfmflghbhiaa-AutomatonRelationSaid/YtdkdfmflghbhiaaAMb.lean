/- Plain mathematics of automata: languages, the minimal automaton, and that it is the only one. Nothing here speaks of the program. -/
import Derived.Test.YtdkdfmflghbhiaaAMa
namespace Go.Proofs.Ytdkdfmflghbhiaa
set_option linter.unusedVariables false

/-- An automaton as it is read. -/
structure Au where
  lt : Int
  nx : List (List Int)
  ac : List Bool
  st : Int
deriving DecidableEq
theorem getD_at {β : Type} {l : List β} {i : Nat} {d : β} (h : i < l.length) : l.getD i d = l[i] := by
  rw [List.getD_eq_getElem?_getD, List.getElem?_eq_getElem h]; rfl
namespace Au
def n (M : Au) : Nat := M.nx.length
def go (M : Au) (q : Int) (c : Nat) : Int := if q < 0 then -1 else (M.nx.getD q.toNat []).getD c (-1)
def acc (M : Au) (q : Int) : Bool := decide (0 ≤ q) && M.ac.getD q.toNat false
def run (M : Au) (q : Int) (u : List Nat) : Int := u.foldl M.go q
def lang (M : Au) (u : List Nat) : Bool := M.acc (M.run M.st u)
/-- The rows are right. -/
structure Right (M : Au) (k : Nat) : Prop where
  lt : M.lt = k
  pos : 0 < k
  rows : ∀ (i : Nat) (row : List Int), M.nx[i]? = some row → row.length = k ∧ ∀ x ∈ row, -1 ≤ x ∧ x < M.n
  acl : M.ac.length = M.nx.length
  st0 : M.n = 0 → M.st = -1
  st1 : 0 < M.n → 0 ≤ M.st ∧ M.st < M.n
theorem go_neg (M : Au) {q : Int} (h : q < 0) (c : Nat) : M.go q c = -1 := if_pos h
theorem run_neg (M : Au) : ∀ (u : List Nat), M.run (-1) u = -1
  | [] => rfl
  | c :: u => by
    show M.run (M.go (-1) c) u = -1
    rw [go_neg M (by omega)]; exact run_neg M u
theorem acc_neg (M : Au) {q : Int} (h : q < 0) : M.acc q = false := by
  unfold acc; rw [decide_eq_false (by omega)]; rfl
theorem run_cons (M : Au) (q : Int) (c : Nat) (u : List Nat) : M.run q (c :: u) = M.run (M.go q c) u := rfl
theorem run_app (M : Au) (q : Int) (u v : List Nat) : M.run q (u ++ v) = M.run (M.run q u) v := List.foldl_append
theorem Right.go_in {M : Au} {k : Nat} (h : M.Right k) {q : Int} {c : Nat} : -1 ≤ M.go q c ∧ M.go q c < M.n := by
  by_cases hq : q < 0
  · rw [go_neg M hq]; omega
  · unfold go
    rw [if_neg hq, List.getD_eq_getElem?_getD, List.getD_eq_getElem?_getD]
    cases hr : M.nx[q.toNat]? with
    | none => simp; omega
    | some row =>
      simp only [Option.getD_some]
      obtain ⟨r1, r2⟩ := h.rows _ _ hr
      cases hc : row[c]? with
      | none => simp; omega
      | some x => simp only [Option.getD_some]; exact r2 x (List.mem_of_getElem? hc)
theorem Right.inRun {M : Au} {k : Nat} (h : M.Right k) : ∀ (u : List Nat) (q : Int), -1 ≤ q → q < M.n → -1 ≤ M.run q u ∧ M.run q u < M.n
  | [], q, h1, h2 => ⟨h1, h2⟩
  | c :: u, q, _, _ => h.inRun u _ h.go_in.1 h.go_in.2
theorem Right.st_in {M : Au} {k : Nat} (h : M.Right k) : -1 ≤ M.st ∧ M.st < M.n := by
  by_cases h0 : M.n = 0
  · rw [h.st0 h0]; omega
  · have := h.st1 (by omega); omega
end Au
/-- R is the minimal automaton of the words with P over k letters. -/
structure Canon (k : Nat) (P : List Nat → Bool) (R : Au) : Prop where
  right : R.Right k
  start : 0 < R.n → R.st = 0
  lang : ∀ u, Let k u → R.lang u = P u
  live : ∀ q : Nat, q < R.n → ∃ u, Let k u ∧ R.acc (R.run q u) = true
  red : ∀ q r : Nat, q < R.n → r < R.n → (∀ u, Let k u → R.acc (R.run q u) = R.acc (R.run r u)) → q = r
  bfs : 0 < R.n → ∃ pa, Bfs R.go (fun q => q = -1) k (0 : Int) ((List.range R.n).map Int.ofNat) pa (R.n * k)
theorem rangeI {n j : Nat} {x : Int} (h : ((List.range n).map Int.ofNat)[j]? = some x) : j < n ∧ x = (j : Int) := by
  rw [List.getElem?_map] at h
  by_cases hj : j < n
  · rw [List.getElem?_range hj] at h
    injection h with h
    exact ⟨hj, h.symm⟩
  · rw [List.getElem?_eq_none (by simp; omega)] at h; cases h
theorem rangeI_mk {n j : Nat} (h : j < n) : ((List.range n).map Int.ofNat)[j]? = some (j : Int) := by
  rw [List.getElem?_map, List.getElem?_range h]; rfl
theorem pos_lt {p k n : Nat} (hk : 0 < k) (h : p / k < n) : p < n * k := by
  have h1 := Nat.div_add_mod p k
  have h2 := Nat.mod_lt p hk
  have h3 := Nat.mul_le_mul_right k (show p / k + 1 ≤ n from h)
  rw [Nat.add_mul, Nat.mul_comm (p / k)] at h3
  omega
theorem canon_half {k : Nat} {P : List Nat → Bool} {R S : Au} (h : Canon k P R) (g : Canon k P S) :
    ∀ m j : Nat, j < m → j < R.n → j < S.n ∧ ∀ u, Let k u → R.acc (R.run j u) = S.acc (S.run j u) := by
  have hk := h.right.pos
  intro m
  induction m with
  | zero => intro j hj; omega
  | succ m ih =>
    intro j hjm hj
    by_cases j0 : j = 0
    · subst j0
      have hst := h.start hj
      have hS : 0 < S.n := by
        obtain ⟨u, hu, ha⟩ := h.live 0 hj
        have e1 : P u = true := by
          rw [← h.lang u hu]; show R.acc (R.run R.st u) = true; rw [hst]; exact ha
        rw [← g.lang u hu] at e1
        by_cases c : S.n = 0
        · have e2 : S.lang u = false := by
            show S.acc (S.run S.st u) = false
            rw [g.right.st0 c, S.run_neg]; exact S.acc_neg (by omega)
          rw [e2] at e1; cases e1
        · omega
      refine ⟨hS, fun u hu => ?_⟩
      have e1 := h.lang u hu
      have e2 := g.lang u hu
      unfold Au.lang at e1 e2
      rw [hst] at e1
      rw [g.start hS] at e2
      exact e1.trans e2.symm
    · obtain ⟨pa, hb⟩ := h.bfs (by omega)
      have hlen : ((List.range R.n).map Int.ofNat).length = R.n := by simp
      have hjl : j < pa.length := by rw [hb.len, hlen]; exact hj
      have hp : pa[j]? = some pa[j] := List.getElem?_eq_getElem hjl
      obtain ⟨p, hpe⟩ : ∃ p, p = pa[j] := ⟨_, rfl⟩
      rw [← hpe] at hp
      obtain ⟨b1, b2, y, b3, b4⟩ := hb.par j _ p (by omega) (rangeI_mk hj) hp
      obtain ⟨b5, rfl⟩ := rangeI b3
      obtain ⟨i1, i2⟩ := ih (p / k) (by omega) b5
      have hc := Nat.mod_lt p hk
      have res : ∀ u, Let k u → R.acc (R.run j u) = S.acc (S.run (S.go (p / k : Nat) (p % k)) u) := by
        intro u hu
        have := i2 (p % k :: u) (fun d hd => by
          rcases List.mem_cons.1 hd with e | e
          · rw [e]; exact hc
          · exact hu d e)
        rw [Au.run_cons, Au.run_cons, b4] at this
        exact this
      obtain ⟨v, hv, hva⟩ := h.live j hj
      obtain ⟨t, ht⟩ : ∃ t, t = S.go (p / k : Nat) (p % k) := ⟨_, rfl⟩
      rw [← ht] at res
      have ht0 : 0 ≤ t := by
        by_cases c : 0 ≤ t
        · exact c
        · have := g.right.go_in (q := ((p / k : Nat) : Int)) (c := p % k)
          rw [← ht] at this
          have e : t = -1 := by omega
          rw [res v hv, e, S.run_neg, S.acc_neg (by omega)] at hva
          cases hva
      have htn : t < S.n := by
        have := g.right.go_in (q := ((p / k : Nat) : Int)) (c := p % k)
        rw [← ht] at this; exact this.2
      obtain ⟨τ, rfl⟩ := Int.eq_ofNat_of_zero_le ht0
      have htn : τ < S.n := by omega
      have hτ : τ = j := by
        rcases Nat.lt_trichotomy τ j with c | c | c
        · obtain ⟨_, r⟩ := ih τ (by omega) (by omega)
          exact h.red τ j (by omega) hj (fun u hu => (r u hu).trans (res u hu).symm)
        · exact c
        · obtain ⟨pb, gb⟩ := g.bfs (by omega)
          have hjS : j < S.n := by omega
          have glen : ((List.range S.n).map Int.ofNat).length = S.n := by simp
          have hjb : j < pb.length := by rw [gb.len, glen]; exact hjS
          obtain ⟨q, hq⟩ : ∃ q, pb[j]? = some q := ⟨_, List.getElem?_eq_getElem hjb⟩
          obtain ⟨q1, q2, y, q3, q4⟩ := gb.par j _ q (by omega) (rangeI_mk hjS) hq
          obtain ⟨q5, rfl⟩ := rangeI q3
          have hqp : q < p := by
            rcases gb.closed p _ (pos_lt hk i1) (rangeI_mk i1) with e | ⟨j1, e1, e2⟩
            · rw [← ht] at e; omega
            · rw [← ht] at e1
              obtain ⟨e3, e4⟩ := rangeI e1
              have e5 : j1 = τ := by omega
              subst e5
              rcases e2 with e2 | ⟨q', e6, e7⟩
              · omega
              · have := gb.mono j j1 q q' (by omega) c hq e6
                omega
          obtain ⟨k1, k2⟩ := ih (q / k) (by omega) (by omega)
          have hcq := Nat.mod_lt q hk
          have res2 : ∀ u, Let k u → R.acc (R.run (R.go (q / k : Nat) (q % k)) u) = S.acc (S.run j u) := by
            intro u hu
            have := k2 (q % k :: u) (fun d hd => by
              rcases List.mem_cons.1 hd with e | e
              · rw [e]; exact hcq
              · exact hu d e)
            rw [Au.run_cons, Au.run_cons, q4] at this
            exact this
          obtain ⟨v, hv, hva⟩ := g.live j hjS
          obtain ⟨x, hx⟩ : ∃ x, x = R.go (q / k : Nat) (q % k) := ⟨_, rfl⟩
          rw [← hx] at res2
          have hgi := h.right.go_in (q := ((q / k : Nat) : Int)) (c := q % k)
          rw [← hx] at hgi
          have hx0 : 0 ≤ x := by
            by_cases c : 0 ≤ x
            · exact c
            · have e : x = -1 := by omega
              rw [← res2 v hv, e, R.run_neg, R.acc_neg (by omega)] at hva
              cases hva
          obtain ⟨ρ, rfl⟩ := Int.eq_ofNat_of_zero_le hx0
          have hρn : ρ < R.n := by omega
          have hρ : ρ < j := by
            rcases hb.closed q _ (pos_lt hk (by omega)) (rangeI_mk (show q / k < R.n by omega)) with e | ⟨j1, e1, e2⟩
            · rw [← hx] at e; omega
            · rw [← hx] at e1
              obtain ⟨e3, e4⟩ := rangeI e1
              have e5 : j1 = ρ := by omega
              subst e5
              rcases e2 with e2 | ⟨q', e6, e7⟩
              · omega
              · rcases Nat.lt_trichotomy j1 j with d | d | d
                · exact d
                · subst d; rw [hp] at e6; injection e6 with e6; omega
                · have := hb.mono j j1 p q' (by omega) d hp e6
                  omega
          obtain ⟨_, r⟩ := ih ρ (by omega) hρn
          have := g.red ρ j (by omega) hjS (fun u hu => (r u hu).symm.trans (res2 u hu))
          omega
      subst hτ
      exact ⟨htn, res⟩
theorem Canon.uniq {k : Nat} {P : List Nat → Bool} {R S : Au} (h : Canon k P R) (g : Canon k P S) : R = S := by
  have hn : R.n = S.n := by
    have a : R.n ≤ S.n := by
      by_cases c : R.n = 0
      · omega
      · have := (canon_half h g R.n (R.n - 1) (by omega) (by omega)).1; omega
    have b : S.n ≤ R.n := by
      by_cases c : S.n = 0
      · omega
      · have := (canon_half g h S.n (S.n - 1) (by omega) (by omega)).1; omega
    omega
  have res : ∀ j : Nat, j < R.n → ∀ u, Let k u → R.acc (R.run j u) = S.acc (S.run j u) := fun j hj => (canon_half h g R.n j hj hj).2
  have hgo : ∀ (q c : Nat), q < R.n → c < k → R.go q c = S.go q c := by
    intro q c hq hc
    have r1 : ∀ u, Let k u → R.acc (R.run (R.go q c) u) = S.acc (S.run (S.go q c) u) := by
      intro u hu
      exact res q hq (c :: u) (fun d hd => by
        rcases List.mem_cons.1 hd with e | e
        · rw [e]; exact hc
        · exact hu d e)
    have i1 := h.right.go_in (q := (q : Int)) (c := c)
    have i2 := g.right.go_in (q := (q : Int)) (c := c)
    obtain ⟨x, hx⟩ : ∃ x, x = R.go q c := ⟨_, rfl⟩
    obtain ⟨y, hy⟩ : ∃ y, y = S.go q c := ⟨_, rfl⟩
    rw [← hx] at i1
    rw [← hy] at i2
    rw [← hx, ← hy] at r1
    rw [← hx, ← hy]
    by_cases c1 : x < 0
    · have e1 : x = -1 := by omega
      by_cases c2 : y < 0
      · omega
      · obtain ⟨t, rfl⟩ := Int.eq_ofNat_of_zero_le (show 0 ≤ y by omega)
        obtain ⟨u, hu, ha⟩ := g.live t (by omega)
        have := r1 u hu
        rw [e1, R.run_neg, R.acc_neg (by omega)] at this
        rw [← this] at ha; cases ha
    · obtain ⟨s, rfl⟩ := Int.eq_ofNat_of_zero_le (show 0 ≤ x by omega)
      have hs : s < R.n := by omega
      by_cases c2 : y < 0
      · have e2 : y = -1 := by omega
        obtain ⟨u, hu, ha⟩ := h.live s hs
        have := r1 u hu
        rw [e2, S.run_neg, S.acc_neg (by omega)] at this
        rw [this] at ha; cases ha
      · obtain ⟨t, rfl⟩ := Int.eq_ofNat_of_zero_le (show 0 ≤ y by omega)
        have := g.red s t (by omega) (by omega) (fun u hu => (res s hs u hu).symm.trans (r1 u hu))
        rw [this]
  have e1 : R.lt = S.lt := h.right.lt.trans g.right.lt.symm
  have e2 : R.nx = S.nx := by
    apply List.ext_getElem hn
    intro i h1 h2
    have ra := h.right.rows i _ (List.getElem?_eq_getElem h1)
    have rb := g.right.rows i _ (List.getElem?_eq_getElem h2)
    apply List.ext_getElem (by rw [ra.1, rb.1])
    intro c c1 c2
    have := hgo i c h1 (by rw [ra.1] at c1; exact c1)
    unfold Au.go at this
    rw [if_neg (by omega), if_neg (by omega)] at this
    simp only [Int.toNat_natCast] at this
    rw [getD_at h1, getD_at h2, getD_at c1, getD_at c2] at this
    exact this
  have e3 : R.ac = S.ac := by
    apply List.ext_getElem (by rw [h.right.acl, g.right.acl]; exact hn)
    intro i h1 h2
    have hi : i < R.n := by rw [h.right.acl] at h1; exact h1
    have : R.acc (i : Int) = S.acc (i : Int) := res i hi [] (let_nil k)
    unfold Au.acc at this
    simp only [Int.toNat_natCast] at this
    rw [decide_eq_true (show (0 : Int) ≤ i by omega), Bool.true_and, Bool.true_and, getD_at h1, getD_at h2] at this
    exact this
  have e4 : R.st = S.st := by
    by_cases c : R.n = 0
    · rw [h.right.st0 c, g.right.st0 (by omega)]
    · rw [h.start (by omega), g.start (by omega)]
  cases R; cases S
  simp only at e1 e2 e3 e4
  subst e1; subst e2; subst e3; subst e4
  rfl
end Go.Proofs.Ytdkdfmflghbhiaa
