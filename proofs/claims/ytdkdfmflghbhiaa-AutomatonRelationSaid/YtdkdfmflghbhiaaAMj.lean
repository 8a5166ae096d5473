/- Plain mathematics: which states lead to one that accepts. Nothing here speaks of the program. -/
import Derived.Test.YtdkdfmflghbhiaaAMi
namespace Go.Proofs.Ytdkdfmflghbhiaa
set_option linter.unusedVariables false

/-- A list of marks as a function. -/
def acF (ac : List Bool) (q : Nat) : Bool := ac.getD q false
theorem acF_lt {ac : List Bool} {q : Nat} (h : acF ac q = true) : q < ac.length := by
  by_cases e : q < ac.length
  · exact e
  · unfold acF at h
    rw [List.getD_eq_getElem?_getD, List.getElem?_eq_none (by omega)] at h; cases h
theorem acF_set {lv : List Bool} {q x : Nat} (hq : q < lv.length) : acF (lv.set q true) x = if x = q then true else acF lv x := by
  unfold acF; rw [getD_set hq]
/-- The search backwards from the states that accept; those of op are still to be looked at. -/
structure LvS (N k : Nat) (nx : List Int) (ac lv : List Bool) (op : List Nat) : Prop where
  len : lv.length = N
  lac : ac.length = N
  sound : ∀ q : Nat, acF lv q = true → ∃ u, Let k u ∧ aq (acF ac) (u.foldl (gq (nxF nx k)) (q : Int)) = true
  base : ∀ q : Nat, acF ac q = true → acF lv q = true
  shut : ∀ t q c : Nat, t < N → acF lv t = true → t ∉ op → q < N → c < k → nxF nx k q c = (t : Int) → acF lv q = true
  ops : ∀ t, t ∈ op → acF lv t = true
/-- The same while the places that lead to t are looked at, those of L, below i. -/
structure LvM (N k : Nat) (nx : List Int) (ac lv : List Bool) (op : List Nat) (t : Nat) (L : List Int) (i : Nat) : Prop where
  len : lv.length = N
  lac : ac.length = N
  sound : ∀ q : Nat, acF lv q = true → ∃ u, Let k u ∧ aq (acF ac) (u.foldl (gq (nxF nx k)) (q : Int)) = true
  base : ∀ q : Nat, acF ac q = true → acF lv q = true
  shut : ∀ t' q c : Nat, t' < N → acF lv t' = true → t' ∉ op → t' ≠ t → q < N → c < k → nxF nx k q c = (t' : Int) → acF lv q = true
  ops : ∀ t, t ∈ op → acF lv t = true
  tin : acF lv t = true
  part : ∀ j : Nat, j < i → ∀ q : Nat, L[j]? = some (q : Int) → acF lv q = true
def cntF (lv : List Bool) : Nat := (lv.filter (fun b => !b)).length
theorem cntF_set : ∀ {lv : List Bool} {q : Nat}, lv[q]? = some false → cntF (lv.set q true) + 1 = cntF lv
  | [], q, h => by simp at h
  | b :: lv, 0, h => by
    have e : b = false := by simpa using h
    subst e
    simp [cntF]
  | b :: lv, q + 1, h => by
    have ih := cntF_set (lv := lv) (q := q) (by simpa using h)
    unfold cntF at ih ⊢
    cases b <;> simp <;> omega
theorem cntF_le (lv : List Bool) : cntF lv ≤ lv.length := List.length_filter_le _ _
section
variable {N k : Nat} {nx : List Int} {ac lv : List Bool} {op : List Nat} {t i : Nat} {L : List Int}
theorem LvS.start (hl : ac.length = N) (h : ∀ q, q ∈ op ↔ acF ac q = true) : LvS N k nx ac ac op :=
  ⟨hl, hl, fun q hq => ⟨[], let_nil k, by rw [List.foldl_nil, aq_nat]; exact hq⟩, fun q hq => hq, fun t q c ht hlv hop => absurd ((h t).2 hlv) hop, fun t ht => (h t).1 ht⟩
theorem LvS.open (h : LvS N k nx ac lv (op ++ [t])) : LvM N k nx ac lv op t L 0 :=
  ⟨h.len, h.lac, h.sound, h.base, fun t' q c ht hlv hop hne => h.shut t' q c ht hlv (by simp [hop, hne]), fun x hx => h.ops x (by simp [hx]), h.ops t (by simp), fun j hj => by omega⟩
theorem LvM.skip (h : LvM N k nx ac lv op t L i) {q : Nat} (hq : L[i]? = some (q : Int)) (hl : acF lv q = true) : LvM N k nx ac lv op t L (i + 1) :=
  ⟨h.len, h.lac, h.sound, h.base, h.shut, h.ops, h.tin, fun j hj x hx => by
    by_cases e : j = i
    · subst e
      rw [hq] at hx; injection hx with hx
      have : x = q := by omega
      rw [this]; exact hl
    · exact h.part j (by omega) x hx⟩
theorem LvM.push (h : LvM N k nx ac lv op t L i) {q c : Nat} (hq : L[i]? = some (q : Int)) (hqN : q < N) (hc : c < k) (hn : nxF nx k q c = (t : Int)) : LvM N k nx ac (lv.set q true) (op ++ [q]) t L (i + 1) := by
  have hql : q < lv.length := by rw [h.len]; exact hqN
  have up : ∀ x, acF lv x = true → acF (lv.set q true) x = true := fun x hx => by rw [acF_set hql]; split; rfl; exact hx
  refine ⟨by rw [List.length_set]; exact h.len, h.lac, ?_, fun x hx => up x (h.base x hx), ?_, ?_, up t h.tin, ?_⟩
  · intro x hx
    rw [acF_set hql] at hx
    by_cases e : x = q
    · subst e
      obtain ⟨u, hu, ha⟩ := h.sound t h.tin
      refine ⟨c :: u, let_cons hc hu, ?_⟩
      rw [List.foldl_cons, gq_nat, hn]; exact ha
    · rw [if_neg e] at hx; exact h.sound x hx
  · intro t' x d ht' hlv hop hne hx hd hnx
    rw [acF_set hql] at hlv
    by_cases e : t' = q
    · subst e; exact absurd (by simp) hop
    · rw [if_neg e] at hlv
      exact up x (h.shut t' x d ht' hlv (fun f => hop (by simp [f])) hne hx hd hnx)
  · intro x hx
    rcases List.mem_append.1 hx with f | f
    · exact up x (h.ops x f)
    · rw [List.mem_singleton.1 f, acF_set hql, if_pos rfl]
  · intro j hj x hx
    by_cases e : j = i
    · subst e
      rw [hq] at hx; injection hx with hx
      have : x = q := by omega
      rw [this, acF_set hql, if_pos rfl]
    · exact up x (h.part j (by omega) x hx)
theorem LvM.close (h : LvM N k nx ac lv op t L i) (hi : L.length ≤ i) (hL : ∀ q c : Nat, q < N → c < k → nxF nx k q c = (t : Int) → (q : Int) ∈ L) : LvS N k nx ac lv op := by
  refine ⟨h.len, h.lac, h.sound, h.base, ?_, h.ops⟩
  intro t' q c ht hlv hop hq hc hn
  by_cases e : t' = t
  · subst e
    obtain ⟨j, hj⟩ := mem_at (hL q c hq hc hn)
    have := (List.getElem?_eq_some_iff.1 hj).1
    exact h.part j (by omega) q hj
  · exact h.shut t' q c ht hlv hop e hq hc hn
theorem LvS.done (h : LvS N k nx ac lv []) (hx : NxOk N k nx) (hk : 0 < k) : Sys N k (nxF nx k) (acF ac) (acF lv) := by
  have key : ∀ (u : List Nat) (q : Nat), q < N → Let k u → aq (acF ac) (u.foldl (gq (nxF nx k)) (q : Int)) = true → acF lv q = true := by
    intro u
    induction u with
    | nil =>
      intro q _ _ ha
      rw [List.foldl_nil, aq_nat] at ha
      exact h.base q ha
    | cons c u ih =>
      intro q hq hu ha
      rw [List.foldl_cons, gq_nat] at ha
      have hin := hx.nin hq hu.cons.1
      by_cases e : nxF nx k q c < 0
      · have : nxF nx k q c = -1 := by omega
        rw [this, fold_neg, aq_neg (by omega)] at ha; cases ha
      · obtain ⟨t, ht⟩ := Int.eq_ofNat_of_zero_le (show 0 ≤ nxF nx k q c by omega)
        have ht' : nxF nx k q c = (t : Int) := ht
        rw [ht'] at ha
        have htN : t < N := by omega
        exact h.shut t q c htN (ih t htN hu.cons.2 ha) (by simp) hq hu.cons.1 ht'
  exact ⟨hk, fun q c hq hc => hx.nin hq hc, fun q hq => ⟨fun hl => h.sound q hl, fun ⟨u, hu, ha⟩ => key u q hq hu ha⟩⟩
/-- The accepting ones below m. -/
def accL (ac : List Bool) (m : Nat) : List Nat := (List.range m).filter (acF ac)
theorem accL_succ (ac : List Bool) (m : Nat) : accL ac (m + 1) = if acF ac m = true then accL ac m ++ [m] else accL ac m := by
  unfold accL
  rw [List.range_succ, List.filter_append]
  by_cases e : acF ac m = true
  · simp [e]
  · simp [e]
theorem accL_le (ac : List Bool) (m : Nat) : (accL ac m).length ≤ m := by
  have := List.length_filter_le (acF ac) (List.range m)
  rw [List.length_range] at this
  exact this
theorem accL_all {ac : List Bool} (q : Nat) : q ∈ accL ac ac.length ↔ acF ac q = true := by
  unfold accL
  rw [List.mem_filter, List.mem_range]
  exact ⟨fun h => h.2, fun h => ⟨acF_lt h, h⟩⟩
end
end Go.Proofs.Ytdkdfmflghbhiaa
