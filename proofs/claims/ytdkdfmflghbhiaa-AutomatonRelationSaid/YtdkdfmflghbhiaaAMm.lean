/- Plain mathematics of automata: which ones are valid, decided. Nothing here speaks of the program. -/
import Derived.Test.YtdkdfmflghbhiaaAMl
namespace Go.Proofs.Ytdkdfmflghbhiaa
set_option linter.unusedVariables false
namespace Au
/-- A state, or none. -/
def toB (M : Au) (t : Int) : Bool := decide (-1 ≤ t ∧ t < (M.n : Int))
def rowB (M : Au) (row : List Int) : Bool := decide ((row.length : Int) = M.lt) && row.all M.toB
def headB (M : Au) : Bool := decide (1 ≤ M.lt ∧ M.lt ≤ 8 ∧ M.n ≤ 400 ∧ M.ac.length = M.n ∧ ((M.n = 0 ∧ M.st = -1) ∨ (0 < M.n ∧ 0 ≤ M.st ∧ M.st < (M.n : Int))))
def okB (M : Au) : Bool := M.headB && M.nx.all M.rowB
/-- The error of an automaton. -/
def vE (M : Au) : Int := if M.okB = true then 0 else 1
/-- Valid. -/
structure Vld (M : Au) (k : Nat) : Prop where
  right : M.Right k
  k8 : k ≤ 8
  few : M.n ≤ 400
theorem okB_vld {M : Au} (h : M.okB = true) : M.Vld M.lt.toNat := by
  unfold okB at h
  rw [Bool.and_eq_true] at h
  obtain ⟨h1, h2⟩ := h
  obtain ⟨a1, a2, a3, a4, a5⟩ := of_decide_eq_true h1
  rw [List.all_eq_true] at h2
  refine ⟨⟨by omega, by omega, fun i row hr => ?_, a4, fun h0 => by omega, fun h0 => by omega⟩, by omega, a3⟩
  have := h2 row (List.mem_of_getElem? hr)
  unfold rowB at this
  rw [Bool.and_eq_true, List.all_eq_true] at this
  obtain ⟨r1, r2⟩ := this
  have r1 := of_decide_eq_true r1
  exact ⟨by omega, fun x hx => of_decide_eq_true (r2 x hx)⟩
theorem Vld.okB {M : Au} {k : Nat} (h : M.Vld k) : M.okB = true := by
  unfold Au.okB
  rw [Bool.and_eq_true]
  refine ⟨decide_eq_true ?_, ?_⟩
  · have := h.right.lt
    have h0 := h.right.pos
    have := h.k8
    have := h.few
    refine ⟨by omega, by omega, by omega, h.right.acl, ?_⟩
    rcases Nat.eq_zero_or_pos M.n with hn | hn
    · exact Or.inl ⟨hn, h.right.st0 hn⟩
    · exact Or.inr ⟨hn, h.right.st1 hn⟩
  · rw [List.all_eq_true]
    intro row hr
    obtain ⟨i, hi⟩ := List.mem_iff_getElem?.1 hr
    obtain ⟨r1, r2⟩ := h.right.rows i row hi
    unfold rowB
    rw [Bool.and_eq_true, List.all_eq_true]
    exact ⟨decide_eq_true (by rw [r1, h.right.lt]), fun x hx => decide_eq_true (r2 x hx)⟩
theorem Vld.lt_nat {M : Au} {k : Nat} (h : M.Vld k) : M.lt.toNat = k := by have := h.right.lt; omega
theorem vE_ok {M : Au} (h : M.vE = 0) : M.Vld M.lt.toNat := by
  unfold vE at h
  split at h
  · exact okB_vld (by assumption)
  · cases h
theorem vE_cases (M : Au) : M.vE = 0 ∨ M.vE = 1 := by unfold vE; split <;> simp
theorem Vld.vE {M : Au} {k : Nat} (h : M.Vld k) : M.vE = 0 := if_pos h.okB
theorem vE_head {M : Au} (h : M.headB = false) : M.vE = 1 := by
  unfold vE okB; rw [h]; simp
theorem vE_row {M : Au} {i : Nat} {row : List Int} (h : M.nx[i]? = some row) (hr : M.rowB row = false) : M.vE = 1 := by
  unfold vE okB
  rw [if_neg]
  rw [Bool.and_eq_true, List.all_eq_true]
  rintro ⟨_, h2⟩
  rw [h2 row (List.mem_of_getElem? h)] at hr
  cases hr
theorem rowB_len {M : Au} {row : List Int} (h : ¬ (row.length : Int) = M.lt) : M.rowB row = false := by
  unfold rowB; rw [decide_eq_false h]; rfl
theorem rowB_to {M : Au} {row : List Int} {c : Nat} {t : Int} (h : row[c]? = some t) (ht : M.toB t = false) : M.rowB row = false := by
  unfold rowB
  rw [Bool.eq_false_iff]
  intro h2
  rw [Bool.and_eq_true, List.all_eq_true] at h2
  rw [h2.2 t (List.mem_of_getElem? h)] at ht
  cases ht
theorem rowB_all {M : Au} {row : List Int} (h : (row.length : Int) = M.lt) (ht : ∀ (c : Nat) t, row[c]? = some t → M.toB t = true) : M.rowB row = true := by
  unfold rowB
  rw [Bool.and_eq_true, List.all_eq_true]
  refine ⟨decide_eq_true h, fun t hm => ?_⟩
  obtain ⟨c, hc⟩ := List.mem_iff_getElem?.1 hm
  exact ht c t hc
theorem vE_all {M : Au} (h : M.headB = true) (hr : ∀ (i : Nat) row, M.nx[i]? = some row → M.rowB row = true) : M.vE = 0 := by
  unfold vE okB
  rw [if_pos]
  rw [Bool.and_eq_true, List.all_eq_true]
  refine ⟨h, fun row hm => ?_⟩
  obtain ⟨i, hi⟩ := List.mem_iff_getElem?.1 hm
  exact hr i row hi
/-- One number of a word. -/
def stepI (M : Au) (q t : Int) : Int := if 0 ≤ t ∧ t < M.lt then M.go q t.toNat else -1
/-- Where a list of numbers leads. -/
def foldI (M : Au) (L : List Int) : Int := L.foldl M.stepI M.st
def runL (M : Au) (L : List Int) : Int := if M.vE = 0 then M.foldI L else -1
def accI (M : Au) (L : List Int) : Bool := M.acc (M.runL L)
theorem stepI_neg (M : Au) {q : Int} (h : q < 0) (t : Int) : M.stepI q t = -1 := by
  unfold stepI; split
  · exact M.go_neg h _
  · rfl
theorem stepI_bad {M : Au} {q t : Int} (h : ¬ (0 ≤ t ∧ t < M.lt)) : M.stepI q t = -1 := if_neg h
theorem stepI_ok {M : Au} {q : Int} {c : Nat} (h : (c : Int) < M.lt) : M.stepI q c = M.go q c := by unfold stepI; rw [if_pos ⟨by omega, h⟩]; rfl
theorem fold_neg1 (M : Au) : ∀ L : List Int, L.foldl M.stepI (-1) = -1
  | [] => rfl
  | t :: L => by rw [List.foldl_cons, M.stepI_neg (by decide)]; exact M.fold_neg1 L
theorem take_succ {β : Type} {L : List β} {j : Nat} {t : β} (h : L[j]? = some t) : L.take (j + 1) = L.take j ++ [t] := by
  rw [List.take_add_one, h]; rfl
theorem foldI_snoc {M : Au} {L : List Int} {j : Nat} {t : Int} (h : L[j]? = some t) : M.foldI (L.take (j + 1)) = M.stepI (M.foldI (L.take j)) t := by
  unfold foldI; rw [take_succ h, List.foldl_append]; rfl
theorem foldI_bad {M : Au} {L : List Int} {j : Nat} {t : Int} (h : L[j]? = some t) (hb : ¬ (0 ≤ t ∧ t < M.lt)) : M.foldI L = -1 := by
  have e := List.take_append_drop (j + 1) L
  rw [← e]
  unfold foldI
  rw [List.foldl_append]
  have := foldI_snoc (M := M) h
  unfold foldI at this
  rw [this, stepI_bad hb]
  exact M.fold_neg1 _
theorem foldI_dead {M : Au} {L : List Int} {j : Nat} (h : M.foldI (L.take j) < 0) : M.foldI L = -1 ∨ L.length ≤ j := by
  by_cases hj : j < L.length
  · left
    obtain ⟨t, ht⟩ : ∃ t, L[j]? = some t := ⟨_, List.getElem?_eq_getElem hj⟩
    have e := List.take_append_drop (j + 1) L
    rw [← e]
    unfold foldI
    rw [List.foldl_append]
    have := foldI_snoc (M := M) ht
    unfold foldI at this h
    rw [this, M.stepI_neg h]
    exact M.fold_neg1 _
  · right; omega
theorem Right.stepI_in {M : Au} {k : Nat} (h : M.Right k) {q t : Int} : -1 ≤ M.stepI q t ∧ M.stepI q t < M.n := by
  unfold stepI; split
  · exact h.go_in
  · omega
theorem Right.foldI_in {M : Au} {k : Nat} (h : M.Right k) (L : List Int) : -1 ≤ M.foldI L ∧ M.foldI L < M.n := by
  unfold foldI
  have : ∀ (L : List Int) (q : Int), -1 ≤ q → q < M.n → -1 ≤ L.foldl M.stepI q ∧ L.foldl M.stepI q < M.n := by
    intro L
    induction L with
    | nil => exact fun q h1 h2 => ⟨h1, h2⟩
    | cons t L ih => exact fun q _ _ => ih _ h.stepI_in.1 h.stepI_in.2
  exact this L _ h.st_in.1 h.st_in.2
theorem runL_bad {M : Au} (h : ¬ M.vE = 0) (L : List Int) : M.runL L = -1 := if_neg h
theorem runL_ok {M : Au} (h : M.vE = 0) (L : List Int) : M.runL L = M.foldI L := if_pos h
theorem runL_in (M : Au) (L : List Int) : -1 ≤ M.runL L ∧ (M.vE = 0 → M.runL L < M.n) := by
  by_cases h : M.vE = 0
  · rw [runL_ok h]
    have := (vE_ok h).right.foldI_in L
    exact ⟨this.1, fun _ => this.2⟩
  · rw [runL_bad h]; exact ⟨by omega, fun e => absurd e h⟩
/-- A word of letters. -/
theorem foldI_nat {M : Au} {k : Nat} (h : M.lt = k) : ∀ (u : List Nat) (q : Int), Let k u → (u.map Int.ofNat).foldl M.stepI q = M.run q u
  | [], q, _ => rfl
  | c :: u, q, hu => by
    obtain ⟨hc, hu⟩ := hu.cons
    rw [List.map_cons, List.foldl_cons]
    show (u.map Int.ofNat).foldl M.stepI (M.stepI q (c : Int)) = _
    rw [stepI_ok (by omega)]
    exact foldI_nat h u _ hu
theorem Vld.accI_nat {M : Au} {k : Nat} (h : M.Vld k) {u : List Nat} (hu : Let k u) : M.accI (u.map Int.ofNat) = M.lang u := by
  unfold accI
  rw [runL_ok h.vE]
  unfold foldI lang
  rw [foldI_nat h.right.lt u _ hu]
/-- A list with a number that is no letter. -/
theorem Vld.accI_bad {M : Au} {k : Nat} (h : M.Vld k) {L : List Int} (hb : ¬ ∀ t ∈ L, 0 ≤ t ∧ t < (k : Int)) : M.accI L = false := by
  obtain ⟨t, hb⟩ := Classical.not_forall.1 hb
  obtain ⟨hm, hb⟩ := Classical.not_imp.1 hb
  obtain ⟨j, hj⟩ := List.mem_iff_getElem?.1 hm
  unfold accI
  rw [runL_ok h.vE, foldI_bad hj (by rw [h.right.lt]; exact hb)]
  exact M.acc_neg (by decide)
theorem word_nat {k : Nat} {L : List Int} (h : ∀ t ∈ L, 0 ≤ t ∧ t < (k : Int)) : ∃ u : List Nat, Let k u ∧ L = u.map Int.ofNat := by
  refine ⟨L.map Int.toNat, fun c hc => ?_, ?_⟩
  · obtain ⟨t, ht, rfl⟩ := List.mem_map.1 hc
    have := h t ht; omega
  · rw [List.map_map]
    conv => lhs; rw [← List.map_id L]
    exact List.map_congr_left fun t ht => by have := h t ht; simp; omega
/-- The error of two automata. -/
def pE (A B : Au) : Int := if A.vE = 0 ∧ B.vE = 0 ∧ A.lt = B.lt then 0 else 1
theorem pE_ok {A B : Au} (h : pE A B = 0) : ∃ k, A.Vld k ∧ B.Vld k := by
  unfold pE at h
  split at h
  · rename_i hh
    obtain ⟨h1, h2, h3⟩ := hh
    exact ⟨_, vE_ok h1, by rw [h3]; exact vE_ok h2⟩
  · cases h
theorem pE_mk {A B : Au} {k : Nat} (h : A.Vld k) (g : B.Vld k) : pE A B = 0 := if_pos ⟨h.vE, g.vE, by rw [h.right.lt, g.right.lt]⟩
theorem pE_cases (A B : Au) : pE A B = 0 ∨ pE A B = 1 := by unfold pE; split <;> simp
end Au
end Go.Proofs.Ytdkdfmflghbhiaa
