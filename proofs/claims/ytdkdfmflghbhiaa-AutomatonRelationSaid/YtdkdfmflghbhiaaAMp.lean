/- Plain mathematics of automata: how many words of a length are accepted. Nothing here speaks of the program. -/
import Derived.Test.YtdkdfmflghbhiaaAMo
namespace Go.Proofs.Ytdkdfmflghbhiaa
set_option linter.unusedVariables false
def cap1 : Nat := 4611686018427387905
/-- Numbers above the limit count as one above it. -/
def satN (x : Nat) : Nat := min x cap1
theorem satN_le (x : Nat) : satN x ≤ cap1 := Nat.min_le_right _ _
theorem satN_add (a b : Nat) : satN (satN a + b) = satN (a + b) := by unfold satN; omega
theorem satN_add2 (a b : Nat) : satN (a + satN b) = satN (a + b) := by unfold satN; omega
theorem satN_big (x : Nat) : 4611686018427387904 < satN x ↔ 4611686018427387904 < x := by unfold satN cap1; omega
theorem satN_small {x : Nat} (h : ¬ 4611686018427387904 < x) : satN x = x := by unfold satN cap1; omega
/-- The sum over a row. -/
def rowS (f : Int → Nat) (row : List Int) : Nat := (row.map f).sum
theorem rowS_snoc (f : Int → Nat) (row : List Int) (t : Int) : rowS f (row ++ [t]) = rowS f row + f t := by simp [rowS]
theorem rowS_sat (f : Int → Nat) : ∀ row : List Int, satN (rowS (fun t => satN (f t)) row) = satN (rowS f row)
  | [] => rfl
  | t :: row => by
    have ih := rowS_sat f row
    unfold rowS at ih ⊢
    rw [List.map_cons, List.sum_cons, List.map_cons, List.sum_cons, satN_add, ← satN_add2, ih, satN_add2]
namespace Au
/-- How many words of a length lead from a state to one that accepts. -/
def cw (M : Au) : Nat → Int → Nat
  | 0, q => if M.acc q = true then 1 else 0
  | n + 1, q => if q < 0 then 0 else rowS (M.cw n) (M.nx.getD q.toNat [])
theorem cw_neg (M : Au) {q : Int} (h : q < 0) : ∀ n, M.cw n q = 0
  | 0 => by unfold cw; rw [M.acc_neg h]; rfl
  | n + 1 => by unfold cw; rw [if_pos h]
/-- What Count answers. -/
def cntR (M : Au) (n : Int) : Int × Int :=
  if M.vE = 0 then (if n < 0 ∨ 1000 < n then (0, 6) else if 4611686018427387904 < M.cw n.toNat M.st then (0, 3) else ((M.cw n.toNat M.st : Nat), 0)) else (0, 1)
end Au
/-- The words of a length, over k letters. -/
def wordsN (k : Nat) : Nat → List (List Nat)
  | 0 => [[]]
  | n + 1 => (List.range k).flatMap fun c => (wordsN k n).map (c :: ·)
theorem wordsN_mem {k : Nat} : ∀ {n : Nat} {u : List Nat}, u ∈ wordsN k n ↔ u.length = n ∧ Let k u
  | 0, u => by
    simp only [wordsN, List.mem_singleton]
    constructor
    · rintro rfl; exact ⟨rfl, let_nil k⟩
    · rintro ⟨h, _⟩; exact List.eq_nil_of_length_eq_zero h
  | n + 1, u => by
    simp only [wordsN, List.mem_flatMap, List.mem_range, List.mem_map]
    constructor
    · rintro ⟨c, hc, v, hv, rfl⟩
      obtain ⟨h1, h2⟩ := wordsN_mem.1 hv
      exact ⟨by simp [h1], let_cons hc h2⟩
    · rintro ⟨h1, h2⟩
      cases u with
      | nil => simp at h1
      | cons c v => exact ⟨c, h2.cons.1, v, wordsN_mem.2 ⟨by simpa using h1, h2.cons.2⟩, rfl⟩
theorem sum_range_row {k : Nat} {row : List Int} (h : row.length = k) (f : Int → Nat) : ((List.range k).map fun c => f (row.getD c (-1))).sum = rowS f row := by
  subst h
  unfold rowS
  congr 1
  apply List.ext_getElem?
  intro i
  rw [List.getElem?_map, List.getElem?_map]
  by_cases hi : i < row.length
  · rw [List.getElem?_range hi, List.getElem?_eq_getElem hi]
    simp [List.getD_eq_getElem?_getD, hi]
  · rw [List.getElem?_eq_none (by simp; omega), List.getElem?_eq_none (by omega)]; rfl
/-- The number of accepted words is what is counted. -/
theorem Au.Right.cw_words {M : Au} {k : Nat} (h : M.Right k) : ∀ (n : Nat) (q : Int), -1 ≤ q → q < M.n → M.cw n q = (wordsN k n).countP fun u => M.acc (M.run q u)
  | 0, q, _, _ => by
    unfold Au.cw
    simp only [wordsN, List.countP_cons, List.countP_nil]
    show _ = 0 + if M.acc q = true then 1 else 0
    omega
  | n + 1, q, h1, h2 => by
    by_cases hq : q < 0
    · rw [M.cw_neg hq]
      symm
      rw [List.countP_eq_zero]
      intro u hu
      have : q = -1 := by omega
      rw [this, M.run_neg, M.acc_neg (by decide)]
      simp
    · have hrow : (M.nx.getD q.toNat []).length = k := by
        have hl : q.toNat < M.nx.length := by have : q < (M.nx.length : Int) := h2; omega
        rw [List.getD_eq_getElem?_getD, List.getElem?_eq_getElem hl]
        exact (h.rows _ _ (List.getElem?_eq_getElem hl)).1
      unfold Au.cw
      rw [if_neg hq, ← sum_range_row hrow]
      simp only [wordsN, List.countP_flatMap]
      congr 1
      apply List.map_congr_left
      intro c hc
      have hc := List.mem_range.1 hc
      rw [show (M.nx.getD q.toNat []).getD c (-1) = M.go q c by unfold Au.go; rw [if_neg hq]]
      rw [h.cw_words n _ h.go_in.1 h.go_in.2, Function.comp, List.countP_map]
      rfl
/-- Two languages that part a third one. -/
theorem countP_split {α : Type} (f g h : α → Bool) : ∀ l : List α, (∀ x ∈ l, f x = (g x || h x) ∧ (g x && h x) = false) → l.countP f = l.countP g + l.countP h
  | [], _ => rfl
  | x :: l, hl => by
    have ih := countP_split f g h l fun y hy => hl y (List.mem_cons_of_mem _ hy)
    obtain ⟨h1, h2⟩ := hl x (List.mem_cons_self ..)
    rw [List.countP_cons, List.countP_cons, List.countP_cons, ih, h1]
    cases hg : g x <;> cases hh : h x <;> simp [hg, hh] at h2 ⊢ <;> omega
end Go.Proofs.Ytdkdfmflghbhiaa
