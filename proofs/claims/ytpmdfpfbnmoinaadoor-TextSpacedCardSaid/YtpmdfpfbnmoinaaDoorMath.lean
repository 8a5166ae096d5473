/- Plain functions and lemmas on lists of bytes: what a line, its letters and its words are. Nothing here speaks of the program. -/
import Derived.WalkKit
import Derived.Shelf.Small.Strs
import Derived.Deep.AppendLies
namespace Go.Proofs.YtpmdfpfbnmoinaaDoor
set_option linter.unusedVariables false

def punL : List Int := [32, 46, 44, 59, 58, 33, 63, 34, 45, 91, 93, 60, 62, 123, 125]
def punB : List UInt8 := [32, 46, 44, 59, 58, 33, 63, 34, 45, 91, 93, 60, 62, 123, 125]
def ltr (n : Int) : Bool := decide (32 ≤ n) && decide (n ≤ 126) && !punL.contains n
def inl (n : Int) : Bool := decide (32 ≤ n) && decide (n ≤ 126)
def okL (l : List UInt8) : Bool := l.all fun c => inl (c.toNat : Int)
def vErr (l : List UInt8) : Int := if 120 < l.length then 3 else if okL l then 0 else 2

theorem ret_int {a b : Int} {k : IntKind} (h : b = a) : Ending.returned (.int k a) = Ending.returned (.int k b) := by rw [h]
theorem ret_bool {a b : Bool} (h : a = b) : Ending.returned (.bool a) = Ending.returned (.bool b) := by rw [h]
theorem okL_take_succ (l : List UInt8) (k : Nat) (h : k < l.length) : okL (l.take (k + 1)) = (okL (l.take k) && inl (l[k].toNat : Int)) := by
  unfold okL
  rw [List.take_succ_eq_append_getElem h, List.all_append]
  simp
theorem okL_false {l : List UInt8} {k : Nat} (h : k < l.length) (hf : inl (l[k].toNat : Int) = false) : okL l = false := by
  unfold okL
  rw [List.all_eq_false]
  exact ⟨l[k], List.getElem_mem h, by simp [hf]⟩
theorem getB (s : ByteArray) (k : Nat) (h : k < s.size) : s[k] = s.data.toList[k]'(by simpa using h) := rfl
theorem sizeB (s : ByteArray) : s.data.toList.length = s.size := rfl
theorem vErr_big {s : ByteArray} (h : 120 < s.size) : vErr s.data.toList = 3 := by
  unfold vErr; rw [if_pos (by rw [sizeB]; exact h)]
theorem vErr_bad {s : ByteArray} (h : s.size ≤ 120) {k : Nat} (hk : k < s.size) (hf : inl (s[k].toNat : Int) = false) : vErr s.data.toList = 2 := by
  unfold vErr; rw [if_neg (by rw [sizeB]; omega), okL_false (l := s.data.toList) (k := k) (by rw [sizeB]; exact hk) hf]; rfl
theorem vErr_ok {s : ByteArray} (h : s.size ≤ 120) (hf : okL s.data.toList = true) : vErr s.data.toList = 0 := by
  unfold vErr; rw [if_neg (by rw [sizeB]; omega), hf]; rfl
theorem okL_step {s : ByteArray} {k : Nat} (hk : k < s.size) (h : okL (s.data.toList.take k) = true) (hf : inl (s[k].toNat : Int) = true) : okL (s.data.toList.take (k + 1)) = true := by
  rw [okL_take_succ _ _ (by rw [sizeB]; exact hk), h]; exact hf
theorem okL_all {s : ByteArray} {k : Nat} (hk : s.size ≤ k) (h : okL (s.data.toList.take k) = true) : okL s.data.toList = true := by
  rw [List.take_of_length_le (by rw [sizeB]; exact hk)] at h; exact h

theorem idx_all : ∀ m : Fin 256, decide (Lib.indexByte punB m.val.toUInt8 < 0) = !punL.contains (m.val : Int) := by decide +kernel
theorem idx_pun (n : Int) (h0 : 0 ≤ n) (h1 : n ≤ 255) : decide (Lib.indexByte punB n.toNat.toUInt8 < 0) = !punL.contains n := by
  have h := idx_all ⟨n.toNat, by omega⟩
  simp only [Int.toNat_of_nonneg h0] at h
  exact h
theorem ltr_inl {n : Int} (h : ltr n = true) : inl n = true := by
  unfold ltr at h; unfold inl; simp at h ⊢; exact h.1
theorem ltr_of {n : Int} (h0 : 0 ≤ n) (h1 : n ≤ 255) (h : inl n = true) : decide (Lib.indexByte punB n.toNat.toUInt8 < 0) = ltr n := by
  rw [idx_pun n h0 h1]; unfold ltr; unfold inl at h; simp at h ⊢; simp [h.1, h.2]
theorem ltr_not {n : Int} (h : inl n = false) : ltr n = false := by
  cases e : ltr n with
  | false => rfl
  | true => rw [ltr_inl e] at h; cases h

/-! ### The words of a line -/
def fAt (l : List UInt8) (i : Nat) : Bool := match l[i]? with
  | some c => ltr (c.toNat : Int)
  | none => false
def wst (F : Nat → Bool) : Nat → List (Nat × Nat) × Nat
  | 0 => ([], 0)
  | k + 1 => if F k then wst F k else (if (wst F k).2 < k then (wst F k).1 ++ [((wst F k).2, k)] else (wst F k).1, k + 1)
def spansOf (l : List UInt8) : List (Nat × Nat) := if vErr l = 0 then (wst (fAt l) (l.length + 1)).1 else []
def pairCells (L : List (Nat × Nat)) : List Value := L.flatMap fun p => [.int .i64 (p.1 : Int), .int .i64 (p.2 : Int)]

theorem pairCells_snoc (L : List (Nat × Nat)) (a b : Nat) : pairCells (L ++ [(a, b)]) = pairCells L ++ [.int .i64 (a : Int), .int .i64 (b : Int)] := by
  simp [pairCells]
theorem pairCells_length (L : List (Nat × Nat)) : (pairCells L).length = L.length * 2 := by
  induction L with
  | nil => rfl
  | cons p r ih => simp [pairCells] at ih ⊢; omega
theorem pairCells_at (L : List (Nat × Nat)) (i : Nat) (h : i < L.length) : (pairCells L)[2 * i]? = some (.int .i64 (L[i].1 : Int)) ∧ (pairCells L)[2 * i + 1]? = some (.int .i64 (L[i].2 : Int)) := by
  induction L generalizing i with
  | nil => simp at h
  | cons p r ih =>
    cases i with
    | zero => exact ⟨rfl, rfl⟩
    | succ j =>
      have := ih j (by simpa using h)
      have e1 : 2 * (j + 1) = 2 * j + 1 + 1 := by omega
      rw [e1]
      simpa [pairCells] using this
theorem wst_le (F : Nat → Bool) (k : Nat) : (wst F k).2 ≤ k ∧ (wst F k).1.length ≤ k := by
  induction k with
  | zero => exact ⟨Nat.le_refl _, Nat.le_refl _⟩
  | succ k ih =>
    unfold wst
    split
    · exact ⟨by omega, by omega⟩
    · split <;> simp <;> omega
theorem wst_yes {F : Nat → Bool} {k f : Nat} {L : List (Nat × Nat)} (h : wst F k = (L, f)) (hf : F k = true) : wst F (k + 1) = (L, f) := by
  rw [wst, if_pos hf, h]
theorem wst_cut {F : Nat → Bool} {k f : Nat} {L : List (Nat × Nat)} (h : wst F k = (L, f)) (hf : F k = false) (hlt : f < k) : wst F (k + 1) = (L ++ [(f, k)], k + 1) := by
  rw [wst, if_neg (by simp [hf]), h]; simp [hlt]
theorem wst_skip {F : Nat → Bool} {k f : Nat} {L : List (Nat × Nat)} (h : wst F k = (L, f)) (hf : F k = false) (hlt : ¬ f < k) : wst F (k + 1) = (L, k + 1) := by
  rw [wst, if_neg (by simp [hf]), h]; simp [hlt]
theorem fAt_lt {s : ByteArray} {k : Nat} (h : k < s.size) : fAt s.data.toList k = ltr (s[k].toNat : Int) := by
  unfold fAt; rw [List.getElem?_eq_getElem (by rw [sizeB]; exact h)]; rfl
theorem fAt_ge {s : ByteArray} {k : Nat} (h : s.size ≤ k) : fAt s.data.toList k = false := by
  unfold fAt; rw [List.getElem?_eq_none (by rw [sizeB]; exact h)]
theorem spansOf_err {l : List UInt8} (h : vErr l ≠ 0) : spansOf l = [] := by unfold spansOf; rw [if_neg h]
theorem spansOf_ok {l : List UInt8} (h : vErr l = 0) : spansOf l = (wst (fAt l) (l.length + 1)).1 := by unfold spansOf; rw [if_pos h]
theorem vErr_small {l : List UInt8} (h : vErr l = 0) : l.length ≤ 120 := by
  unfold vErr at h; split at h
  · cases h
  · omega
theorem vErr_val (l : List UInt8) : vErr l = 0 ∨ vErr l = 2 ∨ vErr l = 3 := by
  unfold vErr; split
  · simp
  · split <;> simp

def sp (L : List (Nat × Nat)) (i : Nat) : Nat × Nat := L[i]?.getD (0, 0)
theorem sp_lt {L : List (Nat × Nat)} {i : Nat} (h : i < L.length) : sp L i = L[i] := by simp [sp, h]
theorem take_step {L M : List (Nat × Nat)} {k : Nat} (hl : k < L.length) (hm : k < M.length) (h : L.take k = M.take k) (e : sp L k = sp M k) : L.take (k + 1) = M.take (k + 1) := by
  rw [List.take_succ_eq_append_getElem hl, List.take_succ_eq_append_getElem hm, h, ← sp_lt hl, ← sp_lt hm, e]
/-- What the reference has behind k bytes: the words that have ended, and the one that has not. -/
def rst (L : List (Nat × Nat)) (f k : Nat) : List (Nat × Nat) := if f < k then L ++ [(f, k)] else L
theorem rst_false {F : Nat → Bool} {k f : Nat} {L : List (Nat × Nat)} (h : wst F k = (L, f)) (hf : F k = false) : ∃ L' f', wst F (k + 1) = (L', f') ∧ rst L' f' (k + 1) = rst L f k := by
  by_cases hlt : f < k
  · exact ⟨_, _, wst_cut h hf hlt, by simp [rst, hlt]⟩
  · exact ⟨_, _, wst_skip h hf hlt, by simp [rst, hlt]⟩
theorem wst_prev {F : Nat → Bool} {k f : Nat} {L : List (Nat × Nat)} (h : wst F k = (L, f)) : f < k ↔ 0 < k ∧ F (k - 1) = true := by
  cases k with
  | zero => simp
  | succ j =>
    simp only [Nat.add_sub_cancel]
    cases hf : F j with
    | true =>
      have := (wst_le F j).1
      rw [wst, if_pos hf] at h
      rw [h] at this
      simp only at this
      simp; omega
    | false =>
      rw [wst, if_neg (by simp [hf])] at h
      have : f = j + 1 := by injection h with _ h2; exact h2.symm
      simp [this]
theorem rst_end {F : Nat → Bool} {k f : Nat} {L : List (Nat × Nat)} (h : wst F k = (L, f)) (hf : F k = false) : (wst F (k + 1)).1 = rst L f k := by
  by_cases hlt : f < k
  · rw [wst_cut h hf hlt]; simp [rst, hlt]
  · rw [wst_skip h hf hlt]; simp [rst, hlt]
theorem rst_len {L : List (Nat × Nat)} {f k : Nat} : (rst L f k).length ≤ L.length + 1 := by unfold rst; split <;> simp
theorem pairCells_set (L : List (Nat × Nat)) (a b c : Nat) : (pairCells (L ++ [(a, b)])).set (L.length * 2 + 1) (.int .i64 (c : Int)) = pairCells (L ++ [(a, c)]) := by
  rw [pairCells_snoc, pairCells_snoc, List.set_append, if_neg (by rw [pairCells_length]; omega), pairCells_length, show L.length * 2 + 1 - L.length * 2 = 1 from by omega]
  rfl
theorem pun_at : ∀ (k : Nat) (_ : k < 15) (h : k < (⟨#[32, 46, 44, 59, 58, 33, 63, 34, 45, 91, 93, 60, 62, 123, 125]⟩ : ByteArray).size),
    punL[k]? = some (((⟨#[32, 46, 44, 59, 58, 33, 63, 34, 45, 91, 93, 60, 62, 123, 125]⟩ : ByteArray)[k]'h).toNat : Int) := by
  intro k hk h
  match k, hk with
  | 0, _ => rfl
  | 1, _ => rfl
  | 2, _ => rfl
  | 3, _ => rfl
  | 4, _ => rfl
  | 5, _ => rfl
  | 6, _ => rfl
  | 7, _ => rfl
  | 8, _ => rfl
  | 9, _ => rfl
  | 10, _ => rfl
  | 11, _ => rfl
  | 12, _ => rfl
  | 13, _ => rfl
  | 14, _ => rfl
theorem ltr_hit {n : Int} {k : Nat} (h : punL[k]? = some n) : ltr n = false := by
  have : punL.contains n = true := by simpa using List.mem_of_getElem? h
  unfold ltr; rw [this]; simp
theorem ltr_miss {n : Int} (h1 : 32 ≤ n) (h2 : n ≤ 126) (h : ∀ j, j < 15 → punL[j]? ≠ some n) : ltr n = true := by
  have : punL.contains n = false := by
    cases e : punL.contains n with
    | false => rfl
    | true =>
      obtain ⟨j, hj⟩ := List.getElem?_of_mem (show n ∈ punL by simpa using e)
      have hlt : j < 15 := (List.getElem?_eq_some_iff.1 hj).1
      exact absurd hj (h j hlt)
  unfold ltr; rw [this]; simp [h1, h2]
/-! ### The world -/
theorem new_two (w : World) (t : TypeId) (x y : Value) : ∀ (j : Nat) (u : Value), [x, y][j]? = some u → (w.alloc (.cells #[x, y] t)).cell? ((⟨w.heap.size, 0, none⟩ : Addr).add j) = some u := by
  intro j u hj
  match j, hj with
  | 0, hj => simp at hj; subst hj; simp [Addr.add]
  | 1, hj => simp at hj; subst hj; simp [Addr.add]
theorem one_two (k k' : IntKind) (a b : Int) : ∀ u ∈ [Value.int k a, Value.int k' b], u.oneCell' = true := by
  intro u hu; simp at hu; rcases hu with rfl | rfl <;> rfl
end Go.Proofs.YtpmdfpfbnmoinaaDoor
