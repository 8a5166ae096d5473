/- Plain functions and lemmas on words that are put together: the result, its error, and where the words lie in it. Nothing here speaks of the program. -/
import Derived.Test.YtpmdfpfbnmoinaaDoorMath
import Derived.Lib.Join
namespace Go.Proofs.YtpmdfpfbnmoinaaDoor
set_option linter.unusedVariables false

def allLtr (l : List UInt8) : Bool := l.all fun c => ltr (c.toNat : Int)
def err1 (l : List UInt8) : Int := if l = [] then 7 else if allLtr l then 0 else 2
def joinF (f : Nat → List UInt8) : Nat → List UInt8
  | 0 => []
  | k + 1 => joinF f k ++ (if 0 < k then [32] else []) ++ f k
def jst (f : Nat → List UInt8) : Nat → Int
  | 0 => 0
  | k + 1 => if jst f k ≠ 0 then jst f k else err1 (f k)
def sums (f : Nat → List UInt8) : Nat → Nat
  | 0 => 0
  | k + 1 => sums f k + 1 + (f k).length
def joinVal (f : Nat → List UInt8) (n : Nat) : List UInt8 × Int :=
  if jst f n ≠ 0 then ([], jst f n) else if 120 < (joinF f n).length then ([], 3) else (joinF f n, 0)

theorem err1_val (l : List UInt8) : err1 l = 0 ∨ err1 l = 2 ∨ err1 l = 7 := by unfold err1; split <;> (try split) <;> simp
theorem err1_empty {l : List UInt8} (h : l = []) : err1 l = 7 := by unfold err1; rw [if_pos h]
theorem err1_bad {l : List UInt8} (h : l ≠ []) (h2 : allLtr l = false) : err1 l = 2 := by unfold err1; rw [if_neg h, h2]; rfl
theorem err1_ok {l : List UInt8} (h : l ≠ []) (h2 : allLtr l = true) : err1 l = 0 := by unfold err1; rw [if_neg h, h2]; rfl
theorem jst_step {f : Nat → List UInt8} {k : Nat} (h : jst f k = 0) : jst f (k + 1) = err1 (f k) := by rw [jst, if_neg (by simp [h])]
theorem jst_stay {f : Nat → List UInt8} {k n : Nat} (hk : k ≤ n) (h : jst f k ≠ 0) : jst f n = jst f k := by
  induction n with
  | zero => rw [show k = 0 from by omega]
  | succ n ih =>
    by_cases e : k = n + 1
    · rw [e]
    · have := ih (by omega)
      rw [jst, if_pos (by rw [this]; exact h), this]
theorem jst_stop {f : Nat → List UInt8} {k n : Nat} {x : Int} (hk : k < n) (h : jst f k = 0) (hx : err1 (f k) = x) (h0 : x ≠ 0) : jst f n = x := by
  have h1 : jst f (k + 1) = x := by rw [jst_step h, hx]
  rw [jst_stay (k := k + 1) (by omega) (by rw [h1]; exact h0), h1]
theorem jst_ok {f : Nat → List UInt8} {n : Nat} (h : jst f n = 0) : ∀ k, k < n → err1 (f k) = 0 := by
  induction n with
  | zero => intro k hk; omega
  | succ n ih =>
    have h0 : jst f n = 0 := by
      by_cases e : jst f n = 0
      · exact e
      · rw [jst, if_pos e] at h; exact h
    intro k hk
    by_cases e : k = n
    · subst e; rw [jst_step h0] at h; exact h
    · exact ih h0 k (by omega)
theorem err1_zero {l : List UInt8} (h : err1 l = 0) : l ≠ [] ∧ allLtr l = true := by
  unfold err1 at h
  split at h
  · cases h
  · rename_i h1
    split at h
    · rename_i h2; exact ⟨h1, h2⟩
    · cases h
theorem sums_mono (f : Nat → List UInt8) {k n : Nat} (h : k ≤ n) : sums f k ≤ sums f n := by
  induction n with
  | zero => rw [show k = 0 from by omega]; exact Nat.le_refl _
  | succ n ih =>
    by_cases e : k = n + 1
    · rw [e]; exact Nat.le_refl _
    · have := ih (by omega); rw [sums]; omega
theorem joinF_len (f : Nat → List UInt8) (n : Nat) : (joinF f n).length ≤ sums f n := by
  induction n with
  | zero => simp [joinF, sums]
  | succ n ih =>
    rw [joinF, sums]
    by_cases h : 0 < n
    · rw [if_pos h]; simp; omega
    · rw [if_neg h]; simp; omega
theorem joinF_succ_len (f : Nat → List UInt8) (k : Nat) : (joinF f (k + 1)).length = (joinF f k).length + (if 0 < k then 1 else 0) + (f k).length := by
  rw [joinF]
  by_cases h : 0 < k
  · rw [if_pos h, if_pos h]; simp; omega
  · rw [if_neg h, if_neg h]; simp
theorem joinF_mono (f : Nat → List UInt8) {k n : Nat} (h : k ≤ n) : (joinF f k).length ≤ (joinF f n).length := by
  induction n with
  | zero => rw [show k = 0 from by omega]; exact Nat.le_refl _
  | succ n ih =>
    by_cases e : k = n + 1
    · rw [e]; exact Nat.le_refl _
    · have := ih (by omega); rw [joinF_succ_len]; omega
theorem lib_join (f : Nat → List UInt8) (n : Nat) : Lib.join ((List.range n).map f) [32] = joinF f n := by
  have h : ∀ m, joinF f (m + 1) = f 0 ++ ((List.range m).map (fun i => 32 :: f (i + 1))).flatten := by
    intro m
    induction m with
    | zero => simp [joinF]
    | succ m ih => rw [joinF, if_pos (by omega), ih, List.range_succ]; simp
  cases n with
  | zero => rfl
  | succ m =>
    rw [h m, List.range_succ_eq_map, List.map_cons, Lib.join_cons]
    unfold Lib.joinTail
    simp [List.map_map, Function.comp_def]

/-! ### Where the words lie -/
def startAt (f : Nat → List UInt8) (k : Nat) : Nat := (joinF f k).length + (if 0 < k then 1 else 0)
def spansJ (f : Nat → List UInt8) (k : Nat) : List (Nat × Nat) := (List.range k).map fun i => (startAt f i, (joinF f (i + 1)).length)
theorem startAt_end (f : Nat → List UInt8) (k : Nat) : startAt f k + (f k).length = (joinF f (k + 1)).length := by unfold startAt; rw [joinF_succ_len]
theorem joinF_pre (f : Nat → List UInt8) {k n : Nat} (h : k ≤ n) : ∃ r, joinF f n = joinF f k ++ r ∧ (k < n → 0 < k → ∃ r', r = 32 :: r') := by
  induction n with
  | zero => rw [show k = 0 from by omega]; exact ⟨[], by simp, fun h => by omega⟩
  | succ n ih =>
    by_cases e : k = n + 1
    · subst e; exact ⟨[], by simp, fun h => by omega⟩
    · obtain ⟨r, hr, hr2⟩ := ih (by omega)
      refine ⟨r ++ ((if 0 < n then [32] else []) ++ f n), by rw [joinF, hr]; simp, fun _ hk => ?_⟩
      by_cases e2 : k = n
      · subst e2
        have : r = [] := by simpa using hr
        subst this
        rw [if_pos hk]; exact ⟨f k, rfl⟩
      · obtain ⟨r', hr'⟩ := hr2 (by omega) hk
        rw [hr']; exact ⟨_, rfl⟩
theorem at_word (f : Nat → List UInt8) {k n i : Nat} (h : k < n) (hi : i < (f k).length) : (joinF f n)[startAt f k + i]? = (f k)[i]? := by
  obtain ⟨r, hr, _⟩ := joinF_pre f (show k + 1 ≤ n from h)
  rw [hr, List.getElem?_append_left (by rw [← startAt_end]; omega), joinF]
  unfold startAt
  by_cases h0 : 0 < k
  · rw [if_pos h0, if_pos h0, List.getElem?_append_right (by simp)]
    congr 1
    simp
  · rw [if_neg h0, if_neg h0, List.getElem?_append_right (by simp)]
    congr 1
    simp
theorem at_gap (f : Nat → List UInt8) {k n : Nat} (h0 : 0 < k) (h : k ≤ n) : fAt (joinF f n) (joinF f k).length = false := by
  by_cases e : k = n
  · subst e; unfold fAt; rw [List.getElem?_eq_none (Nat.le_refl _)]
  · obtain ⟨r, hr, h2⟩ := joinF_pre f h
    obtain ⟨r', hr'⟩ := h2 (by omega) h0
    unfold fAt
    rw [hr, hr', List.getElem?_append_right (Nat.le_refl _), Nat.sub_self]
    rfl
theorem at_letter (f : Nat → List UInt8) {k n i : Nat} (h : k < n) (hi : i < (f k).length) (ha : allLtr (f k) = true) : fAt (joinF f n) (startAt f k + i) = true := by
  unfold fAt
  rw [at_word f h hi, List.getElem?_eq_getElem hi]
  unfold allLtr at ha
  exact List.all_eq_true.1 ha _ (List.getElem_mem hi)
theorem wst_run (F : Nat → Bool) {a f0 : Nat} {L : List (Nat × Nat)} (h : wst F a = (L, f0)) (m : Nat) (hm : ∀ i, i < m → F (a + i) = true) : wst F (a + m) = (L, f0) := by
  induction m with
  | zero => exact h
  | succ m ih =>
    have h1 := ih (fun i hi => hm i (by omega))
    exact wst_yes (k := a + m) h1 (hm m (by omega))
theorem spansJ_succ (f : Nat → List UInt8) (k : Nat) : spansJ f (k + 1) = spansJ f k ++ [(startAt f k, (joinF f (k + 1)).length)] := by simp [spansJ, List.range_succ]
theorem wst_words (f : Nat → List UInt8) (n : Nat) (hok : ∀ k, k < n → err1 (f k) = 0) (k : Nat) (hk : k ≤ n) : wst (fAt (joinF f n)) (startAt f k) = (spansJ f k, startAt f k) := by
  induction k with
  | zero => rfl
  | succ k ih =>
    have h1 := ih (by omega)
    obtain ⟨hne, ha⟩ := err1_zero (hok k (by omega))
    have h2 := wst_run _ h1 (f k).length (fun i hi => at_letter f (by omega) hi ha)
    rw [startAt_end] at h2
    have hlen : 0 < (f k).length := List.length_pos_iff.2 hne
    have h3 := wst_cut h2 (at_gap f (by omega) hk) (by rw [← startAt_end]; omega)
    rw [← spansJ_succ] at h3
    unfold startAt
    rw [if_pos (by omega)]
    exact h3
theorem joinF_okL (f : Nat → List UInt8) (n : Nat) (hok : ∀ k, k < n → err1 (f k) = 0) : okL (joinF f n) = true := by
  induction n with
  | zero => rfl
  | succ n ih =>
    have h1 := ih (fun k hk => hok k (by omega))
    obtain ⟨_, ha⟩ := err1_zero (hok n (by omega))
    have h2 : okL (f n) = true := by
      unfold okL; unfold allLtr at ha
      rw [List.all_eq_true] at ha ⊢
      exact fun c hc => ltr_inl (ha c hc)
    unfold okL at h1 h2 ⊢
    rw [joinF, List.all_append, List.all_append, h1, h2]
    by_cases e : 0 < n
    · rw [if_pos e]; rfl
    · rw [if_neg e]; rfl
theorem spans_joined (f : Nat → List UInt8) (n : Nat) (hok : ∀ k, k < n → err1 (f k) = 0) (hlen : (joinF f n).length ≤ 120) : vErr (joinF f n) = 0 ∧ spansOf (joinF f n) = spansJ f n := by
  have hv : vErr (joinF f n) = 0 := by unfold vErr; rw [if_neg (by omega), joinF_okL f n hok]; rfl
  refine ⟨hv, ?_⟩
  rw [spansOf_ok hv]
  cases n with
  | zero => rfl
  | succ m =>
    have := wst_words f (m + 1) hok (m + 1) (Nat.le_refl _)
    rw [show startAt f (m + 1) = (joinF f (m + 1)).length + 1 from by unfold startAt; rw [if_pos (by omega)]] at this
    rw [this]
theorem spansJ_len (f : Nat → List UInt8) (n : Nat) : (spansJ f n).length = n := by simp [spansJ]
theorem spansJ_at (f : Nat → List UInt8) {n k : Nat} (h : k < n) : sp (spansJ f n) k = (startAt f k, (joinF f (k + 1)).length) := by
  unfold sp spansJ; simp [h]
theorem cut_word (f : Nat → List UInt8) {n k : Nat} (h : k < n) : List.take ((joinF f (k + 1)).length - startAt f k) (List.drop (startAt f k) (joinF f n)) = f k := by
  rw [show (joinF f (k + 1)).length - startAt f k = (f k).length from by rw [← startAt_end]; omega]
  apply List.ext_getElem?
  intro i
  by_cases hi : i < (f k).length
  · rw [List.getElem?_take_of_lt hi, List.getElem?_drop, at_word f h hi]
  · rw [List.getElem?_eq_none (by rw [List.length_take]; omega), List.getElem?_eq_none (by omega)]
end Go.Proofs.YtpmdfpfbnmoinaaDoor
