/- Plain functions and lemmas on texts and their lines. Nothing here speaks of the program. -/
import Derived.Test.YtpmdfpfbnmoinaaDoorMath
import Derived.Lib.SplitLaws
import Derived.Lib.Strings
namespace Go.Proofs.YtpmdfpfbnmoinaaDoor
set_option linter.unusedVariables false

def stepS (p : List (List UInt8) × List UInt8) (c : UInt8) : List (List UInt8) × List UInt8 := if c = 10 then (p.1 ++ [p.2], []) else (p.1, p.2 ++ [c])
def splitS (l : List UInt8) : List (List UInt8) × List UInt8 := l.foldl stepS ([], [])
def splitL (l : List UInt8) : List (List UInt8) := (splitS l).1 ++ [(splitS l).2]
def textL (ls : List (List UInt8)) : List UInt8 := (ls.map (· ++ [10])).flatten
def ferr (ls : List (List UInt8)) : Int := match ls with
  | [] => 0
  | x :: r => if vErr x ≠ 0 then vErr x else ferr r
def linesVal (l : List UInt8) : List (List UInt8) × Int :=
  if l = [] then ([], 0) else if l.getLast? ≠ some 10 then ([], 2) else
  if 400 < (splitS l).1.length then ([], 3) else if ferr (splitS l).1 ≠ 0 then ([], ferr (splitS l).1) else ((splitS l).1, 0)
def textVal (ls : List (List UInt8)) : List UInt8 × Int :=
  if 400 < ls.length then ([], 3) else if ferr ls ≠ 0 then ([], ferr ls) else (textL ls, 0)

theorem splitS_snoc (l : List UInt8) (c : UInt8) : splitS (l ++ [c]) = stepS (splitS l) c := by simp [splitS, List.foldl_append]
theorem fold_gen (l : List UInt8) (D : List (List UInt8)) (u : List UInt8) : l.foldl stepS (D, u) = (D ++ (l.foldl stepS ([], u)).1, (l.foldl stepS ([], u)).2) := by
  induction l generalizing D u with
  | nil => simp
  | cons c r ih =>
    simp only [List.foldl_cons, stepS]
    by_cases h : c = 10
    · rw [if_pos h, if_pos h, ih, ih ([] ++ [u])]; simp
    · rw [if_neg h, if_neg h, ih]
theorem fold_none (l : List UInt8) (u : List UInt8) (h : ∀ c ∈ l, c ≠ 10) : l.foldl stepS ([], u) = ([], u ++ l) := by
  induction l generalizing u with
  | nil => simp
  | cons c r ih =>
    simp only [List.foldl_cons, stepS]
    rw [if_neg (h c (by simp)), ih _ (fun c hc => h c (by simp [hc]))]
    simp
theorem splitL_none {l : List UInt8} (h : ∀ c ∈ l, c ≠ 10) : splitL l = [l] := by unfold splitL splitS; rw [fold_none l [] h]; rfl
theorem splitS_cut {x r : List UInt8} (h : ∀ c ∈ x, c ≠ 10) : splitS (x ++ 10 :: r) = (x :: (splitS r).1, (splitS r).2) := by
  unfold splitS
  rw [List.foldl_append, fold_none x [] h, List.foldl_cons, stepS, if_pos rfl, fold_gen]
  simp
theorem splitL_cut {x r : List UInt8} (h : ∀ c ∈ x, c ≠ 10) : splitL (x ++ 10 :: r) = x :: splitL r := by unfold splitL; rw [splitS_cut h]; rfl
theorem splitS_end (l : List UInt8) : splitS (l ++ [10]) = (splitL l, []) := by rw [splitS_snoc]; unfold stepS splitL; rw [if_pos rfl]

theorem splitK_L : ∀ (k : Nat) (l : List UInt8), l.count 10 ≤ k → Lib.splitK [10] 0 k l = splitL l := by
  intro k
  induction k with
  | zero =>
    intro l h
    have h0 : l.count 10 = 0 := by omega
    rw [Lib.splitK, splitL_none (fun c hc e => by subst e; exact absurd (List.count_eq_zero.1 h0) (by simp [hc]))]
  | succ k ih =>
    intro l h
    rw [Lib.splitK, Lib.index_one]
    by_cases e : Lib.indexByte l 10 = -1
    · rw [if_pos (by rw [e]; rfl)]
      rw [splitL_none (fun c hc e2 => by
        subst e2
        obtain ⟨j, hj⟩ := List.getElem?_of_mem hc
        exact Lib.indexByte_none e j hj)]
    · obtain ⟨i, hi⟩ := Int.eq_ofNat_of_zero_le (show 0 ≤ Lib.indexByte l 10 by have := Lib.indexByte_ge l 10; omega)
      obtain ⟨h1, h2⟩ := Lib.indexByte_some (o := i) hi
      have hlt : i < l.length := (List.getElem?_eq_some_iff.1 h1).1
      have hd : l = l.take i ++ 10 :: l.drop (i + 1) := by
        have h3 : l[i] = 10 := by
          have := List.getElem?_eq_getElem hlt
          rw [h1] at this; exact (Option.some.inj this).symm
        have h4 := List.drop_eq_getElem_cons hlt
        rw [h3] at h4
        rw [← h4, List.take_append_drop]
      have hn : ∀ c ∈ l.take i, c ≠ 10 := by
        intro c hc e2
        subst e2
        obtain ⟨j, hj⟩ := List.getElem?_of_mem hc
        have hji : j < i := by
          have := (List.getElem?_eq_some_iff.1 hj).1
          rw [List.length_take] at this; omega
        rw [List.getElem?_take_of_lt hji] at hj
        exact h2 j hji hj
      have hc : (l.drop (i + 1)).count 10 ≤ k := by
        have h5 : l.count 10 = (l.take i ++ 10 :: l.drop (i + 1)).count 10 := by rw [← hd]
        rw [List.count_append, List.count_cons_self] at h5
        omega
      have hne : ¬ (Lib.indexByte l 10 == -1) = true := by simp; omega
      rw [if_neg hne]
      have e3 : (Lib.indexByte l 10).toNat = i := by omega
      rw [e3]
      rw [show i + [(10 : UInt8)].length = i + 1 from rfl, ih _ hc, Nat.add_zero]
      conv => rhs; rw [hd]
      rw [splitL_cut hn]
theorem splitL_len (l : List UInt8) : (splitL l).length = l.count 10 + 1 := by
  have h : ∀ (l : List UInt8) (u : List UInt8), (l.foldl stepS ([], u)).1.length = l.count 10 := by
    intro l
    induction l with
    | nil => intro u; rfl
    | cons c r ih =>
      intro u
      simp only [List.foldl_cons, stepS]
      by_cases e : c = 10
      · rw [if_pos e, fold_gen]; subst e; simp [ih]
      · rw [if_neg e, ih, List.count_cons_of_ne (by simpa using e)]
  unfold splitL
  simp only [List.length_append, List.length_singleton]
  rw [show (splitS l).1.length = l.count 10 from h l []]
theorem splitB_map (d : ByteArray) : (Lib.splitB (⟨#[10]⟩ : ByteArray) 0 (Lib.countB d ⟨#[10]⟩) d).map (·.data.toList) = splitL d.data.toList := by
  rw [Lib.splitB_data]
  have h : Lib.countB d ⟨#[10]⟩ = d.data.toList.count 10 := Lib.count_one 10 d.data.toList
  rw [h]
  exact splitK_L _ _ (Nat.le_refl _)

/-! ### texts and lines -/
theorem textL_cons (x : List UInt8) (r : List (List UInt8)) : textL (x :: r) = x ++ 10 :: textL r := by simp [textL]
theorem splitS_text (ls : List (List UInt8)) (h : ∀ x ∈ ls, ∀ c ∈ x, c ≠ 10) : splitS (textL ls) = (ls, []) := by
  induction ls with
  | nil => rfl
  | cons x r ih => rw [textL_cons, splitS_cut (h x (by simp)), ih (fun y hy => h y (by simp [hy]))]
theorem text_split (l : List UInt8) : textL (splitS l).1 ++ (splitS l).2 = l := by
  have h : ∀ (l : List UInt8) (u : List UInt8), textL (l.foldl stepS ([], u)).1 ++ (l.foldl stepS ([], u)).2 = u ++ l := by
    intro l
    induction l with
    | nil => intro u; simp [textL]
    | cons c r ih =>
      intro u
      simp only [List.foldl_cons, stepS]
      by_cases e : c = 10
      · rw [if_pos e, fold_gen]
        have := ih []
        subst e
        simp only [List.nil_append, textL_cons, List.append_assoc, List.cons_append] at this ⊢
        rw [this]
      · rw [if_neg e, ih]; simp
  exact h l []
theorem split_end {l : List UInt8} (h : l.getLast? = some 10) : (splitS l).2 = [] ∧ l = l.dropLast ++ [10] := by
  have e : l = l.dropLast ++ [10] := by
    have hne : l ≠ [] := by intro e; rw [e] at h; simp at h
    have h2 := List.dropLast_concat_getLast hne
    have h3 : l.getLast hne = 10 := by rw [List.getLast?_eq_some_getLast hne] at h; exact Option.some.inj h
    rw [h3] at h2; exact h2.symm
  refine ⟨?_, e⟩
  rw [e, splitS_end]
theorem ferr_ok {ls : List (List UInt8)} (h : ferr ls = 0) : ∀ x ∈ ls, vErr x = 0 := by
  induction ls with
  | nil => intro x hx; cases hx
  | cons y r ih =>
    rw [ferr] at h
    by_cases e : vErr y = 0
    · rw [if_neg (by simp [e])] at h
      intro x hx
      rcases List.mem_cons.1 hx with rfl | hx
      · exact e
      · exact ih h x hx
    · rw [if_pos e] at h; exact absurd h e
theorem ferr_zero {ls : List (List UInt8)} (h : ∀ x ∈ ls, vErr x = 0) : ferr ls = 0 := by
  induction ls with
  | nil => rfl
  | cons y r ih => rw [ferr, if_neg (by simp [h y (by simp)])]; exact ih (fun x hx => h x (by simp [hx]))
theorem ferr_at {ls : List (List UInt8)} {k : Nat} (hk : k < ls.length) (h : ∀ j (hj : j < ls.length), j < k → vErr ls[j] = 0) (hx : vErr ls[k] ≠ 0) : ferr ls = vErr ls[k] := by
  induction ls generalizing k with
  | nil => simp at hk
  | cons y r ih =>
    rw [ferr]
    cases k with
    | zero => rw [if_pos (by simpa using hx)]; rfl
    | succ k =>
      have h0 : vErr y = 0 := h 0 (by simp) (by omega)
      rw [if_neg (by simp [h0])]
      simpa using ih (k := k) (by simpa using hk) (fun j hj hjk => h (j + 1) (by simpa using hj) (by omega)) (by simpa using hx)
theorem vErr_noLF {x : List UInt8} (h : vErr x = 0) : ∀ c ∈ x, c ≠ 10 := by
  intro c hc e
  subst e
  unfold vErr at h
  split at h
  · cases h
  · split at h
    · rename_i h2
      unfold okL at h2
      have := List.all_eq_true.1 h2 10 hc
      simp [inl] at this
    · cases h
theorem lines_text {l : List UInt8} {ls : List (List UInt8)} (h : linesVal l = (ls, 0)) : textVal ls = (l, 0) := by
  unfold linesVal at h
  split at h
  · rename_i h0
    subst h0
    injection h with h1 _
    subst h1; rfl
  · split at h
    · injection h with _ h2; cases h2
    · rename_i h1
      split at h
      · injection h with _ h2; cases h2
      · rename_i h2
        split at h
        · rename_i h3
          injection h with _ h4
          exact absurd h4 h3
        · rename_i h3
          injection h with h4 _
          subst h4
          unfold textVal
          rw [if_neg h2, if_neg h3]
          have h5 := split_end (l := l) (by simpa using h1)
          have h6 := text_split l
          rw [h5.1, List.append_nil] at h6
          rw [h6]
theorem text_lines {ls : List (List UInt8)} {l : List UInt8} (h : textVal ls = (l, 0)) : linesVal l = (ls, 0) := by
  unfold textVal at h
  split at h
  · injection h with _ h2; cases h2
  · rename_i h1
    split at h
    · rename_i h2
      injection h with _ h3
      exact absurd h3 h2
    · rename_i h2
      injection h with h3 _
      subst h3
      have h4 : ferr ls = 0 := by simpa using h2
      have h5 := splitS_text ls (fun x hx => vErr_noLF (ferr_ok h4 x hx))
      unfold linesVal
      rw [h5]
      cases ls with
      | nil => rfl
      | cons x r =>
        have hne : textL (x :: r) ≠ [] := by rw [textL_cons]; simp
        have hl : (textL (x :: r)).getLast? = some 10 := by
          have h6 : ∀ (r : List (List UInt8)) (x : List UInt8), (textL (x :: r)).getLast? = some 10 := by
            intro r
            induction r with
            | nil => intro x; simp [textL]
            | cons y r ih => intro x; rw [textL_cons, List.getLast?_append, List.getLast?_cons, ih y]; simp
          exact h6 r x
        rw [if_neg hne, if_neg (by simp [hl]), if_neg h1, if_neg (by simp [h4])]
end Go.Proofs.YtpmdfpfbnmoinaaDoor
