/- The lines of a string. Nothing here speaks of the program. -/
import Derived.Test.YtngkhggofjeflaaDoorKMath
import Derived.Lib.SplitLaws
import Derived.Lib.Strings
namespace Go.Proofs.YtngkhggofjeflaaDoor
set_option linter.unusedVariables false

def stepS (p : List (List UInt8) × List UInt8) (c : UInt8) : List (List UInt8) × List UInt8 := if c = 10 then (p.1 ++ [p.2], []) else (p.1, p.2 ++ [c])
def splitS (l : List UInt8) : List (List UInt8) × List UInt8 := l.foldl stepS ([], [])
def splitL (l : List UInt8) : List (List UInt8) := (splitS l).1 ++ [(splitS l).2]
theorem splitS_snoc (l : List UInt8) (c : UInt8) : splitS (l ++ [c]) = stepS (splitS l) c := by simp [splitS, List.foldl_append]
theorem fold_gen (l : List UInt8) (D : List (List UInt8)) (u : List UInt8) : l.foldl stepS (D, u) = (D ++ (l.foldl stepS ([], u)).1, (l.foldl stepS ([], u)).2) := by
  induction l generalizing D u with
  | nil => simp
  | cons c r ih =>
    simp only [List.foldl_cons, stepS]
    by_cases h : c = 10
    · rw [if_pos h, if_pos h, ih, ih ([] ++ [u])]; simp
    · rw [if_neg h, if_neg h, ih]
theorem fold_none (l : List UInt8) (u : List UInt8) (h : ∀ c ∈ l, c ≠ 10) : l.foldl stepS ([], u) = ([], u ++ l) := by
  induction l generalizing u with
  | nil => simp
  | cons c r ih =>
    simp only [List.foldl_cons, stepS]
    rw [if_neg (h c (by simp)), ih _ (fun c hc => h c (by simp [hc]))]
    simp
theorem splitL_none {l : List UInt8} (h : ∀ c ∈ l, c ≠ 10) : splitL l = [l] := by unfold splitL splitS; rw [fold_none l [] h]; rfl
theorem splitS_cut {x r : List UInt8} (h : ∀ c ∈ x, c ≠ 10) : splitS (x ++ 10 :: r) = (x :: (splitS r).1, (splitS r).2) := by
  unfold splitS
  rw [List.foldl_append, fold_none x [] h, List.foldl_cons, stepS, if_pos rfl, fold_gen]
  simp
theorem splitL_cut {x r : List UInt8} (h : ∀ c ∈ x, c ≠ 10) : splitL (x ++ 10 :: r) = x :: splitL r := by unfold splitL; rw [splitS_cut h]; rfl
theorem splitS_end (l : List UInt8) : splitS (l ++ [10]) = (splitL l, []) := by rw [splitS_snoc]; unfold stepS splitL; rw [if_pos rfl]

theorem splitK_L : ∀ (k : Nat) (l : List UInt8), l.count 10 ≤ k → Lib.splitK [10] 0 k l = splitL l := by
  intro k
  induction k with
  | zero =>
    intro l h
    have h0 : l.count 10 = 0 := by omega
    rw [Lib.splitK, splitL_none (fun c hc e => by subst e; exact absurd (List.count_eq_zero.1 h0) (by simp [hc]))]
  | succ k ih =>
    intro l h
    rw [Lib.splitK, Lib.index_one]
    by_cases e : Lib.indexByte l 10 = -1
    · rw [if_pos (by rw [e]; rfl)]
      rw [splitL_none (fun c hc e2 => by
        subst e2
        obtain ⟨j, hj⟩ := List.getElem?_of_mem hc
        exact Lib.indexByte_none e j hj)]
    · obtain ⟨i, hi⟩ := Int.eq_ofNat_of_zero_le (show 0 ≤ Lib.indexByte l 10 by have := Lib.indexByte_ge l 10; omega)
      obtain ⟨h1, h2⟩ := Lib.indexByte_some (o := i) hi
      have hlt : i < l.length := (List.getElem?_eq_some_iff.1 h1).1
      have hd : l = l.take i ++ 10 :: l.drop (i + 1) := by
        have h3 : l[i] = 10 := by
          have := List.getElem?_eq_getElem hlt
          rw [h1] at this; exact (Option.some.inj this).symm
        have h4 := List.drop_eq_getElem_cons hlt
        rw [h3] at h4
        rw [← h4, List.take_append_drop]
      have hn : ∀ c ∈ l.take i, c ≠ 10 := by
        intro c hc e2
        subst e2
        obtain ⟨j, hj⟩ := List.getElem?_of_mem hc
        have hji : j < i := by
          have := (List.getElem?_eq_some_iff.1 hj).1
          rw [List.length_take] at this; omega
        rw [List.getElem?_take_of_lt hji] at hj
        exact h2 j hji hj
      have hc : (l.drop (i + 1)).count 10 ≤ k := by
        have h5 : l.count 10 = (l.take i ++ 10 :: l.drop (i + 1)).count 10 := by rw [← hd]
        rw [List.count_append, List.count_cons_self] at h5
        omega
      have hne : ¬ (Lib.indexByte l 10 == -1) = true := by simp; omega
      rw [if_neg hne]
      have e3 : (Lib.indexByte l 10).toNat = i := by omega
      rw [e3]
      rw [show i + [(10 : UInt8)].length = i + 1 from rfl, ih _ hc, Nat.add_zero]
      conv => rhs; rw [hd]
      rw [splitL_cut hn]
theorem splitL_len (l : List UInt8) : (splitL l).length = l.count 10 + 1 := by
  have h : ∀ (l : List UInt8) (u : List UInt8), (l.foldl stepS ([], u)).1.length = l.count 10 := by
    intro l
    induction l with
    | nil => intro u; rfl
    | cons c r ih =>
      intro u
      simp only [List.foldl_cons, stepS]
      by_cases e : c = 10
      · rw [if_pos e, fold_gen]; subst e; simp [ih]
      · rw [if_neg e, ih, List.count_cons_of_ne (by simpa using e)]
  unfold splitL
  simp only [List.length_append, List.length_singleton]
  rw [show (splitS l).1.length = l.count 10 from h l []]
theorem splitB_map (d : ByteArray) : (Lib.splitB (⟨#[10]⟩ : ByteArray) 0 (Lib.countB d ⟨#[10]⟩) d).map (·.data.toList) = splitL d.data.toList := by
  rw [Lib.splitB_data]
  have h : Lib.countB d ⟨#[10]⟩ = d.data.toList.count 10 := Lib.count_one 10 d.data.toList
  rw [h]
  exact splitK_L _ _ (Nat.le_refl _)


theorem split_last {l : List UInt8} (h : l.getLast? = some 10) : l = l.dropLast ++ [10] := by
  have hne : l ≠ [] := by intro e; rw [e] at h; simp at h
  have h2 := List.dropLast_concat_getLast hne
  have h3 : l.getLast hne = 10 := by rw [List.getLast?_eq_some_getLast hne] at h; exact Option.some.inj h
  rw [h3] at h2; exact h2.symm
def linesV (l : List UInt8) : List (List UInt8) := (splitS l).1 ++ (if (splitS l).2 = [] then [] else [(splitS l).2])
theorem suffix_one {l : List UInt8} : Lib.hasSuffix l [10] = decide (l.getLast? = some 10) := by
  unfold Lib.hasSuffix
  rw [Bool.eq_iff_iff]
  simp only [List.isSuffixOf_iff_suffix, decide_eq_true_eq]
  constructor
  · rintro ⟨t, rfl⟩; simp
  · intro h; exact ⟨l.dropLast, (split_last h).symm⟩
theorem lines_trim {l : List UInt8} (h : l ≠ []) : splitL (Lib.trimSuffix l [10]) = linesV l := by
  unfold Lib.trimSuffix
  rw [suffix_one]
  by_cases hl : l.getLast? = some 10
  · rw [if_pos (by simpa using hl)]
    have e := split_last hl
    have e2 : l.take (l.length - [(10 : UInt8)].length) = l.dropLast := by
      conv => lhs; rw [e]
      simp
    rw [e2]
    unfold linesV
    rw [e, splitS_end]; simp
  · rw [if_neg (by simpa using hl)]
    unfold splitL linesV
    have hc : l = l.dropLast ++ [l.getLast h] := (List.dropLast_concat_getLast h).symm
    have hne : l.getLast h ≠ 10 := fun e => hl (by rw [List.getLast?_eq_some_getLast h, e])
    have : (splitS l).2 ≠ [] := by
      rw [hc, splitS_snoc]
      unfold stepS
      rw [if_neg hne]
      simp
    rw [if_neg this]
theorem lines_nil : linesV [] = [] := by simp [linesV, splitS]
/-- What is behind the last line feed of the first i bytes. -/
def LnAt (l : List UInt8) (i f : Nat) : Prop := f ≤ i ∧ i ≤ l.length ∧ (splitS (l.take i)).2 = (l.drop f).take (i - f)
theorem ln_start (l : List UInt8) : LnAt l 0 0 := ⟨Nat.le_refl _, Nat.zero_le _, by simp [splitS]⟩
theorem ln_feed {l : List UInt8} {i : Nat} (hi : i < l.length) (h10 : l[i] = 10) : splitS (l.take (i + 1)) = (splitL (l.take i), []) := by
  rw [List.take_succ_eq_append_getElem hi, h10, splitS_end]
theorem ln_other {l : List UInt8} {i f : Nat} (h : LnAt l i f) (hi : i < l.length) (h10 : l[i] ≠ 10) : LnAt l (i + 1) f ∧ (splitS (l.take (i + 1))).1 = (splitS (l.take i)).1 := by
  obtain ⟨h1, h2, h3⟩ := h
  have e : splitS (l.take (i + 1)) = ((splitS (l.take i)).1, (splitS (l.take i)).2 ++ [l[i]]) := by
    rw [List.take_succ_eq_append_getElem hi, splitS_snoc]
    unfold stepS
    rw [if_neg h10]
  refine ⟨⟨by omega, by omega, ?_⟩, by rw [e]⟩
  rw [e, h3, show i + 1 - f = (i - f) + 1 by omega, List.take_succ_eq_append_getElem (by rw [List.length_drop]; omega)]
  have hl : i - f < (l.drop f).length := by rw [List.length_drop]; omega
  have e3 : (l.drop f)[i - f]'hl = l[i] := by
    rw [List.getElem_drop]
    simp only [show f + (i - f) = i by omega]
  rw [e3]
theorem ln_new (l : List UInt8) {i : Nat} (hi : i < l.length) (h10 : l[i] = 10) : LnAt l (i + 1) (i + 1) := by
  refine ⟨Nat.le_refl _, by omega, ?_⟩
  rw [ln_feed hi h10]; simp
theorem ln_more {l : List UInt8} {i : Nat} (hi : i < l.length) (h10 : l[i] = 10) : (splitS (l.take (i + 1))).1 = (splitS (l.take i)).1 ++ [(splitS (l.take i)).2] := by
  rw [ln_feed hi h10]; rfl
theorem ln_empty {l : List UInt8} {i f : Nat} (h : LnAt l i f) : (splitS (l.take i)).2 = [] ↔ f = i := by
  obtain ⟨h1, h2, h3⟩ := h
  rw [h3, List.take_eq_nil_iff]
  constructor
  · rintro (h | h)
    · first
        | omega
        | (have h4 : l.length - f = 0 := by rw [← List.length_drop, h]; rfl
           omega)
    · first
        | omega
        | (have h4 : l.length - f = 0 := by rw [← List.length_drop, h]; rfl
           omega)
  · intro h
    first
      | (left; omega)
      | (right; omega)
theorem lines_len (l : List UInt8) : (linesV l).length ≤ l.length := by
  have hg : ∀ (l : List UInt8) (D : List (List UInt8)) (u : List UInt8), (l.foldl stepS (D, u)).1.length + (if (l.foldl stepS (D, u)).2 = [] then 0 else 1) ≤ D.length + (if u = [] then 0 else 1) + l.length := by
    intro l
    induction l with
    | nil => intro D u; exact Nat.le_refl _
    | cons c r ih =>
      intro D u
      simp only [List.foldl_cons, stepS, List.length_cons]
      by_cases hc : c = 10
      · rw [if_pos hc]
        have h1 := ih (D ++ [u]) []
        rw [if_pos (show ([] : List UInt8) = [] from rfl), List.length_append, List.length_singleton] at h1
        omega
      · rw [if_neg hc]
        have h1 := ih D (u ++ [c])
        rw [if_neg (show ¬ u ++ [c] = [] by simp)] at h1
        omega
  have h : ∀ (l : List UInt8), (splitS l).1.length + (if (splitS l).2 = [] then 0 else 1) ≤ l.length := by
    intro l
    have h1 := hg l [] []
    by_cases e : (splitS l).2 = []
    · have e' : (l.foldl stepS ([], [])).2 = [] := e
      rw [if_pos e'] at h1
      rw [if_pos e]
      simpa [splitS] using h1
    · have e' : ¬ (l.foldl stepS ([], [])).2 = [] := e
      rw [if_neg e'] at h1
      rw [if_neg e]
      simpa [splitS] using h1
  have h2 := h l
  unfold linesV
  rw [List.length_append]
  split at h2
  · rename_i e; rw [if_pos e]; simpa using h2
  · rename_i e; rw [if_neg e]; simpa using h2
theorem splitS_len (l : List UInt8) : (splitS l).1.length ≤ l.length := by
  have := lines_len l
  unfold linesV at this
  rw [List.length_append] at this
  omega
end Go.Proofs.YtngkhggofjeflaaDoor
