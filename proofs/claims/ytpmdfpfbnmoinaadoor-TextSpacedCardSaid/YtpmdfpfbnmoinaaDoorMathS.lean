/- Plain functions and lemmas on words and what stands between them. Nothing here speaks of the program. -/
import Derived.Test.YtpmdfpfbnmoinaaDoorWh
import Derived.Lib.Replace
import Derived.Lib.Case
import Derived.Lib.SplitLaws
namespace Go.Proofs.YtpmdfpfbnmoinaaDoor
set_option linter.unusedVariables false

def flushW (p : List (List UInt8) × List UInt8) : List (List UInt8) := if p.2 = [] then p.1 else p.1 ++ [p.2]
def stepW (p : List (List UInt8) × List UInt8) (c : UInt8) : List (List UInt8) × List UInt8 := if ltr (c.toNat : Int) then (p.1, p.2 ++ [c]) else (flushW p, [])
def foldW (l : List UInt8) : List (List UInt8) × List UInt8 := l.foldl stepW ([], [])
def wordsW (l : List UInt8) : List (List UInt8) := flushW (foldW l)
def noL (b : List UInt8) : Prop := ∀ c ∈ b, ltr (c.toNat : Int) = false

theorem cut_take {l : List UInt8} {a b k : Nat} (h1 : a ≤ b) (h2 : b ≤ k) : cutL (l.take k) a b = cutL l a b := by
  unfold cutL
  rw [List.drop_take, List.take_take, Nat.min_eq_left (by omega)]
theorem foldW_snoc (l : List UInt8) (c : UInt8) : foldW (l ++ [c]) = stepW (foldW l) c := by simp [foldW, List.foldl_append]
theorem drop_all (l : List UInt8) (n : Nat) (h : l.length ≤ n) : l.drop n = [] := List.drop_eq_nil_of_le h
theorem all8 {p : UInt8 → Prop} (h : ∀ m : Fin 256, p (UInt8.ofNat m.val)) (c : UInt8) : p c := by
  have := h ⟨c.toNat, c.toNat_lt⟩
  simpa using this
/-- What the spans cut out is what the fold gathers. -/
theorem wst_fold (l : List UInt8) (k : Nat) (hk : k ≤ l.length) : ∀ L f, wst (fAt l) k = (L, f) → foldW (l.take k) = (L.map (fun p => cutL l p.1 p.2), (l.take k).drop f) := by
  induction k with
  | zero =>
    intro L f h
    injection h with h1 h2
    subst h1; subst h2; rfl
  | succ k ih =>
    intro L f h
    have hlt : k < l.length := hk
    obtain ⟨L0, f0, h0⟩ : ∃ L0 f0, wst (fAt l) k = (L0, f0) := ⟨_, _, rfl⟩
    have hi := ih (by omega) L0 f0 h0
    have hle := (wst_le (fAt l) k).1
    rw [h0] at hle
    simp only at hle
    have htk : l.take (k + 1) = l.take k ++ [l[k]] := List.take_succ_eq_append_getElem hlt
    have hF : fAt l k = ltr (l[k].toNat : Int) := by unfold fAt; rw [List.getElem?_eq_getElem hlt]
    have hcur : (l.take k).drop f0 = cutL l f0 k := by unfold cutL; rw [List.drop_take]
    rw [htk, foldW_snoc, hi]
    unfold stepW
    cases hl : ltr (l[k].toNat : Int) with
    | true =>
      rw [wst_yes h0 (by rw [hF]; exact hl)] at h
      injection h with h1 h2
      subst h1; subst h2
      rw [if_pos rfl, List.drop_append_of_le_length (by rw [List.length_take]; omega)]
    | false =>
      rw [if_neg (by simp)]
      by_cases hf : f0 < k
      · rw [wst_cut h0 (by rw [hF]; exact hl) hf] at h
        injection h with h1 h2
        subst h1; subst h2
        have hne : (l.take k).drop f0 ≠ [] := by
          intro e
          have := congrArg List.length e
          rw [List.length_drop, List.length_take] at this
          simp at this
          omega
        unfold flushW
        rw [if_neg hne, drop_all (l.take k ++ [l[k]]) (k + 1) (by rw [List.length_append, List.length_take]; simp; omega)]
        rw [hcur]; simp
      · rw [wst_skip h0 (by rw [hF]; exact hl) hf] at h
        injection h with h1 h2
        subst h1; subst h2
        have he : (l.take k).drop f0 = [] := List.drop_eq_nil_of_le (by rw [List.length_take]; omega)
        unfold flushW
        rw [if_pos he, drop_all (l.take k ++ [l[k]]) (k + 1) (by rw [List.length_append, List.length_take]; simp; omega)]
theorem wordsL_W {l : List UInt8} (h : vErr l = 0) : wordsL l = (wordsW l).map foldL := by
  obtain ⟨L, f, h0⟩ : ∃ L f, wst (fAt l) l.length = (L, f) := ⟨_, _, rfl⟩
  have hi := wst_fold l l.length (Nat.le_refl _) L f h0
  rw [List.take_length] at hi
  have hle := (wst_le (fAt l) l.length).1
  rw [h0] at hle
  simp only at hle
  have hF : fAt l l.length = false := by unfold fAt; rw [List.getElem?_eq_none (Nat.le_refl _)]
  have hsp : spansOf l = if f < l.length then L ++ [(f, l.length)] else L := by
    rw [spansOf_ok h]
    by_cases hf : f < l.length
    · rw [wst_cut h0 hF hf, if_pos hf]
    · rw [wst_skip h0 hF hf, if_neg hf]
  have hw : wordsL l = (spansOf l).map (fun p => foldL (cutL l p.1 p.2)) := by
    unfold wordsL
    apply List.ext_getElem
    · simp
    · intro i h1 h2
      have hi' : i < (spansOf l).length := by simpa using h2
      simp [wordL, sp_lt hi']
  rw [hw, hsp]
  unfold wordsW flushW
  rw [hi]
  by_cases hf : f < l.length
  · have hne : l.drop f ≠ [] := by
      intro e
      have := congrArg List.length e
      rw [List.length_drop] at this
      simp at this
      omega
    rw [if_pos hf, if_neg hne]
    simp [cutL, List.take_of_length_le]
  · rw [if_neg hf, if_pos (List.drop_eq_nil_of_le (by omega))]
    simp
theorem fold_noL (b : List UInt8) (h : noL b) (D : List (List UInt8)) : b.foldl stepW (D, []) = (D, []) := by
  induction b with
  | nil => rfl
  | cons c r ih =>
    rw [List.foldl_cons]
    have h1 : stepW (D, []) c = (D, []) := by unfold stepW; rw [if_neg (by simp [h c (by simp)])]; rfl
    rw [h1]
    exact ih (fun x hx => h x (by simp [hx]))
theorem flush_noL (b : List UInt8) (h : noL b) (p : List (List UInt8) × List UInt8) : flushW (b.foldl stepW p) = flushW p := by
  cases b with
  | nil => rfl
  | cons c r =>
    rw [List.foldl_cons]
    have h1 : stepW p c = (flushW p, []) := by unfold stepW; rw [if_neg (by simp [h c (by simp)])]
    rw [h1, fold_noL r (fun x hx => h x (by simp [hx]))]
    rfl
theorem words_around (b l : List UInt8) (h : noL b) : wordsW (b ++ l ++ b) = wordsW l := by
  unfold wordsW foldW
  rw [List.foldl_append, List.foldl_append, fold_noL b h, flush_noL b h]
def rep (b : List UInt8) (l : List UInt8) : List UInt8 := l.flatMap fun c => if c = 32 then 32 :: b else [c]
theorem ltr_space : ltr (((32 : UInt8).toNat : Nat) : Int) = false := by decide
theorem fold_rep (b : List UInt8) (h : noL b) (l : List UInt8) (p : List (List UInt8) × List UInt8) : (rep b l).foldl stepW p = l.foldl stepW p := by
  induction l generalizing p with
  | nil => rfl
  | cons c r ih =>
    unfold rep at ih ⊢
    rw [List.flatMap_cons, List.foldl_append, ih, List.foldl_cons]
    by_cases e : c = 32
    · subst e
      rw [if_pos rfl, List.foldl_cons]
      have h1 : stepW p 32 = (flushW p, []) := by unfold stepW; rw [ltr_space]; rfl
      rw [h1, fold_noL b h]
    · rw [if_neg e]; rfl
theorem words_rep (b l : List UInt8) (h : noL b) : wordsW (rep b l) = wordsW l := by unfold wordsW foldW; rw [fold_rep b h]
theorem upper_ltr (c : UInt8) : ltr ((Lib.upperB c).toNat : Int) = ltr (c.toNat : Int) := all8 (p := fun c => ltr ((Lib.upperB c).toNat : Int) = ltr (c.toNat : Int)) (by decide +kernel) c
theorem upper_fold (c : UInt8) : foldB (Lib.upperB c) = foldB c := all8 (p := fun c => foldB (Lib.upperB c) = foldB c) (by decide +kernel) c
theorem upper_inl (c : UInt8) : inl (c.toNat : Int) = true → inl ((Lib.upperB c).toNat : Int) = true := all8 (p := fun c => inl (c.toNat : Int) = true → inl ((Lib.upperB c).toNat : Int) = true) (by decide +kernel) c
theorem fold_upper (l : List UInt8) (D : List (List UInt8)) (u : List UInt8) :
    (l.map Lib.upperB).foldl stepW (D.map (·.map Lib.upperB), u.map Lib.upperB) = ((l.foldl stepW (D, u)).1.map (·.map Lib.upperB), (l.foldl stepW (D, u)).2.map Lib.upperB) := by
  induction l generalizing D u with
  | nil => rfl
  | cons c r ih =>
    rw [List.map_cons, List.foldl_cons, List.foldl_cons]
    cases hl : ltr (c.toNat : Int) with
    | true =>
      have h1 : stepW (D.map (·.map Lib.upperB), u.map Lib.upperB) (Lib.upperB c) = (D.map (·.map Lib.upperB), (u ++ [c]).map Lib.upperB) := by
        unfold stepW; rw [upper_ltr, hl, if_pos rfl]; simp
      have h2 : stepW (D, u) c = (D, u ++ [c]) := by unfold stepW; rw [hl, if_pos rfl]
      rw [h1, h2]
      exact ih _ _
    | false =>
      have h1 : stepW (D.map (·.map Lib.upperB), u.map Lib.upperB) (Lib.upperB c) = ((flushW (D, u)).map (·.map Lib.upperB), ([] : List UInt8).map Lib.upperB) := by
        unfold stepW; rw [upper_ltr, hl, if_neg (by simp)]
        unfold flushW
        by_cases e : u = []
        · subst e; rfl
        · rw [if_neg (by simpa using e), if_neg e]; simp
      have h2 : stepW (D, u) c = (flushW (D, u), []) := by unfold stepW; rw [hl, if_neg (by simp)]
      rw [h1, h2]
      exact ih _ _
theorem words_upper (l : List UInt8) : wordsW (l.map Lib.upperB) = (wordsW l).map (·.map Lib.upperB) := by
  have h := fold_upper l [] []
  unfold wordsW foldW
  simp only [List.map_nil] at h
  rw [h]
  unfold flushW
  by_cases e : (List.foldl stepW ([], []) l).2 = []
  · rw [if_pos e, if_pos (by simp [e])]
  · rw [if_neg e, if_neg (by simpa using e)]; simp
theorem foldL_upper (l : List UInt8) : foldL (l.map Lib.upperB) = foldL l := by
  unfold foldL; rw [List.map_map]; exact List.map_congr_left (fun c _ => upper_fold c)
theorem rep_valid {b l : List UInt8} (hb : okL b = true) (hl : okL l = true) : okL (rep b l) = true := by
  unfold okL rep at *
  rw [List.all_eq_true] at *
  intro c hc
  obtain ⟨d, hd, hc⟩ := List.mem_flatMap.1 hc
  by_cases e : d = 32
  · rw [if_pos e] at hc
    rcases List.mem_cons.1 hc with rfl | hc
    · rw [← e]; exact hl d hd
    · exact hb c hc
  · rw [if_neg e] at hc
    rw [List.mem_singleton.1 hc]; exact hl d hd
theorem upper_valid {l : List UInt8} (h : okL l = true) : okL (l.map Lib.upperB) = true := by
  unfold okL at *
  rw [List.all_eq_true] at *
  intro c hc
  obtain ⟨d, hd, rfl⟩ := List.mem_map.1 hc
  exact upper_inl d (h d hd)
def other (b l : List UInt8) : List UInt8 := b ++ Lib.toUpperA (rep b l) ++ b
theorem other_same {b l : List UInt8} (hb : vErr b = 0) (hl : vErr l = 0) (hn : noL b) (hlen : (other b l).length ≤ 120) : sameL l (other b l) = true := by
  have ok : ∀ {x : List UInt8}, vErr x = 0 → okL x = true := by
    intro x h
    unfold vErr at h
    split at h
    · cases h
    · split at h
      · assumption
      · cases h
  have hv : vErr (other b l) = 0 := by
    unfold vErr
    rw [if_neg (by omega)]
    have h1 : okL (other b l) = true := by
      have h2 := ok hb
      have h3 : okL (Lib.toUpperA (rep b l)) = true := upper_valid (rep_valid h2 (ok hl))
      unfold other
      unfold okL at h2 h3 ⊢
      rw [List.all_append, List.all_append, h2, h3]; rfl
    rw [h1]; rfl
  refine decide_eq_true ⟨hl, hv, ?_⟩
  rw [wordsL_W hl, wordsL_W hv]
  unfold other Lib.toUpperA
  rw [words_around b _ hn, words_upper, words_rep b l hn, List.map_map]
  exact List.map_congr_left (fun x _ => (foldL_upper x).symm)
theorem rep_none {b l : List UInt8} (h : ∀ c ∈ l, c ≠ 32) : rep b l = l := by
  induction l with
  | nil => rfl
  | cons c r ih =>
    unfold rep at ih ⊢
    rw [List.flatMap_cons, ih (fun x hx => h x (by simp [hx])), if_neg (h c (by simp))]; rfl
theorem rep_append (b x y : List UInt8) : rep b (x ++ y) = rep b x ++ rep b y := by simp [rep]
theorem replaceK_rep (b : List UInt8) : ∀ (k : Nat) (l : List UInt8), l.count 32 ≤ k → Lib.replaceK [32] (32 :: b) k l = rep b l := by
  intro k
  induction k with
  | zero =>
    intro l h
    have h0 : l.count 32 = 0 := by omega
    rw [Lib.replaceK, rep_none (fun c hc e => by subst e; exact absurd (List.count_eq_zero.1 h0) (by simp [hc]))]
  | succ k ih =>
    intro l h
    rw [Lib.replaceK, Lib.index_one]
    by_cases e : Lib.indexByte l 32 = -1
    · rw [if_pos (by rw [e]; rfl)]
      rw [rep_none (fun c hc e2 => by
        subst e2
        obtain ⟨j, hj⟩ := List.getElem?_of_mem hc
        exact Lib.indexByte_none e j hj)]
    · obtain ⟨i, hi⟩ := Int.eq_ofNat_of_zero_le (show 0 ≤ Lib.indexByte l 32 by have := Lib.indexByte_ge l 32; omega)
      obtain ⟨h1, h2⟩ := Lib.indexByte_some (o := i) hi
      have hlt : i < l.length := (List.getElem?_eq_some_iff.1 h1).1
      have hd : l = l.take i ++ 32 :: l.drop (i + 1) := by
        have h3 : l[i] = 32 := by
          have := List.getElem?_eq_getElem hlt
          rw [h1] at this; exact (Option.some.inj this).symm
        have h4 := List.drop_eq_getElem_cons hlt
        rw [h3] at h4
        rw [← h4, List.take_append_drop]
      have hn : ∀ c ∈ l.take i, c ≠ 32 := by
        intro c hc e2
        subst e2
        obtain ⟨j, hj⟩ := List.getElem?_of_mem hc
        have hji : j < i := by
          have := (List.getElem?_eq_some_iff.1 hj).1
          rw [List.length_take] at this; omega
        rw [List.getElem?_take_of_lt hji] at hj
        exact h2 j hji hj
      have hc : (l.drop (i + 1)).count 32 ≤ k := by
        have h5 : l.count 32 = (l.take i ++ 32 :: l.drop (i + 1)).count 32 := by rw [← hd]
        rw [List.count_append, List.count_cons_self] at h5
        omega
      have hne : ¬ (Lib.indexByte l 32 == -1) = true := by simp; omega
      rw [if_neg hne]
      have e3 : (Lib.indexByte l 32).toNat = i := by omega
      rw [e3]
      rw [show i + [(32 : UInt8)].length = i + 1 from rfl, ih _ hc]
      conv => rhs; rw [hd]
      rw [rep_append, rep_none hn]
      have h6 : rep b (32 :: l.drop (i + 1)) = (32 :: b) ++ rep b (l.drop (i + 1)) := by unfold rep; rw [List.flatMap_cons, if_pos rfl]
      rw [h6]; simp
theorem rep_nil (l : List UInt8) : rep [] l = l := by
  induction l with
  | nil => rfl
  | cons c r ih =>
    unfold rep at ih ⊢
    rw [List.flatMap_cons, ih]
    by_cases e : c = 32
    · rw [if_pos e, e]; rfl
    · rw [if_neg e]; rfl
theorem replaceAll_rep (b l : List UInt8) : Lib.replaceAll l [32] (32 :: b) = rep b l := by
  unfold Lib.replaceAll Lib.replace
  by_cases e : b = []
  · subst e; rw [if_pos (by rfl), rep_nil]
  · have hne : ¬ (([32] : List UInt8) == 32 :: b) = true := by simp; exact fun h => e h
    rw [if_neg hne]
    have h1 : Lib.replaceNum l [32] (-1) = l.count 32 := by unfold Lib.replaceNum; rw [if_pos (Or.inl (by omega)), Lib.count_one]
    rw [h1]
    exact replaceK_rep b _ l (Nat.le_refl _)
end Go.Proofs.YtpmdfpfbnmoinaaDoor
