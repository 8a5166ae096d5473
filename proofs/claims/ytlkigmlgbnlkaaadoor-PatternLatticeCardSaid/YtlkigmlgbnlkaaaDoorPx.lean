/- Plain functions and lemmas on the plain patterns that match a pattern. Nothing here speaks of the program. -/
import Derived.Test.YtlkigmlgbnlkaaaDoorPMath
import Derived.Lib.Bytealg
namespace Go.Proofs.YtlkigmlgbnlkaaaDoor
set_option linter.unusedVariables false

def sub1 (b : UInt8) : List UInt8 → List UInt8
  | [] => []
  | c :: r => if c = 120 then b :: r else c :: sub1 b r
def stepX (q : List UInt8) : List (List UInt8) := [sub1 117 q, sub1 45 q]
def iterX : Nat → List (List UInt8) → List (List UInt8)
  | 0, L => L
  | n + 1, L => (iterX n L).flatMap stepX
def expL : List UInt8 → List (List UInt8)
  | [] => [[]]
  | c :: r => if c = 120 then (expL r).map (117 :: ·) ++ (expL r).map (45 :: ·) else (expL r).map (c :: ·)
def expN : Nat → List UInt8 → List (List UInt8)
  | 0, p => [p]
  | n + 1, [] => [[]]
  | n + 1, c :: r => if c = 120 then (expN n r).map (117 :: ·) ++ (expN n r).map (45 :: ·) else (expN (n + 1) r).map (c :: ·)
theorem step_cons {c : UInt8} (h : c ≠ 120) (q : List UInt8) : stepX (c :: q) = (stepX q).map (c :: ·) := by
  simp [stepX, sub1, h]
theorem flat_cons {c : UInt8} (h : c ≠ 120) (L : List (List UInt8)) : (L.map (c :: ·)).flatMap stepX = (L.flatMap stepX).map (c :: ·) := by
  induction L with
  | nil => rfl
  | cons q L ih => simp only [List.map_cons, List.flatMap_cons, List.map_append, step_cons h, ih]
theorem flat_exp : ∀ (n : Nat) (p : List UInt8), n < p.count 120 → (expN n p).flatMap stepX = expN (n + 1) p
  | n, [], h => by simp at h
  | 0, c :: r, h => by
    by_cases hc : c = 120
    · subst hc; simp [expN, stepX, sub1]
    · have h' : 0 < r.count 120 := by rwa [List.count_cons_of_ne (by simpa using hc)] at h
      have ih := flat_exp 0 r h'
      simp only [expN, List.flatMap_cons, List.flatMap_nil, List.append_nil] at ih ⊢
      rw [if_neg hc, ← ih, step_cons hc]
  | n + 1, c :: r, h => by
    by_cases hc : c = 120
    · subst hc
      have h' : n < r.count 120 := by rw [List.count_cons_self] at h; omega
      have ih := flat_exp n r h'
      rw [expN, if_pos rfl, List.flatMap_append, flat_cons (by decide), flat_cons (by decide), ih, expN, if_pos rfl]
    · have h' : n + 1 < r.count 120 := by rwa [List.count_cons_of_ne (by simpa using hc)] at h
      have ih := flat_exp (n + 1) r h'
      rw [expN, if_neg hc, flat_cons hc, ih, expN, if_neg hc]
theorem exp_all : ∀ p : List UInt8, expN (p.count 120) p = expL p
  | [] => rfl
  | c :: r => by
    have ih := exp_all r
    by_cases hc : c = 120
    · subst hc; rw [List.count_cons_self, expN, if_pos rfl, ih, expL, if_pos rfl]
    · rw [List.count_cons_of_ne (by simpa using hc), expL, if_neg hc, ← ih]
      cases r.count 120 with
      | zero => simp [expN]
      | succ n => rw [expN, if_neg hc]
theorem iter_exp (p : List UInt8) : ∀ n, n ≤ p.count 120 → iterX n [p] = expN n p
  | 0, _ => by simp [iterX, expN]
  | n + 1, h => by rw [iterX, iter_exp p n (by omega), flat_exp n p (by omega)]
theorem iter_all (p : List UInt8) : iterX (p.count 120) [p] = expL p := by rw [iter_exp p _ (Nat.le_refl _), exp_all]
theorem sub1_len (b : UInt8) (q : List UInt8) : (sub1 b q).length = q.length := by
  induction q with
  | nil => rfl
  | cons c r ih => unfold sub1; split <;> simp [ih]
theorem sub1_count {b : UInt8} (hb : b ≠ 120) (q : List UInt8) (h : 0 < q.count 120) : (sub1 b q).count 120 + 1 = q.count 120 := by
  induction q with
  | nil => simp at h
  | cons c r ih =>
    unfold sub1
    by_cases hc : c = 120
    · subst hc; rw [if_pos rfl, List.count_cons_of_ne (by simpa using hb), List.count_cons_self]
    · rw [if_neg hc, List.count_cons_of_ne (by simpa using hc)]
      rw [List.count_cons_of_ne (by simpa using hc)] at h ⊢
      exact ih h
theorem iter_in (p : List UInt8) : ∀ n, n ≤ p.count 120 → ∀ q ∈ iterX n [p], q.length = p.length ∧ q.count 120 + n = p.count 120
  | 0, _ => by intro q hq; simp [iterX] at hq; subst hq; simp
  | n + 1, h => by
    intro q hq
    rw [iterX, List.mem_flatMap] at hq
    obtain ⟨r, hr, hq⟩ := hq
    obtain ⟨h1, h2⟩ := iter_in p n (by omega) r hr
    have h3 := sub1_count (b := 117) (by decide) r (by omega)
    have h4 := sub1_count (b := 45) (by decide) r (by omega)
    unfold stepX at hq
    simp only [List.mem_cons, List.not_mem_nil, or_false] at hq
    rcases hq with rfl | rfl
    · exact ⟨by rw [sub1_len, h1], by omega⟩
    · exact ⟨by rw [sub1_len, h1], by omega⟩
theorem iter_len (p : List UInt8) : ∀ n, (iterX n [p]).length = 2 ^ n
  | 0 => rfl
  | n + 1 => by
    have hs : ∀ L : List (List UInt8), (L.flatMap stepX).length = 2 * L.length := by
      intro L
      induction L with
      | nil => rfl
      | cons q L ih => rw [List.flatMap_cons, List.length_append, ih]; simp [stepX]; omega
    rw [iterX, hs, iter_len p n, Nat.pow_succ]; omega
theorem pow_small {n : Nat} (h : n ≤ 10) : 2 ^ n ≤ 1024 := by
  have : 2 ^ n ≤ 2 ^ 10 := Nat.pow_le_pow_right (by decide) h
  omega
theorem flat_len (L : List (List UInt8)) : (L.flatMap stepX).length = 2 * L.length := by
  induction L with
  | nil => rfl
  | cons q L ih => rw [List.flatMap_cons, List.length_append, ih]; simp [stepX]; omega
/-- Where the first x stands. -/
theorem sub1_at (b : UInt8) : ∀ (q : List UInt8), 0 < q.count 120 → ∃ i : Nat, Lib.indexByte q 120 = (i : Int) ∧ i < q.length ∧ sub1 b q = q.take i ++ [b] ++ q.drop (i + 1)
  | [], h => by simp at h
  | c :: r, h => by
    by_cases hc : c = 120
    · subst hc
      exact ⟨0, by simp [Lib.indexByte], by simp, by simp [sub1]⟩
    · rw [List.count_cons_of_ne (by simpa using hc)] at h
      obtain ⟨i, h1, h2, h3⟩ := sub1_at b r h
      refine ⟨i + 1, ?_, by simp; exact h2, by simp [sub1, hc, h3]⟩
      unfold Lib.indexByte
      rw [if_neg (by simpa using hc), if_neg (by rw [h1]; simp), h1]; rfl
def tailX (c : UInt8) (o : List UInt8) : List (List UInt8) := if c = 120 then [o ++ [117], o ++ [45]] else [o ++ [c]]
theorem exp_snoc (l : List UInt8) (c : UInt8) : expL (l ++ [c]) = (expL l).flatMap (tailX c) := by
  have hm : ∀ (d : UInt8) (L : List (List UInt8)), (L.map (d :: ·)).flatMap (tailX c) = (L.flatMap (tailX c)).map (d :: ·) := by
    intro d L
    induction L with
    | nil => rfl
    | cons o L ih =>
      simp only [List.map_cons, List.flatMap_cons, List.map_append, ih]
      congr 1
      unfold tailX; split <;> simp
  induction l with
  | nil =>
    simp only [List.nil_append, expL, List.flatMap_cons, List.flatMap_nil, List.append_nil]
    unfold tailX; split <;> simp
  | cons d l ih =>
    simp only [List.cons_append, expL, ih]
    split
    · rw [List.flatMap_append, hm, hm]
    · rw [hm]
theorem exp_len (l : List UInt8) : (expL l).length = 2 ^ (l.count 120) := by rw [← iter_all, iter_len]
theorem exp_in (l : List UInt8) : ∀ q ∈ expL l, q.length = l.length := by
  intro q hq
  rw [← iter_all] at hq
  exact (iter_in l _ (Nat.le_refl _) q hq).1
def expandVal (l : List UInt8) : List (List UInt8) × Int := if pErr l = 0 then (if 10 < l.count 120 then ([], 3) else (expL l, 0)) else ([], pErr l)
theorem expand_err {l : List UInt8} {x : Int} (h : pErr l = x) (h0 : x ≠ 0) : expandVal l = ([], x) := by subst h; unfold expandVal; rw [if_neg h0]
theorem expand_big {l : List UInt8} (h : pErr l = 0) (h1 : 10 < l.count 120) : expandVal l = ([], 3) := by unfold expandVal; rw [if_pos h, if_pos h1]
theorem expand_ok {l : List UInt8} (h : pErr l = 0) (h1 : ¬ 10 < l.count 120) : expandVal l = (expL l, 0) := by unfold expandVal; rw [if_pos h, if_neg h1]
def toBA (l : List UInt8) : ByteArray := ⟨l.toArray⟩
theorem toBA_list (l : List UInt8) : (toBA l).data.toList = l := rfl
theorem toBA_inj {a b : List UInt8} (h : toBA a = toBA b) : a = b := by rw [← toBA_list a, h, toBA_list]
theorem toBA_of {o : ByteArray} {l : List UInt8} (h : o.data.toList = l) : o = toBA l := by subst h; rfl
end Go.Proofs.YtlkigmlgbnlkaaaDoor
