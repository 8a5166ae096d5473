/- Several texts in one: UM. -/
import Derived.WalkKit
import Derived.Shelf.Small.Strs
import Derived.Lib.Bytealg
import Derived.Lib.Strings
import Derived.Lib.Small
namespace Go.Proofs.YtjamfcihjendiaaGreat
set_option linter.unusedVariables false
set_option linter.unusedSimpArgs false

theorem sizeB (s : ByteArray) : s.data.toList.length = s.size := rfl
theorem getB (s : ByteArray) (k : Nat) (h : k < s.size) : s[k] = s.data.toList[k]'(by simpa using h) := rfl
theorem takeS {s : ByteArray} {k : Nat} (h : k < s.size) : s.data.toList.take (k + 1) = s.data.toList.take k ++ [s[k]] :=
  List.take_succ_eq_append_getElem (by rw [sizeB]; exact h)
theorem takeAll {s : ByteArray} {k : Nat} (h : s.size ≤ k) : s.data.toList.take k = s.data.toList :=
  List.take_of_length_le (by rw [sizeB]; exact h)
theorem dropS {s : ByteArray} {k : Nat} (h : k < s.size) : s.data.toList.drop k = s[k] :: s.data.toList.drop (k + 1) :=
  List.drop_eq_getElem_cons (by rw [sizeB]; exact h)
theorem dropE {s : ByteArray} {k : Nat} (h : s.size ≤ k) : s.data.toList.drop k = [] := List.drop_eq_nil_of_le (by rw [sizeB]; exact h)
theorem of_list {o : ByteArray} {l : List UInt8} (h : o.data.toList = l) : o = ⟨l.toArray⟩ := by
  subst h; rfl
theorem cat_any (o x : ByteArray) : (o ++ x).data.toList = o.data.toList ++ x.data.toList := by simp
theorem byte_eq {c d : UInt8} (h : (c.toNat : Int) = (d.toNat : Int)) : c = d := UInt8.toNat_inj.1 (by omega)
theorem byte_is {c : UInt8} {n : Nat} (h : (c.toNat : Int) = (n : Int)) (hn : n < 256) : c = n.toUInt8 := UInt8.toNat_inj.1 (by simp; omega)
theorem byte_ne {c : UInt8} {n : Nat} (h : ¬ (c.toNat : Int) = (n : Int)) (hn : n < 256) : c ≠ n.toUInt8 := by
  rintro rfl; exact h (by simp; omega)
def bs (l : List UInt8) : ByteArray := ⟨l.toArray⟩
theorem bs_list (l : List UInt8) : (bs l).data.toList = l := rfl
theorem bs_of {o : ByteArray} {l : List UInt8} (h : o.data.toList = l) : o = bs l := of_list h
theorem bs_size (l : List UInt8) : (bs l).size = l.length := rfl
theorem ext_drop (s : ByteArray) (k : Nat) : (s.extract k s.size).data.toList = s.data.toList.drop k := by
  rw [ByteArray.data_extract, Array.toList_extract, List.extract_eq_take_drop]
  exact List.take_of_length_le (by rw [List.length_drop, sizeB]; omega)
theorem ext_take (s : ByteArray) (k : Nat) : (s.extract 0 k).data.toList = s.data.toList.take k := by
  rw [ByteArray.data_extract, Array.toList_extract, List.extract_eq_take_drop, List.drop_zero, Nat.sub_zero]
theorem ext_mid (s : ByteArray) (a b : Nat) : (s.extract a b).data.toList = (s.data.toList.drop a).take (b - a) := by
  rw [ByteArray.data_extract, Array.toList_extract, List.extract_eq_take_drop]
theorem ext_size (s : ByteArray) (k : Nat) (h : k ≤ s.size) : (s.extract k s.size).size = s.size - k := by rw [ByteArray.size_extract]; omega
def mkI (n : Int) : Bool := (decide (97 ≤ n) && decide (n ≤ 122)) || ((decide (48 ≤ n) && decide (n ≤ 57)) || (n == 95 || (n == 94 || n == 39)))
def isMk (c : UInt8) : Bool := mkI (c.toNat : Int)

section
variable {α : Type}
def stepG (p : α → Bool) (d : List (List α) × List α) (x : α) : List (List α) × List α := if p x then (d.1 ++ [d.2], []) else (d.1, d.2 ++ [x])
def splS (p : α → Bool) (l : List α) : List (List α) × List α := l.foldl (stepG p) ([], [])
def splL (p : α → Bool) (l : List α) : List (List α) := (splS p l).1 ++ [(splS p l).2]
def spl (p : α → Bool) : List α → List α × List (List α)
  | [] => ([], [])
  | x :: r => if p x then ([], (spl p r).1 :: (spl p r).2) else (x :: (spl p r).1, (spl p r).2)
theorem splS_snoc (p : α → Bool) (l : List α) (x : α) : splS p (l ++ [x]) = stepG p (splS p l) x := by simp [splS, List.foldl_append]
theorem foldG_gen (p : α → Bool) : ∀ (l : List α) (D : List (List α)) (u : List α), l.foldl (stepG p) (D, u) = (D ++ (l.foldl (stepG p) ([], u)).1, (l.foldl (stepG p) ([], u)).2)
  | [], D, u => by simp
  | x :: r, D, u => by
    simp only [List.foldl_cons, stepG]
    by_cases h : p x = true
    · simp only [h, if_true, List.nil_append]
      rw [foldG_gen p r (D ++ [u]) [], foldG_gen p r [u] []]; simp
    · simp only [h, Bool.false_eq_true, if_false]
      rw [foldG_gen p r D (u ++ [x])]
theorem fold_spl (p : α → Bool) : ∀ (l u : List α), (l.foldl (stepG p) ([], u)).1 ++ [(l.foldl (stepG p) ([], u)).2] = (u ++ (spl p l).1) :: (spl p l).2
  | [], u => by simp [spl]
  | x :: r, u => by
    simp only [List.foldl_cons, stepG, spl]
    by_cases h : p x = true
    · simp only [h, if_true, List.nil_append]
      rw [foldG_gen p r [u] []]
      have := fold_spl p r []
      simp only [List.nil_append] at this
      simp [this]
    · simp only [h, Bool.false_eq_true, if_false]
      rw [fold_spl p r (u ++ [x])]; simp
theorem splL_spl (p : α → Bool) (l : List α) : splL p l = (spl p l).1 :: (spl p l).2 := by
  have := fold_spl p l []
  rwa [List.nil_append] at this
theorem splL_cat (p : α → Bool) (a b : List α) : splL p (a ++ b) = (splS p a).1 ++ ((splS p a).2 ++ (spl p b).1) :: (spl p b).2 := by
  have h := foldG_gen p b (splS p a).1 (splS p a).2
  unfold splL splS
  rw [List.foldl_append]
  unfold splS at h
  rw [h, List.append_assoc, fold_spl]
theorem spl_len (p : α → Bool) : ∀ l : List α, (spl p l).2.length = l.countP p
  | [] => rfl
  | x :: r => by
    rw [spl]
    by_cases h : p x = true
    · rw [if_pos h, List.countP_cons_of_pos h, List.length_cons, spl_len p r]
    · rw [if_neg h, List.countP_cons_of_neg h, spl_len p r]
theorem splL_len (p : α → Bool) (l : List α) : (splL p l).length = l.countP p + 1 := by rw [splL_spl, List.length_cons, spl_len]
theorem splL_none {p : α → Bool} {l : List α} (h : ∀ c ∈ l, p c = false) : splL p l = [l] := by
  rw [splL_spl]
  induction l with
  | nil => rfl
  | cons c r ih =>
    have ih := ih (fun d hd => h d (List.mem_cons_of_mem _ hd))
    rw [spl, if_neg (by rw [h c List.mem_cons_self]; simp)]
    injection ih with h1 h2
    rw [h1, h2]
theorem splL_cut {p : α → Bool} {a r : List α} {x : α} (h : ∀ c ∈ a, p c = false) (hx : p x = true) : splL p (a ++ x :: r) = a :: splL p r := by
  rw [splL_spl, splL_spl]
  induction a with
  | nil => rw [List.nil_append, spl, if_pos hx]
  | cons c r ih =>
    have ih := ih (fun d hd => h d (List.mem_cons_of_mem _ hd))
    rw [List.cons_append, spl, if_neg (by rw [h c List.mem_cons_self]; simp)]
    injection ih with h1 h2
    rw [h1, h2]
theorem spl_size (p : α → Bool) {l : List α} {u : List α} (h : u ∈ splL p l) : u.length ≤ l.length := by
  rw [splL_spl] at h
  induction l generalizing u with
  | nil => have : u = [] := by simpa [spl] using h
           subst this; simp
  | cons x r ih =>
    rw [spl] at h
    by_cases hx : p x = true
    · rw [if_pos hx] at h
      rcases List.mem_cons.1 h with e | h
      · subst e; simp
      · have := ih h; rw [List.length_cons]; omega
    · rw [if_neg hx] at h
      rcases List.mem_cons.1 h with e | h
      · subst e; have := ih List.mem_cons_self; simpa using this
      · have := ih (List.mem_cons_of_mem _ h); rw [List.length_cons]; omega
def jn (c : α) : List (List α) → List α
  | [] => []
  | [x] => x
  | x :: y :: r => x ++ c :: jn c (y :: r)
theorem jn_two (c : α) (x y : List α) (r : List (List α)) : jn c (x :: y :: r) = x ++ c :: jn c (y :: r) := rfl
theorem jn_cons (c : α) (x : List α) {r : List (List α)} (h : r ≠ []) : jn c (x :: r) = x ++ c :: jn c r := by
  cases r with
  | nil => exact absurd rfl h
  | cons y r => rfl
theorem jn_cat (c : α) : ∀ (L M : List (List α)), L ≠ [] → M ≠ [] → jn c (L ++ M) = jn c L ++ c :: jn c M
  | [], _, h, _ => absurd rfl h
  | [a], M, _, h => by rw [List.singleton_append, jn_cons c a h]; rfl
  | a :: b :: r, M, _, h => by
    have ih := jn_cat c (b :: r) M (by simp) h
    rw [List.cons_append, List.cons_append, jn_two, jn_two, ← List.cons_append, ih]; simp
theorem split_jn (p : α → Bool) (c : α) (hc : p c = true) : ∀ (L : List (List α)), L ≠ [] → (∀ u ∈ L, ∀ x ∈ u, p x = false) → splL p (jn c L) = L
  | [], h, _ => absurd rfl h
  | [a], _, h => splL_none (h a (by simp))
  | a :: b :: r, _, h => by
    rw [jn_two, splL_cut (h a (by simp)) hc, split_jn p c hc (b :: r) (by simp) (fun u hu => h u (List.mem_cons_of_mem _ hu))]
theorem jn_len (c : α) (m : Nat) : ∀ (L : List (List α)), (∀ u ∈ L, u.length ≤ m) → (jn c L).length ≤ L.length * (m + 1)
  | [], _ => by simp [jn]
  | [a], h => by have := h a (by simp); show a.length ≤ 1 * (m + 1); omega
  | a :: b :: r, h => by
    have ih := jn_len c m (b :: r) (fun u hu => h u (List.mem_cons_of_mem _ hu))
    have := h a (by simp)
    rw [jn_two, List.length_append, List.length_cons]
    rw [show (a :: b :: r).length = (b :: r).length + 1 from rfl, Nat.add_mul]; omega
end
def isSp (c : UInt8) : Bool := c == 32

structure Snd where
  k : Int
  q : Int
  t : List UInt8
def nuc (x : Snd) : Bool := x.k == 1 || x.k == 2
def qOk (k q : Int) : Bool := if k = 1 then decide (1 ≤ q) && decide (q ≤ 3) else if k = 2 then q == 2 else q == 0
def vS (x : Snd) : Int := if x.k < 1 ∨ 9 < x.k then 1 else if qOk x.k x.q = false then 6 else if x.t.length = 0 then 7 else if 8 < x.t.length then 3 else if x.t.all isMk = true then 0 else 2
theorem vS_inv {x : Snd} (h : x.k < 1 ∨ 9 < x.k) : vS x = 1 := by unfold vS; rw [if_pos h]
theorem vS_range {x : Snd} (h : ¬ (x.k < 1 ∨ 9 < x.k)) (h1 : qOk x.k x.q = false) : vS x = 6 := by unfold vS; rw [if_neg h, if_pos h1]
theorem vS_empty {x : Snd} (h : ¬ (x.k < 1 ∨ 9 < x.k)) (h1 : qOk x.k x.q = true) (h2 : x.t.length = 0) : vS x = 7 := by unfold vS; rw [if_neg h, if_neg (by simp [h1]), if_pos h2]
theorem vS_large {x : Snd} (h : ¬ (x.k < 1 ∨ 9 < x.k)) (h1 : qOk x.k x.q = true) (h2 : 8 < x.t.length) : vS x = 3 := by unfold vS; rw [if_neg h, if_neg (by simp [h1]), if_neg (by omega), if_pos h2]
theorem vS_syn {x : Snd} (h : ¬ (x.k < 1 ∨ 9 < x.k)) (h1 : qOk x.k x.q = true) (h2 : ¬ x.t.length = 0) (h3 : ¬ 8 < x.t.length) (h4 : x.t.all isMk = false) : vS x = 2 := by unfold vS; rw [if_neg h, if_neg (by simp [h1]), if_neg h2, if_neg h3, if_neg (by simp [h4])]
theorem vS_ok {x : Snd} (h : ¬ (x.k < 1 ∨ 9 < x.k)) (h1 : qOk x.k x.q = true) (h2 : ¬ x.t.length = 0) (h3 : ¬ 8 < x.t.length) (h4 : x.t.all isMk = true) : vS x = 0 := by unfold vS; rw [if_neg h, if_neg (by simp [h1]), if_neg h2, if_neg h3, if_pos h4]
theorem vS_zero {x : Snd} (h : vS x = 0) : (1 ≤ x.k ∧ x.k ≤ 9) ∧ qOk x.k x.q = true ∧ 0 < x.t.length ∧ x.t.length ≤ 8 ∧ x.t.all isMk = true := by
  unfold vS at h
  split at h
  · cases h
  · split at h
    · cases h
    · split at h
      · cases h
      · split at h
        · cases h
        · split at h
          · refine ⟨by omega, by simp_all, by omega, by omega, by assumption⟩
          · cases h
def btS (x : Snd) : Nat := (if 3 ≤ x.k ∧ x.k ≤ 8 then 1 else 0) + (if x.k = 7 then 1 else 0)
def btL (L : List Snd) : Nat := (L.map btS).sum
theorem btS_le (x : Snd) : btS x ≤ 2 := by unfold btS; split <;> split <;> omega
theorem btL_le (L : List Snd) : btL L ≤ L.length * 2 := by
  induction L with
  | nil => simp [btL]
  | cons x r ih => have := btS_le x; have e : btL (x :: r) = btS x + btL r := by simp [btL]
                   rw [e, List.length_cons]; omega
def cmpS (x y : Snd) : Int := if Lib.compareInt x.k y.k ≠ 0 then Lib.compareInt x.k y.k else if Lib.compareInt x.q y.q ≠ 0 then Lib.compareInt x.q y.q else Lib.compareBytes x.t y.t
theorem cmpI_cases (a b : Int) : (Lib.compareInt a b = -1 ∧ a < b) ∨ (Lib.compareInt a b = 0 ∧ a = b) ∨ (Lib.compareInt a b = 1 ∧ b < a) := by
  unfold Lib.compareInt
  by_cases h1 : a < b
  · rw [if_pos h1]; exact Or.inl ⟨rfl, h1⟩
  · by_cases h2 : a > b
    · rw [if_neg h1, if_pos h2]; exact Or.inr (Or.inr ⟨rfl, h2⟩)
    · rw [if_neg h1, if_neg h2]; exact Or.inr (Or.inl ⟨rfl, by omega⟩)
theorem cmpB_rng : ∀ (a b : List UInt8), Lib.compareBytes a b = -1 ∨ Lib.compareBytes a b = 0 ∨ Lib.compareBytes a b = 1
  | [], [] => by simp [Lib.compareBytes]
  | [], _ :: _ => by simp [Lib.compareBytes]
  | _ :: _, [] => by simp [Lib.compareBytes]
  | x :: a, y :: b => by
    unfold Lib.compareBytes
    split
    · simp
    · split
      · simp
      · exact cmpB_rng a b
theorem u8_tri (x y : UInt8) : x < y ∨ x = y ∨ y < x := by
  rcases Nat.lt_trichotomy x.toNat y.toNat with h | h | h
  · exact Or.inl h
  · exact Or.inr (Or.inl (UInt8.toNat_inj.1 h))
  · exact Or.inr (Or.inr h)
theorem cmpB_zero : ∀ {a b : List UInt8}, Lib.compareBytes a b = 0 ↔ a = b
  | [], [] => by simp [Lib.compareBytes]
  | [], _ :: _ => by simp [Lib.compareBytes]
  | _ :: _, [] => by simp [Lib.compareBytes]
  | x :: a, y :: b => by
    have ih := @cmpB_zero a b
    unfold Lib.compareBytes
    rcases u8_tri x y with h | h | h
    · rw [if_pos h]
      constructor
      · intro e; cases e
      · intro e; injection e with e1; subst e1; exact absurd h (UInt8.lt_irrefl x)
    · subst h
      rw [if_neg (UInt8.lt_irrefl x), if_neg (UInt8.lt_irrefl x), ih]; simp
    · have h2 : ¬ x < y := fun g => absurd (show x.toNat < y.toNat from g) (by have : y.toNat < x.toNat := h; omega)
      rw [if_neg h2, if_pos h]
      constructor
      · intro e; cases e
      · intro e; injection e with e1; subst e1; exact absurd h (UInt8.lt_irrefl x)
theorem less_cmp : ∀ (a b : List UInt8), Op.bytesLess a b = decide (Lib.compareBytes a b = -1)
  | [], [] => by simp [Lib.compareBytes, Op.bytesLess]
  | [], _ :: _ => by simp [Lib.compareBytes, Op.bytesLess]
  | _ :: _, [] => by simp [Lib.compareBytes, Op.bytesLess]
  | x :: a, y :: b => by
    have ih := less_cmp a b
    have nl : ∀ {u v : UInt8}, v < u → ¬ u < v := fun {u v} h g => absurd (show u.toNat < v.toNat from g) (by have : v.toNat < u.toNat := h; omega)
    unfold Lib.compareBytes Op.bytesLess
    rcases u8_tri x y with h | h | h
    · rw [if_pos h, decide_eq_true h]; rfl
    · subst h
      rw [if_neg (UInt8.lt_irrefl x), if_neg (UInt8.lt_irrefl x), ← ih]
      simp
    · rw [if_neg (nl h), if_pos h, decide_eq_false (nl h)]
      have : (x == y) = false := by rw [beq_eq_false_iff_ne]; intro e; subst e; exact absurd h (UInt8.lt_irrefl x)
      rw [this]; rfl
theorem Snd.eq {x y : Snd} (h1 : x.k = y.k) (h2 : x.q = y.q) (h3 : x.t = y.t) : x = y := by cases x; cases y; simp_all
theorem cmpS_zero {x y : Snd} : cmpS x y = 0 ↔ x = y := by
  unfold cmpS
  rcases cmpI_cases x.k y.k with ⟨h, g⟩ | ⟨h, g⟩ | ⟨h, g⟩ <;> rw [h]
  · simp; intro e; subst e; exact absurd g (by omega)
  · rcases cmpI_cases x.q y.q with ⟨h2, g2⟩ | ⟨h2, g2⟩ | ⟨h2, g2⟩ <;> rw [h2]
    · simp; intro e; subst e; exact absurd g2 (by omega)
    · simp only [ne_eq, not_true_eq_false, if_false]
      rw [cmpB_zero]
      exact ⟨fun e => Snd.eq g g2 e, fun e => by rw [e]⟩
    · simp; intro e; subst e; exact absurd g2 (by omega)
  · simp; intro e; subst e; exact absurd g (by omega)
def sameL : List Snd → List Snd → Bool
  | [], [] => true
  | x :: r, y :: s => cmpS x y == 0 && sameL r s
  | _, _ => false
theorem sameL_is : ∀ {a b : List Snd}, sameL a b = true ↔ a = b
  | [], [] => by simp [sameL]
  | [], y :: s => by simp [sameL]
  | x :: r, [] => by simp [sameL]
  | x :: r, y :: s => by
    have ih := @sameL_is r s
    simp only [sameL, Bool.and_eq_true, ih, beq_iff_eq, cmpS_zero, List.cons.injEq]
end Go.Proofs.YtjamfcihjendiaaGreat
