/- Plain mathematics of automata: the first word that leads to a pair that is wanted. Nothing here speaks of the program. -/
import Derived.Test.YtdkdfmflghbhiaaAMm
namespace Go.Proofs.Ytdkdfmflghbhiaa
set_option linter.unusedVariables false
section
variable {A B : Au} {k : Nat} {l : List (Int × Int)} {pa : List Nat} {nx : List Int}
theorem Rch2.pal (h : Rch2 A B k l pa nx) : pa.length = l.length := by
  rcases h.bfs with ⟨_, h1, h2⟩ | ⟨_, g⟩
  · rw [h1, h2]; rfl
  · exact g.len
theorem Rch2.par (h : Rch2 A B k l pa nx) {j p : Nat} (h0 : 0 < j) (hp : pa[j]? = some p) : p / k < j ∧ p < l.length * k := by
  have hj := (List.getElem?_eq_some_iff.1 hp).1
  rcases h.bfs with ⟨_, _, h2⟩ | ⟨_, g⟩
  · rw [h2] at hj; exact absurd hj (Nat.not_lt_zero _)
  · have := g.par j _ p h0 (List.getElem?_eq_getElem (by rw [← g.len]; exact hj)) hp
    exact ⟨this.1, this.2.1⟩
theorem Rch2.wd (h : Rch2 A B k l pa nx) (hk : 0 < k) {i : Nat} {p : Int × Int} (hx : l[i]? = some p) : ∃ v, Wd k pa i v ∧ Let k v := by
  rcases h.bfs with ⟨_, h1, _⟩ | ⟨_, g⟩
  · rw [h1] at hx; simp at hx
  · obtain ⟨u, a, b, _⟩ := g.word hk (i + 1) i p (by omega) hx
    exact ⟨u, a, b⟩
theorem Rch2.wd_len (h : Rch2 A B k l pa nx) {i : Nat} {v : List Nat} (hw : Wd k pa i v) : v.length ≤ i := by
  induction hw with
  | zero => exact Nat.le_refl _
  | step j p u h0 hp _ ih =>
    have := (h.par h0 hp).1
    rw [List.length_append]
    simp
    omega
theorem wd_zero {v : List Nat} (h : Wd k pa 0 v) : v = [] := by
  cases h with
  | zero => rfl
  | step j p u h0 => omega
theorem wd_step {j : Nat} {v : List Nat} (h : Wd k pa j v) (h0 : 0 < j) : ∃ p u, pa[j]? = some p ∧ v = u ++ [p % k] ∧ Wd k pa (p / k) u := by
  cases h with
  | zero => omega
  | step j p u _ hp hw => exact ⟨p, u, hp, rfl, hw⟩
theorem Rch2.none_want (h : Rch2 A B k l pa nx) (hk : 0 < k) {f : Int × Int → Bool} (h0 : f (-1, -1) = false) (hn : ∀ p ∈ l, f p = false) (u : List Nat) (hu : Let k u) : f (A.run A.st u, B.run B.st u) = false := by
  have e := fold2 (A := A) (B := B) u (A.st, B.st)
  rw [show (A.run A.st u, B.run B.st u) = u.foldl (sc2 A B) (A.st, B.st) from e.symm]
  by_cases hno : no2 (u.foldl (sc2 A B) (A.st, B.st))
  · unfold no2 at hno; rw [hno]; exact h0
  · rcases h.bfs with ⟨h1, _, _⟩ | ⟨_, g⟩
    · exfalso
      apply hno
      have : ∀ (u : List Nat) (x : Int × Int), no2 x → no2 (u.foldl (sc2 A B) x) := by
        intro u
        induction u with
        | nil => exact fun x hx => hx
        | cons c u ih => exact fun x hx => ih _ (sc2_no c hx)
      exact this u _ h1
    · obtain ⟨j, v, hj, _, _⟩ := g.least hk (Nat.le_refl _) (fun y c _ hy => sc2_no c hy) u hu hno
      exact hn _ (List.mem_of_getElem? hj)
theorem Rch2.some_want (h : Rch2 A B k l pa nx) (hk : 0 < k) {f : Int × Int → Bool} (h0 : f (-1, -1) = false) {i : Nat} {p : Int × Int} {v : List Nat} (hx : l[i]? = some p) (hf : f p = true) (hmin : ∀ (j : Nat) q, j < i → l[j]? = some q → f q = false) (hv : Wd k pa i v) :
    Least k (fun u => f (A.run A.st u, B.run B.st u) = true) v := by
  rcases h.bfs with ⟨_, h1, _⟩ | ⟨_, g⟩
  · rw [h1] at hx; simp at hx
  · have := g.first_word hk (Nat.le_refl _) (fun y c _ hy => sc2_no c hy) (want := fun p => f p = true) (fun x hx hno => by unfold no2 at hno; rw [hno, h0] at hx; cases hx) hx hf (fun j y hj hy e => by rw [hmin j y hj hy] at e; cases e) hv
    exact this.congr fun u hu => by rw [fold2]
end
/-- What a search for the first word finds. -/
inductive Fw (k : Nat) (P : List Nat → Bool) : Option (List Nat) → Prop
  | no : (∀ u, Let k u → P u = false) → Fw k P none
  | yes (u : List Nat) : Least k (fun u => P u = true) u → Fw k P (some u)
theorem Fw.uniq {k : Nat} {P : List Nat → Bool} {a b : Option (List Nat)} (h : Fw k P a) (g : Fw k P b) : a = b := by
  cases h with
  | no h =>
    cases g with
    | no _ => rfl
    | yes u g => have := h u g.1; rw [g.2.1] at this; cases this
  | yes u h =>
    cases g with
    | no g => have := g u h.1; rw [h.2.1] at this; cases this
    | yes v g => rw [h.uniq g]
theorem Fw.congr {k : Nat} {P Q : List Nat → Bool} {a : Option (List Nat)} (h : Fw k P a) (e : ∀ u, Let k u → P u = Q u) : Fw k Q a := by
  cases h with
  | no h => exact .no fun u hu => by rw [← e u hu]; exact h u hu
  | yes u h => exact .yes u (h.congr fun v hv => by rw [e v hv])
end Go.Proofs.Ytdkdfmflghbhiaa
