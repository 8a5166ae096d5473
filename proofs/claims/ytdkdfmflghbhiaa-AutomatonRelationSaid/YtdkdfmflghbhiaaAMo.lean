/- Plain mathematics of automata: products, as places and as words. Nothing here speaks of the program. -/
import Derived.Test.YtdkdfmflghbhiaaAMn
namespace Go.Proofs.Ytdkdfmflghbhiaa
set_option linter.unusedVariables false
/-- What a product accepts. -/
def combF (kind : Int) (a b : Bool) : Bool := if kind = 1 then a && b else if kind = 2 then a || b else a && !b
theorem combF_no (kind : Int) : combF kind false false = false := by unfold combF; split <;> (try split) <;> rfl
section
variable {A B : Au} {k : Nat} {l : List (Int × Int)} {pa : List Nat} {nx : List Int}
theorem Rch2.few (h : Rch2 A B k l pa nx) (hA : A.n ≤ 1000) (hB : B.n ≤ 1000) : l.length ≤ 1002001 := by
  have : l.length ≤ (A.n + 1) * (B.n + 1) := by
    rcases h.bfs with ⟨_, h1, _⟩ | ⟨_, g⟩
    · rw [h1]; exact Nat.zero_le _
    · exact few2 h.inl g.nd
  have h2 := Nat.mul_le_mul (show A.n + 1 ≤ 1001 by omega) (show B.n + 1 ≤ 1001 by omega)
  omega
theorem Rch2.nxok (h : Rch2 A B k l pa nx) (hk : 0 < k) : NxOk l.length k nx := by
  refine ⟨h.len, fun x hx => ?_⟩
  obtain ⟨pos, hp⟩ := List.mem_iff_getElem?.1 hx
  have hlt := (List.getElem?_eq_some_iff.1 hp).1
  rw [h.len] at hlt
  have hq : pos / k < l.length := (Nat.div_lt_iff_lt_mul hk).2 hlt
  rcases h.nxs pos _ x hp (List.getElem?_eq_getElem hq) with ⟨_, e⟩ | ⟨j, hj, e⟩
  · rw [e]; omega
  · have := (List.getElem?_eq_some_iff.1 hj).1
    rw [e]; omega
theorem Rch2.bfs0 (h : Rch2 A B k l pa nx) (hk : 0 < k) (h0 : 0 < l.length) : ∃ pa, Bfs (gq (nxF nx k)) (fun q => q = -1) k (0 : Int) ((List.range l.length).map Int.ofNat) pa (l.length * k) := by
  rcases h.bfs with ⟨_, h1, _⟩ | ⟨hs, _⟩
  · rw [h1] at h0; simp at h0
  · exact ⟨_, h.bfsI hs hk⟩
/-- The words of a product. -/
theorem Rch2.prod (h : Rch2 A B k l pa nx) {f : Int × Int → Bool} (h0 : f (-1, -1) = false) {acs : List Bool} (hl : acs.length = l.length) (ha : ∀ (j : Nat) x, l[j]? = some x → acs.getD j false = f x) (u : List Nat) (hu : Let k u) :
    aq (acF acs) (u.foldl (gq (nxF nx k)) 0) = f (A.run A.st u, B.run B.st u) := by
  have := h.words h0 ha u hu
  rw [fold2] at this
  by_cases e : l.length = 0
  · rw [if_pos e] at this
    rw [fold_neg, aq_neg (by decide)] at this
    rw [← this]
    have : ∀ q, aq (acF acs) q = false := fun q => by
      unfold aq acF
      rw [List.getD_eq_getElem?_getD, List.getElem?_eq_none (by omega)]
      simp
    exact this _
  · rw [if_neg e] at this
    exact this
end
end Go.Proofs.Ytdkdfmflghbhiaa
