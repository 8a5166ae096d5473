/- Plain mathematics of the stable sort of the library: blocks. Nothing here speaks of the program. -/
import Derived.Test.YtdoobdfanalnbaaDAk
namespace Go.Proofs.Ytdoobdfanalnbaa
set_option linter.unusedVariables false
set_option linter.unusedSimpArgs false

/-- Each block of this size is sorted, and has the elements of the same block of another list. -/
def PInv (key : Int → Int) (bs : Nat) (P0 P : List Int) : Prop := P.length = P0.length ∧ ∀ k, ((P.drop (k * bs)).take bs).Pairwise (RL key) ∧ ((P.drop (k * bs)).take bs).Perm ((P0.drop (k * bs)).take bs)
theorem PInv.nil (key : Int → Int) (bs : Nat) : PInv key bs [] [] := ⟨rfl, fun k => by simp⟩
theorem PInv.snoc {key : Int → Int} {bs k : Nat} {P0 P X Z : List Int} (h : PInv key bs P0 P) (hl : P.length = k * bs) (hz : Z.Perm X) (hs : Z.Pairwise (RL key)) (hx : X.length ≤ bs) : PInv key bs (P0 ++ X) (P ++ Z) := by
  have hzl := hz.length_eq
  have h0 : P0.length = k * bs := by rw [← h.1, hl]
  refine ⟨by rw [List.length_append, List.length_append, h.1, hzl], fun j => ?_⟩
  rcases Nat.lt_trichotomy j k with hj | hj | hj
  · have e : j * bs + bs ≤ k * bs := by
      have := Nat.mul_le_mul_right bs (show j + 1 ≤ k from hj)
      rwa [Nat.succ_mul] at this
    have g : ∀ (A B : List Int), A.length = k * bs → ((A ++ B).drop (j * bs)).take bs = (A.drop (j * bs)).take bs := fun A B hA => by
      rw [List.drop_append_of_le_length (by omega), List.take_append_of_le_length (by rw [List.length_drop]; omega)]
    rw [g P Z hl, g P0 X h0]
    exact h.2 j
  · subst hj
    have g : ∀ (A B : List Int), A.length = j * bs → B.length ≤ bs → ((A ++ B).drop (j * bs)).take bs = B := fun A B hA hB => by
      rw [← hA, List.drop_left, List.take_of_length_le hB]
    rw [g P Z hl (by omega), g P0 X h0 hx]
    exact ⟨hs, hz⟩
  · have e : k * bs + bs ≤ j * bs := by
      have := Nat.mul_le_mul_right bs (show k + 1 ≤ j from hj)
      rwa [Nat.succ_mul] at this
    rw [List.drop_of_length_le (by rw [List.length_append]; omega), List.drop_of_length_le (by rw [List.length_append]; omega)]
    simp
theorem PInv.block {key : Int → Int} {bs : Nat} {P0 P : List Int} (h : PInv key bs P0 P) : (P.take bs).Pairwise (RL key) ∧ (P.take bs).Perm (P0.take bs) := by
  have := h.2 0
  rwa [Nat.zero_mul, List.drop_zero, List.drop_zero] at this
theorem PInv.tail {key : Int → Int} {bs : Nat} {P0 P : List Int} (h : PInv key bs P0 P) : PInv key bs (P0.drop bs) (P.drop bs) := by
  refine ⟨by rw [List.length_drop, List.length_drop, h.1], fun k => ?_⟩
  rw [List.drop_drop, List.drop_drop, show bs + k * bs = (k + 1) * bs by rw [Nat.succ_mul]; omega]
  exact h.2 (k + 1)
/-- The blocks are one block. -/
theorem PInv.all {key : Int → Int} {bs : Nat} {P0 P : List Int} (h : PInv key bs P0 P) (hb : P.length ≤ bs) : P.Pairwise (RL key) ∧ P.Perm P0 := by
  have := h.block
  rwa [List.take_of_length_le hb, List.take_of_length_le (by rw [← h.1]; exact hb)] at this
/-- Two blocks at the head, of a list that ascends. -/
theorem PInv.two {key : Int → Int} {bs : Nat} {P0 P X Y : List Int} (h : PInv key bs P0 P) (ha : P0.Pairwise (· < ·)) (hX : X = P.take bs) (hY : Y = (P.drop bs).take bs) :
    X.Pairwise (RL key) ∧ Y.Pairwise (RL key) ∧ (∀ x ∈ X, ∀ y ∈ Y, x < y) ∧ (X ++ Y).Perm (P0.take (bs + bs)) := by
  have h1 := h.block
  have h2 := h.tail.block
  subst hX hY
  refine ⟨h1.1, h2.1, fun x hx y hy => ?_, ?_⟩
  · have x1 := h1.2.mem_iff.1 hx
    have y1 := List.mem_of_mem_take (h2.2.mem_iff.1 hy)
    rw [← List.take_append_drop bs P0] at ha
    exact (List.pairwise_append.1 ha).2.2 x x1 y y1
  · have e : P0.take (bs + bs) = P0.take bs ++ (P0.drop bs).take bs := List.take_add
    rw [e]
    exact h1.2.append h2.2
end Go.Proofs.Ytdoobdfanalnbaa
