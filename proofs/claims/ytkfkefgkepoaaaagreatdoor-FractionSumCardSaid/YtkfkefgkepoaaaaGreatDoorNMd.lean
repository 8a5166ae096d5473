/- Contract of the reference's Made. -/
import Derived.Test.YtkfkefgkepoaaaaGreatDoorNWu
namespace Go.Proofs.YtkfkefgkepoaaaaGreatDoor
open Go.RowKit
set_option linter.unusedVariables false
set_option maxRecDepth 100000

/-- A slice of uint16 that reads as L. -/
def WordsIn (w : World) (A : Option Addr) (L : List Int) : Prop :=
  0 < L.length → ∃ b off, A = some ⟨b, off, none⟩ ∧ b < w.heap.size ∧ ∀ j, j < L.length → w.cell? ⟨b, off + j, none⟩ = some (.int .u16 (L.getD j 0))
theorem WordsIn.below {w w' : World} {A : Option Addr} {L : List Int} (h : WordsIn w A L) (hb : Below w.heap.size w w') : WordsIn w' A L := by
  intro h0
  obtain ⟨b, off, e, hlt, hc⟩ := h h0
  exact ⟨b, off, e, by have := hb.size; omega, fun j hj => (World.cell?_of_block (a := ⟨b, off + j, none⟩) (hb.block b hlt)).trans (hc j hj)⟩
/-- The digits that a list of words describes. -/
def wordD (L : List Int) : List Int := L.map (· % 10000)
theorem wordD_dig (L : List Int) : Dig (wordD L) := by
  intro x hx
  simp [wordD] at hx
  obtain ⟨y, _, rfl⟩ := hx
  omega
theorem wordD_step {L : List Int} {k : Nat} (h : k < L.length) : wordD (L.take (k + 1)) = wordD (L.take k) ++ [L.getD k 0 % 10000] := by
  unfold wordD
  rw [List.take_succ_eq_append_getElem h, getD_lt h, List.map_append]; rfl
theorem wordD_len (L : List Int) : (wordD L).length = L.length := by simp [wordD]
def MadePost (L : List Int) (W : World) (e : Ending) (w' : World) : Prop :=
  ∃ A c, e = .returned (.agg #[.slice A (digs (val (wordD L))).length c]) ∧ IntsIn w' A (digs (val (wordD L))) ∧ (digs (val (wordD L))).length ≤ c ∧ c ≤ maxLen ∧ Below W.heap.size W w'
def MadeSt (L : List Int) (W : World) (k : Nat) (v : Value) (w : World) : Prop :=
  w.ownsRow (W.heap.size + 1) 3 1 v k (ints (wordD (L.take k))) ∧ Below (W.heap.size + 1) (box1 W) w
theorem made_step {L : List Int} {W w w1 : World} {k : Nat} {v v' : Value} {o : Obj} (h : MadeSt L W k v w) (hk : k < L.length) (ho : w1.ownsRow (W.heap.size + 1) 3 1 v' (k + 1) (ints (wordD (L.take k)) ++ [.int .i64 (L.getD k 0 % 10000)])) (hg : (w.alloc o).grownBy w1 v.ownBlock) : MadeSt L W (k + 1) v' w1 := by
  obtain ⟨h1, h2⟩ := h
  have hs : W.heap.size + 1 ≤ w.heap.size := by have := h2.size; simpa using this
  refine ⟨?_, (h2.alloc hs o).grown hg (by simp; omega) (fun j hj => (h1.lt j hj).1)⟩
  rw [wordD_step hk]
  simpa [ints] using ho
theorem made_post {L : List Int} {W w : World} {A : Option Addr} {k c : Nat} (hk : k = (trimL (wordD L)).length) (hi : IntsIn w A (wordD L)) (hc : (wordD L).length ≤ c) (hm : c ≤ maxLen) (hb : Below (W.heap.size + 1) (box1 W) w) :
    MadePost L W (.returned (.agg #[.slice A k c])) (w.setCell ⟨W.heap.size, 0, none⟩ (.slice A k c)) := by
  obtain ⟨_, _, _, h6, h7⟩ := one1 hb
  have hi2 := hi.trim
  have hl := (trimL_prefix (wordD L)).2
  rw [trimL_digs (wordD_dig L)] at hi2 hk hl
  subst hk
  exact ⟨A, c, rfl, hi2.store (x := .slice none 0 0) h7, by omega, hm, h6.setCell (p := ⟨W.heap.size, 0, none⟩) (Nat.le_refl _) _⟩
end Go.Proofs.YtkfkefgkepoaaaaGreatDoor
