/- What a region leaves that calls a function on two copies. -/
import Derived.Test.YtkfkefgkepoaaaaGreatDoorNLive
import Derived.Deep.DeepCutAuto
namespace Go.Proofs.YtkfkefgkepoaaaaGreatDoor
open Go.RowKit
set_option linter.unusedVariables false
set_option maxRecDepth 100000

/-- What a region leaves that calls a function on two copies. -/
def RegP (r : Int × Int) (w2 : World) (s5 s6 : Value) (w : World) : Prop :=
  ∃ g A c n, s5 = .pointer (some ⟨g, 0, none⟩) ∧ s6 = .int .i64 r.2 ∧ n = (digs r.1).length ∧ g < w.heap.size ∧ w.cell? ⟨g, 0, none⟩ = some (.slice A n c) ∧ IntsIn w A (digs r.1) ∧ n ≤ c ∧ c ≤ maxLen ∧ Below w2.heap.size w2 w
def KeptAt (g : Nat) (w : World) : Prop := w.heap[g]? = some (.cells #[.slice none 0 0] 30 (0, 0))
theorem KeptAt.facts {g : Nat} {w : World} (h : KeptAt g w) : w.cell? ⟨g, 0, none⟩ = some (.slice none 0 0) ∧ w.frozen? ⟨g, 0, none⟩ = false := by
  unfold KeptAt at h
  refine ⟨?_, ?_⟩
  · rw [cell_of_row w _ 0 _ _ _ h]; rfl
  · simp [World.frozen?, h]
theorem kept_new {w w' : World} (hb : Below (w.alloc (.cells #[.slice none 0 0] 30)).heap.size (w.alloc (.cells #[.slice none 0 0] 30)) w') : KeptAt w.heap.size w' ∧ w'.cell? ⟨w.heap.size, 0, none⟩ = some (.slice none 0 0) ∧ w'.frozen? ⟨w.heap.size, 0, none⟩ = false ∧ w.heap.size < w'.heap.size := by
  have h : KeptAt w.heap.size w' := by
    unfold KeptAt
    rw [hb.block _ (by simp)]; exact heap_alloc_new w _
  have := hb.size
  simp at this
  exact ⟨h, h.facts.1, h.facts.2, by omega⟩
theorem kept_newd {w w' : World} (hb : Below (w.alloc (.cells #[.slice none 0 0] 30)).drew.heap.size (w.alloc (.cells #[.slice none 0 0] 30)).drew w') : KeptAt w.heap.size w' ∧ w'.cell? ⟨w.heap.size, 0, none⟩ = some (.slice none 0 0) ∧ w'.frozen? ⟨w.heap.size, 0, none⟩ = false ∧ w.heap.size < w'.heap.size :=
  kept_new (btwo (Below.refl _ _).drew hb)
theorem kept_old {w w' : World} {g : Nat} (h : KeptAt g w) (hs : g < w.heap.size) (hb : Below w.heap.size w w') : KeptAt g w' ∧ w'.cell? ⟨g, 0, none⟩ = some (.slice none 0 0) ∧ w'.frozen? ⟨g, 0, none⟩ = false ∧ g < w'.heap.size := by
  have h2 : KeptAt g w' := by
    unfold KeptAt
    rw [hb.block _ hs]; exact h
  have := hb.size
  exact ⟨h2, h2.facts.1, h2.facts.2, by omega⟩
theorem reg_old {r : Int × Int} {w2 w : World} {g n c : Nat} {A : Option Addr} (h : KeptAt g w) (hg : w2.heap.size ≤ g) (hs : g < w.heap.size) (hn : n = (digs r.1).length) (hi : IntsIn w A (digs r.1)) (hc : n ≤ c) (hm : c ≤ maxLen) (hb : Below w2.heap.size w2 w) :
    RegP r w2 (.pointer (some ⟨g, 0, none⟩)) (.int .i64 r.2) (w.setCell ⟨g, 0, none⟩ (.slice A n c)) := by
  have h1 : w.heap[g]? = some (.cells #[.slice none 0 0] 30 (0, 0)) := h
  refine ⟨g, A, c, n, rfl, rfl, hn, ?_, ?_, hi.store (x := .slice none 0 0) h1, hc, hm, hb.setCell (p := ⟨g, 0, none⟩) hg _⟩
  · simpa using hs
  · exact World.cell?_setCell_same w _ _ h.facts.1
theorem reg_new {r : Int × Int} {w2 w : World} {n c : Nat} {A : Option Addr} (hn : n = (digs r.1).length) (hi : IntsIn w A (digs r.1)) (hc : n ≤ c) (hm : c ≤ maxLen) (hb : Below w2.heap.size w2 w) :
    RegP r w2 (.pointer (some ⟨w.heap.size, 0, none⟩)) (.int .i64 r.2) (w.alloc (.cells #[.slice A n c] 30)) :=
  ⟨w.heap.size, A, c, n, rfl, rfl, hn, by simp, row_cell (heap_alloc_new w _), hi.below one_new, hc, hm, btwo hb one_new⟩
theorem keepS {w2 w w' : World} {g1 g2 : Nat} {v1 v2 : Value} (h1 : w2.cell? ⟨g1, 0, none⟩ = some v1 ∧ g1 < w2.heap.size) (h2 : w2.cell? ⟨g2, 0, none⟩ = some v2 ∧ g2 < w2.heap.size) (hb : Below w.heap.size w w')
    (h : w.cell? ⟨g1, 0, none⟩ = some v1 ∧ w.cell? ⟨g2, 0, none⟩ = some v2 ∧ Below w2.heap.size w2 w) : w'.cell? ⟨g1, 0, none⟩ = some v1 ∧ w'.cell? ⟨g2, 0, none⟩ = some v2 ∧ Below w2.heap.size w2 w' := by
  have hb2 := btwo h.2.2 hb
  exact ⟨(cell_old h1.1 h1.2 hb2).1, (cell_old h2.1 h2.2 hb2).1, hb2⟩
theorem keepT {w2 w : World} {g g1 g2 : Nat} {v v1 v2 : Value} (h1 : w2.cell? ⟨g1, 0, none⟩ = some v1 ∧ g1 < w2.heap.size) (h2 : w2.cell? ⟨g2, 0, none⟩ = some v2 ∧ g2 < w2.heap.size) (hg : w2.heap.size ≤ g)
    (h : w.cell? ⟨g1, 0, none⟩ = some v1 ∧ w.cell? ⟨g2, 0, none⟩ = some v2 ∧ Below w2.heap.size w2 w) : (w.setCell ⟨g, 0, none⟩ v).cell? ⟨g1, 0, none⟩ = some v1 ∧ (w.setCell ⟨g, 0, none⟩ v).cell? ⟨g2, 0, none⟩ = some v2 ∧ Below w2.heap.size w2 (w.setCell ⟨g, 0, none⟩ v) := by
  have hb2 : Below w2.heap.size w2 (w.setCell ⟨g, 0, none⟩ v) := h.2.2.setCell (p := ⟨g, 0, none⟩) hg _
  exact ⟨(cell_old h1.1 h1.2 hb2).1, (cell_old h2.1 h2.2 hb2).1, hb2⟩
theorem keepB {w2 w' : World} {g1 g2 : Nat} {v1 v2 : Value} (h1 : w2.cell? ⟨g1, 0, none⟩ = some v1 ∧ g1 < w2.heap.size) (h2 : w2.cell? ⟨g2, 0, none⟩ = some v2 ∧ g2 < w2.heap.size) (hb : Below w2.heap.size w2 w') : w'.cell? ⟨g1, 0, none⟩ = some v1 ∧ w'.cell? ⟨g2, 0, none⟩ = some v2 ∧ Below w2.heap.size w2 w' :=
  ⟨(cell_old h1.1 h1.2 hb).1, (cell_old h2.1 h2.2 hb).1, hb⟩
theorem belS {w2 w w' : World} {g1 g2 : Nat} {v1 v2 : Value} (hb : Below w.heap.size w w') (h : w.cell? ⟨g1, 0, none⟩ = some v1 ∧ w.cell? ⟨g2, 0, none⟩ = some v2 ∧ Below w2.heap.size w2 w) : Below w2.heap.size w2 w' := btwo h.2.2 hb
theorem leB {w2 w w' : World} (hs : w.heap.size < w'.heap.size) (h : Below w2.heap.size w2 w) : w2.heap.size ≤ w.heap.size := h.size
theorem sizeS {w2 w : World} {g1 g2 : Nat} {v1 v2 : Value} (h : w.cell? ⟨g1, 0, none⟩ = some v1 ∧ w.cell? ⟨g2, 0, none⟩ = some v2 ∧ Below w2.heap.size w2 w) : w2.heap.size ≤ w.heap.size := h.2.2.size
theorem sizeK {w2 w w' : World} {g1 g2 : Nat} {v1 v2 : Value} (hs : w.heap.size < w'.heap.size) (h : w.cell? ⟨g1, 0, none⟩ = some v1 ∧ w.cell? ⟨g2, 0, none⟩ = some v2 ∧ Below w2.heap.size w2 w) : w2.heap.size ≤ w.heap.size := h.2.2.size
theorem intsS {w2 w : World} {g1 g2 : Nat} {v1 v2 : Value} {A : Option Addr} {L : List Int} (hi : IntsIn w2 A L)
    (h : w.cell? ⟨g1, 0, none⟩ = some v1 ∧ w.cell? ⟨g2, 0, none⟩ = some v2 ∧ Below w2.heap.size w2 w) : IntsIn w A L := hi.below h.2.2
end Go.Proofs.YtkfkefgkepoaaaaGreatDoor
