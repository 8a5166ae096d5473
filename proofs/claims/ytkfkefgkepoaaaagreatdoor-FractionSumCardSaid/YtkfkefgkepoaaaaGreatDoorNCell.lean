/- Cells and lists behind a call; slices.Equal on a list that is known. -/
import Derived.Test.YtkfkefgkepoaaaaGreatDoorNWp
namespace Go.Proofs.YtkfkefgkepoaaaaGreatDoor
open Go.RowKit
set_option linter.unusedVariables false
set_option maxRecDepth 100000

theorem ints_new (w : World) (L : List Int) (T : TypeId) : IntsIn (w.alloc (.cells (ints L).toArray T)) (some ⟨w.heap.size, 0, none⟩) L :=
  (row_of_cells (heap_alloc_new w _)).ints (by simp)
theorem row_cell {w : World} {g : Nat} {v : Value} {T : TypeId} (h : w.heap[g]? = some (.cells #[v] T (0, 0))) : w.cell? ⟨g, 0, none⟩ = some v := by
  rw [cell_of_row w g 0 _ _ _ h]; rfl
theorem ints_new' (w : World) (g : Nat) (L : List Int) (T : TypeId) (hg : w.heap.size = g) : IntsIn (w.alloc (.cells (ints L).toArray T)) (some ⟨g, 0, none⟩) L := by subst hg; exact ints_new w L T
theorem cell_new2 {w w' : World} {u v : Value} {T : TypeId} (h : Below ((w.alloc (.cells #[u] T)).alloc (.cells #[v] T)).heap.size ((w.alloc (.cells #[u] T)).alloc (.cells #[v] T)) w') :
    w'.cell? ⟨w.heap.size, 0, none⟩ = some u ∧ w'.cell? ⟨w.heap.size + 1, 0, none⟩ = some v ∧ w.heap.size + 1 < w'.heap.size ∧ Below w.heap.size w w' := by
  have hs := h.size
  simp at hs h
  have e : ((w.alloc (.cells #[u] T)).alloc (.cells #[v] T)).cell? ⟨w.heap.size + 1, 0, none⟩ = some v := by
    simp
  have e0 : ((w.alloc (.cells #[u] T)).alloc (.cells #[v] T)).cell? ⟨w.heap.size, 0, none⟩ = some u := by
    rw [World.cell?_alloc_lt _ _ _ (by simp)]
    simp
  exact ⟨(h.cell (p := ⟨w.heap.size, 0, none⟩) (by simp; omega)).trans e0, (h.cell (p := ⟨w.heap.size + 1, 0, none⟩) (by simp)).trans e, by omega, (((Below.refl _ _).alloc (Nat.le_refl _) _).alloc (by simp) _).trans (h.mono (by omega))⟩
theorem cell_new {w w' : World} {v : Value} {T : TypeId} (h : Below (w.alloc (.cells #[v] T)).heap.size (w.alloc (.cells #[v] T)) w') : w'.cell? ⟨w.heap.size, 0, none⟩ = some v ∧ w.heap.size < w'.heap.size ∧ Below w.heap.size w w' := by
  have hs := h.size
  simp at hs h
  exact ⟨(h.cell (p := ⟨w.heap.size, 0, none⟩) (by simp)).trans (by simp), by omega, ((Below.refl _ _).alloc (Nat.le_refl _) _).trans (h.mono (by omega))⟩
theorem cell_old {w w' : World} {g : Nat} {v : Value} (h : w.cell? ⟨g, 0, none⟩ = some v) (hg : g < w.heap.size) (hb : Below w.heap.size w w') : w'.cell? ⟨g, 0, none⟩ = some v ∧ g < w'.heap.size :=
  ⟨(hb.cell (p := ⟨g, 0, none⟩) hg).trans h, Nat.lt_of_lt_of_le hg hb.size⟩

end Go.Proofs.YtkfkefgkepoaaaaGreatDoor
