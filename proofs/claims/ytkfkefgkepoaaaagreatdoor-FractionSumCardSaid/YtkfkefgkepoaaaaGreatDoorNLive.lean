/- What lives on between the calls of a statement: cells of structs, lists of digits. -/
import Derived.Test.YtkfkefgkepoaaaaGreatDoorNWu
namespace Go.Proofs.YtkfkefgkepoaaaaGreatDoor
open Go.RowKit
set_option linter.unusedVariables false
set_option maxRecDepth 100000

def Live (W : World) (lc : List (Nat × Value)) (ln : List (Option Addr × List Int)) (w : World) : Prop :=
  (∀ g v, (g, v) ∈ lc → w.cell? ⟨g, 0, none⟩ = some v ∧ g < w.heap.size) ∧ (∀ A L, (A, L) ∈ ln → IntsIn w A L) ∧ Below W.heap.size W w
theorem Live.go {W w w' : World} {lc : List (Nat × Value)} {ln : List (Option Addr × List Int)} (h : Live W lc ln w) (hb : Below w.heap.size w w') : Live W lc ln w' :=
  ⟨fun g v hm => cell_old (h.1 g v hm).1 (h.1 g v hm).2 hb, fun A L hm => (h.2.1 A L hm).below hb, btwo h.2.2 hb⟩
theorem Live.num {W w : World} {lc : List (Nat × Value)} {ln : List (Option Addr × List Int)} {A : Option Addr} {L : List Int} (h : Live W lc ln w) (hi : IntsIn w A L) : Live W lc ((A, L) :: ln) w :=
  ⟨h.1, fun B M hm => by
    rcases List.mem_cons.1 hm with e | e
    · injection e with e1 e2; subst e1; subst e2; exact hi
    · exact h.2.1 B M e, h.2.2⟩
theorem Live.new {W w : World} {lc : List (Nat × Value)} {ln : List (Option Addr × List Int)} (h : Live W lc ln w) (v : Value) (T : TypeId) : Live W ((w.heap.size, v) :: lc) ln (w.alloc (.cells #[v] T)) := by
  have hb : Below w.heap.size w (w.alloc (.cells #[v] T)) := (Below.refl _ _).alloc (Nat.le_refl _) _
  have h' := h.go hb
  refine ⟨fun g u hm => ?_, h'.2⟩
  rcases List.mem_cons.1 hm with e | e
  · injection e with e1 e2; subst e1; subst e2; exact ⟨row_cell (heap_alloc_new w _), by simp⟩
  · exact h'.1 g u e
theorem Live.drewN {W w : World} {lc : List (Nat × Value)} {ln : List (Option Addr × List Int)} (h : Live W lc ln w) (n : Nat) : Live W lc ln (w.drewN n) := h.go (bdr (Below.refl _ _) n)
theorem Live.drew {W w : World} {lc : List (Nat × Value)} {ln : List (Option Addr × List Int)} (h : Live W lc ln w) : Live W lc ln w.drew := h.go (Below.refl _ _).drew
theorem Live.start {W : World} (a b : Value) : Live W [(W.heap.size + 1, b), (W.heap.size, a)] [] (box2 W a b) := by
  have h0 : Live W [] [] W := ⟨fun g v hm => by simp at hm, fun A L hm => by simp at hm, Below.refl _ _⟩
  have h2 := (h0.new a 30).new b 30
  simpa using h2
/-- For the tactic on regions: two cells and what lives. -/
theorem keepL {W w w' : World} {lc : List (Nat × Value)} {ln : List (Option Addr × List Int)} {g1 g2 : Nat} {v1 v2 : Value} (hb : Below w.heap.size w w') (h1 : (g1, v1) ∈ lc) (h2 : (g2, v2) ∈ lc)
    (h : w.cell? ⟨g1, 0, none⟩ = some v1 ∧ w.cell? ⟨g2, 0, none⟩ = some v2 ∧ Live W lc ln w) : w'.cell? ⟨g1, 0, none⟩ = some v1 ∧ w'.cell? ⟨g2, 0, none⟩ = some v2 ∧ Live W lc ln w' := by
  have h3 := h.2.2.go hb
  exact ⟨(h3.1 _ _ h1).1, (h3.1 _ _ h2).1, h3⟩
theorem liveN {W w : World} {lc : List (Nat × Value)} {ln : List (Option Addr × List Int)} {g1 g2 : Nat} {v1 v2 : Value} {A : Option Addr} {L : List Int} (hm : (A, L) ∈ ln)
    (h : w.cell? ⟨g1, 0, none⟩ = some v1 ∧ w.cell? ⟨g2, 0, none⟩ = some v2 ∧ Live W lc ln w) : IntsIn w A L := h.2.2.2.1 A L hm
theorem liveL {W w : World} {lc : List (Nat × Value)} {ln : List (Option Addr × List Int)} {g1 g2 : Nat} {v1 v2 : Value}
    (h : w.cell? ⟨g1, 0, none⟩ = some v1 ∧ w.cell? ⟨g2, 0, none⟩ = some v2 ∧ Live W lc ln w) : Live W lc ln w := h.2.2
theorem one_new {w : World} {o : Obj} : Below w.heap.size w (w.alloc o) := (Below.refl _ _).alloc (Nat.le_refl _) _
end Go.Proofs.YtkfkefgkepoaaaaGreatDoor
