/- Boxed arguments, and what calls keep. -/
import Derived.Test.YtkfkefgkepoaaaaGreatDoorNWr
import Derived.Deep.RegionHeld3
namespace Go.Proofs.YtkfkefgkepoaaaaGreatDoor
open Go.RowKit
set_option linter.unusedVariables false
set_option maxRecDepth 100000

theorem same_true (L : List Int) (n c m d : Nat) (A B : Option Addr) (w : World) (hn : L.length = n) (hm : L.length = m) (hn63 : n ≤ maxLen) (hm63 : m ≤ maxLen) (hA : IntsIn w A L) (hB : IntsIn w B L) :
    Calls Tryz.prog 23 #[.agg #[.slice A n c], .agg #[.slice B m d]] w fun e w' => e = .returned (.bool true) ∧ Below w.heap.size w w' := by
  refine (same_any L L n c m d A B w hn hm hn63 hm63 hA hB).mono ?_
  rintro e w' ⟨rfl, hb⟩
  exact ⟨by simp, hb⟩
/-- The world in which a function with two boxed arguments begins. -/
abbrev box2 (W : World) (a b : Value) : World := (W.alloc (.cells #[a] 30)).alloc (.cells #[b] 30)
theorem box2_below (W : World) (a b : Value) : Below W.heap.size W (box2 W a b) := two_box
theorem keep2 {W w : World} {a b : Value} (h : Below (box2 W a b).heap.size (box2 W a b) w) : w.cell? ⟨W.heap.size, 0, none⟩ = some a ∧ w.cell? ⟨W.heap.size + 1, 0, none⟩ = some b ∧ W.heap.size + 1 < w.heap.size ∧ Below W.heap.size W w := cell_new2 h
theorem ls_big {n : Nat} (h : n ≤ 17592186044416) : n ≤ maxLen := Nat.le_trans h (by unfold maxLen; decide)
theorem few_no {n m : Nat} (h : ¬ n + m ≤ 420) : decide (([n, m] : List Nat).sum ≤ 420) = false := by
  rw [show ([n, m] : List Nat).sum = n + m by simp]; exact decide_eq_false h
theorem few_yes {n m : Nat} (h : n + m ≤ 420) : decide (([n, m] : List Nat).sum ≤ 420) = true := by
  rw [show ([n, m] : List Nat).sum = n + m by simp]; exact decide_eq_true h
theorem cmpL_bd (L M : List Int) : -1 ≤ cmpL L M ∧ cmpL L M ≤ 1 := by
  have h : ∀ k, -1 ≤ cmpD L M k ∧ cmpD L M k ≤ 1 := by
    intro k
    induction k with
    | zero => simp [cmpD]
    | succ k ih => rw [cmpD_succ]; split <;> (try split) <;> omega
  unfold cmpL
  have := h L.length
  split <;> (try split) <;> omega
/-- What the calls of the last test ask of a world. -/
def VS (W : World) (L0 L1 L3 : List Int) (A0 A1 A3 A4 : Option Addr) (g1 g2 g3 g4 : Nat) (w : World) : Prop :=
  IntsIn w A0 L0 ∧ IntsIn w A1 L1 ∧ IntsIn w A3 L3 ∧ IntsIn w A4 L3 ∧ g1 < w.heap.size ∧ g2 < w.heap.size ∧ g3 < w.heap.size ∧ g4 < w.heap.size ∧ Below W.heap.size W w
theorem VS.drew {W : World} {L0 L1 L3 : List Int} {A0 A1 A3 A4 : Option Addr} {g1 g2 g3 g4 : Nat} {w : World} (h : VS W L0 L1 L3 A0 A1 A3 A4 g1 g2 g3 g4 w) : VS W L0 L1 L3 A0 A1 A3 A4 g1 g2 g3 g4 w.drew :=
  ⟨h.1, h.2.1, h.2.2.1, h.2.2.2.1, h.2.2.2.2.1, h.2.2.2.2.2.1, h.2.2.2.2.2.2.1, h.2.2.2.2.2.2.2.1, h.2.2.2.2.2.2.2.2.drew⟩
theorem keepV {W w w' : World} {L0 L1 L3 : List Int} {A0 A1 A3 A4 : Option Addr} {g1 g2 g3 g4 : Nat} {v1 v2 v3 v4 : Value} (hb : Below w.heap.size w w')
    (h : w.cell? ⟨g1, 0, none⟩ = some v1 ∧ w.cell? ⟨g2, 0, none⟩ = some v2 ∧ w.cell? ⟨g3, 0, none⟩ = some v3 ∧ w.cell? ⟨g4, 0, none⟩ = some v4 ∧ VS W L0 L1 L3 A0 A1 A3 A4 g1 g2 g3 g4 w) :
    w'.cell? ⟨g1, 0, none⟩ = some v1 ∧ w'.cell? ⟨g2, 0, none⟩ = some v2 ∧ w'.cell? ⟨g3, 0, none⟩ = some v3 ∧ w'.cell? ⟨g4, 0, none⟩ = some v4 ∧ VS W L0 L1 L3 A0 A1 A3 A4 g1 g2 g3 g4 w' := by
  obtain ⟨c1, c2, c3, c4, i0, i1, i3, i4, s1, s2, s3, s4, hbel⟩ := h
  have := hb.size
  have hW := hbel.size
  exact ⟨(cell_old c1 s1 hb).1, (cell_old c2 s2 hb).1, (cell_old c3 s3 hb).1, (cell_old c4 s4 hb).1, i0.below hb, i1.below hb, i3.below hb, i4.below hb, by omega, by omega, by omega, by omega, hbel.trans (hb.mono hW)⟩
theorem vib {W w : World} {L0 L1 L3 : List Int} {A0 A1 A3 A4 : Option Addr} {g1 g2 g3 g4 : Nat} {v1 v2 v3 v4 : Value} (h : w.cell? ⟨g1, 0, none⟩ = some v1 ∧ w.cell? ⟨g2, 0, none⟩ = some v2 ∧ w.cell? ⟨g3, 0, none⟩ = some v3 ∧ w.cell? ⟨g4, 0, none⟩ = some v4 ∧ VS W L0 L1 L3 A0 A1 A3 A4 g1 g2 g3 g4 w) : Below W.heap.size W w := h.2.2.2.2.2.2.2.2.2.2.2.2
theorem vi0 {W w : World} {L0 L1 L3 : List Int} {A0 A1 A3 A4 : Option Addr} {g1 g2 g3 g4 : Nat} {v1 v2 v3 v4 : Value} (h : w.cell? ⟨g1, 0, none⟩ = some v1 ∧ w.cell? ⟨g2, 0, none⟩ = some v2 ∧ w.cell? ⟨g3, 0, none⟩ = some v3 ∧ w.cell? ⟨g4, 0, none⟩ = some v4 ∧ VS W L0 L1 L3 A0 A1 A3 A4 g1 g2 g3 g4 w) : IntsIn w A0 L0 := h.2.2.2.2.1
theorem vi1 {W w : World} {L0 L1 L3 : List Int} {A0 A1 A3 A4 : Option Addr} {g1 g2 g3 g4 : Nat} {v1 v2 v3 v4 : Value} (h : w.cell? ⟨g1, 0, none⟩ = some v1 ∧ w.cell? ⟨g2, 0, none⟩ = some v2 ∧ w.cell? ⟨g3, 0, none⟩ = some v3 ∧ w.cell? ⟨g4, 0, none⟩ = some v4 ∧ VS W L0 L1 L3 A0 A1 A3 A4 g1 g2 g3 g4 w) : IntsIn w A1 L1 := h.2.2.2.2.2.1
theorem vi3 {W w : World} {L0 L1 L3 : List Int} {A0 A1 A3 A4 : Option Addr} {g1 g2 g3 g4 : Nat} {v1 v2 v3 v4 : Value} (h : w.cell? ⟨g1, 0, none⟩ = some v1 ∧ w.cell? ⟨g2, 0, none⟩ = some v2 ∧ w.cell? ⟨g3, 0, none⟩ = some v3 ∧ w.cell? ⟨g4, 0, none⟩ = some v4 ∧ VS W L0 L1 L3 A0 A1 A3 A4 g1 g2 g3 g4 w) : IntsIn w A3 L3 := h.2.2.2.2.2.2.1
theorem vi4 {W w : World} {L0 L1 L3 : List Int} {A0 A1 A3 A4 : Option Addr} {g1 g2 g3 g4 : Nat} {v1 v2 v3 v4 : Value} (h : w.cell? ⟨g1, 0, none⟩ = some v1 ∧ w.cell? ⟨g2, 0, none⟩ = some v2 ∧ w.cell? ⟨g3, 0, none⟩ = some v3 ∧ w.cell? ⟨g4, 0, none⟩ = some v4 ∧ VS W L0 L1 L3 A0 A1 A3 A4 g1 g2 g3 g4 w) : IntsIn w A4 L3 := h.2.2.2.2.2.2.2.1
end Go.Proofs.YtkfkefgkepoaaaaGreatDoor
