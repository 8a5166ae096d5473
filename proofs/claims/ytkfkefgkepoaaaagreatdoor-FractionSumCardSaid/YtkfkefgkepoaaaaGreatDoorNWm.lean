/- Contract of Binomial of the program. -/
import Derived.Test.YtkfkefgkepoaaaaGreatDoorNWl
namespace Go.Proofs.YtkfkefgkepoaaaaGreatDoor
open Go.RowKit
set_option linter.unusedVariables false
set_option maxRecDepth 100000

def binV (n k : Int) : Int × Int := if n < 0 ∨ 400 < n ∨ k < 0 ∨ n < k then (0, 6) else (binom n.toNat k.toNat, 0)
abbrev box1 (W : World) : World := W.alloc (.cells #[.slice none 0 0] 30)
theorem one1 {W w : World} (hb : Below (W.heap.size + 1) (box1 W) w) :
    w.cell? ⟨W.heap.size, 0, none⟩ = some (.slice none 0 0) ∧ w.frozen? ⟨W.heap.size, 0, none⟩ = false ∧ W.heap.size < w.heap.size ∧ Below W.heap.size W w ∧ w.heap[W.heap.size]? = some (.cells #[.slice none 0 0] 30 (0, 0)) := by
  have b0 : w.heap[W.heap.size]? = some (.cells #[.slice none 0 0] 30 (0, 0)) := by
    rw [hb.block _ (by omega)]; exact heap_alloc_new W _
  refine ⟨?_, ?_, ?_, ((Below.refl _ _).alloc (Nat.le_refl _) _).trans (hb.mono (by omega)), b0⟩
  · rw [cell_of_row w _ 0 _ _ _ b0]; rfl
  · simp [World.frozen?, b0]
  · have := hb.size; simp at this; omega
theorem one_go {W w w' : World} (h : Below (W.heap.size + 1) (box1 W) w) (h2 : Below w.heap.size w w') : Below (W.heap.size + 1) (box1 W) w' :=
  h.trans (h2.mono (by have := h.size; simpa using this))
theorem ints_one_new (w : World) (t : Int) (T : TypeId) : IntsIn (w.alloc (.cells #[.int .i64 t] T)) (some ⟨w.heap.size, 0, none⟩) [t] := by
  intro _
  refine ⟨w.heap.size, 0, rfl, by simp, fun j hj => ?_⟩
  obtain rfl : j = 0 := by simpa using hj
  simp
def BinSt (N : Nat) (W : World) (j : Nat) (v : Value) (w : World) : Prop := NumAt w v (binom N j) ∧ Below (W.heap.size + 1) (box1 W) w
theorem len_binom {N : Nat} (k : Nat) (h : N ≤ 400) : (digs (binom N k)).length ≤ 100 := digs_len_le (binom_lt k h)
theorem bin_start {N : Nat} {W : World} (h : N ≤ 400) : BinSt N W 0 (.slice (some ⟨W.heap.size + 1, 0, none⟩) 1 1) ((box1 W).alloc (.cells #[.int .i64 1] 3)) := by
  have e : digs (binom N 0) = [1] := by rw [binom_zero]; exact digs_one (by omega) (by omega)
  have := ints_one_new (box1 W) 1 3
  rw [show (box1 W).heap.size = W.heap.size + 1 by simp [box1]] at this
  refine ⟨⟨binom_nonneg _ _, _, _, by rw [e]; rfl, by rw [e]; exact this, by rw [e]; exact Nat.le_refl _, by unfold maxLen; omega, by rw [e]; simp⟩, (Below.refl _ _).alloc (by simp [box1]) _⟩
theorem bin_step {N j : Nat} {W w : World} {A : Option Addr} {c : Nat} {x : Int} (hN : N ≤ 400) (hx : x = binom N (j + 1)) (hi : IntsIn w A (digs x)) (hc : (digs x).length ≤ c) (hm : c ≤ maxLen) (hb : Below (W.heap.size + 1) (box1 W) w) : BinSt N W (j + 1) (.slice A (digs x).length c) w := by
  subst hx
  exact ⟨⟨binom_nonneg _ _, A, c, rfl, hi, hc, hm, by have := len_binom (j + 1) hN; omega⟩, hb⟩
theorem bin_end {N K m : Nat} {W w : World} {A : Option Addr} {k c : Nat} {r : Int × Int} (hr : r = (binom N K, 0)) (hs : binom N m = binom N K) (hk : k = (digs (binom N m)).length) (hi : IntsIn w A (digs (binom N m))) (hc : k ≤ c) (hm : c ≤ maxLen) (hb : Below (W.heap.size + 1) (box1 W) w) :
    NatPost r W (.returned (.tuple #[.agg #[.slice A k c], .int .i64 0])) (w.setCell ⟨W.heap.size, 0, none⟩ (.slice A k c)) := by
  obtain ⟨_, _, _, h6, h7⟩ := one1 hb
  subst hr
  rw [hs] at hk hi
  exact nat_store (r := (binom N K, 0)) hk hi (show (digs (binom N K)).length ≤ c by rw [← hk]; exact hc) hm h6 h7 (Nat.le_refl _)
theorem bin_prod {N j : Nat} {t : Int} (hN : N ≤ 400) (ht : t = (N : Int) - j) (hj : j < N) : (digs (binom N j * t)).length ≤ 101 := by
  apply digs_len_le
  have h1 := binom_lt j hN
  have h2 := binom_nonneg N j
  have h3 := Int.mul_le_mul_of_nonneg_left (show t ≤ 9999 by omega) h2
  rw [show (101 : Nat) = 100 + 1 by rfl, pw_succ]
  omega
end Go.Proofs.YtkfkefgkepoaaaaGreatDoor
