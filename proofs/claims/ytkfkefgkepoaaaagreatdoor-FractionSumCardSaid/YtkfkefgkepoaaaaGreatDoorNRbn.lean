/- Contract of the reference's Binomial. -/
import Derived.Test.YtkfkefgkepoaaaaGreatDoorNRgd
namespace Go.Proofs.YtkfkefgkepoaaaaGreatDoor
open Go.RowKit
set_option linter.unusedVariables false
set_option maxRecDepth 100000

def RBinSt (Q : Nat) (W : World) (j : Nat) (v : Value) (w : World) : Prop := NumAt w v (binom (Q + j) j) ∧ Below (W.heap.size + 1) (box1 W) w
theorem rbin_start {Q : Nat} {W : World} (h : Q ≤ 400) : RBinSt Q W 0 (.slice (some ⟨W.heap.size + 1, 0, none⟩) 1 1) ((box1 W).alloc (.cells #[.int .i64 1] 3)) := by
  have := bin_start (N := Q) (W := W) h
  exact this
theorem rbin_step {Q j : Nat} {W w : World} {A : Option Addr} {c : Nat} {x : Int} (hN : Q + (j + 1) ≤ 400) (hx : x = binom (Q + (j + 1)) (j + 1)) (hi : IntsIn w A (digs x)) (hc : (digs x).length ≤ c) (hm : c ≤ maxLen) (hb : Below (W.heap.size + 1) (box1 W) w) : RBinSt Q W (j + 1) (.slice A (digs x).length c) w := by
  subst hx
  exact ⟨⟨binom_nonneg _ _, A, c, rfl, hi, hc, hm, by have := len_binom (j + 1) hN; omega⟩, hb⟩
theorem rbin_end {Q N K : Nat} {W w : World} {A : Option Addr} {k c : Nat} {r : Int × Int} (hr : r = (binom N K, 0)) (hs : Q + K = N) (hk : k = (digs (binom (Q + K) K)).length) (hi : IntsIn w A (digs (binom (Q + K) K))) (hc : k ≤ c) (hm : c ≤ maxLen) (hb : Below (W.heap.size + 1) (box1 W) w) :
    NatPost r W (.returned (.tuple #[.agg #[.slice A k c], .int .i64 0])) (w.setCell ⟨W.heap.size, 0, none⟩ (.slice A k c)) := by
  rw [hs] at hk hi
  exact bin_end (m := K) hr rfl hk hi hc hm hb
theorem rbin_prod {Q j : Nat} {t : Int} (hN : Q + j ≤ 400) (h0 : 0 ≤ t) (h1 : t ≤ 9999) : (digs (binom (Q + j) j * t)).length ≤ 101 := by
  apply digs_len_le
  have h1 := binom_lt j hN
  have h2 := binom_nonneg (Q + j) j
  have h3 := Int.mul_le_mul_of_nonneg_left (show t ≤ 9999 by omega) h2
  rw [show (101 : Nat) = 100 + 1 by rfl, pw_succ]
  omega
theorem rbin_div (Q j : Nat) : binom (Q + j) j * ((Q : Int) + ((j : Int) + 1)) / ((j : Int) + 1) = binom (Q + (j + 1)) (j + 1) := by
  have := binom_div_up (Q + j) j
  rw [← Nat.add_assoc, ← this]
  congr 2
end Go.Proofs.YtkfkefgkepoaaaaGreatDoor
