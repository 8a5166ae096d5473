/- Plain mathematics: greatest common divisors and numbers of subsets. -/
import Derived.Test.YtkfkefgkepoaaaaGreatDoorNMath
namespace Go.Proofs.YtkfkefgkepoaaaaGreatDoor
set_option linter.unusedVariables false
set_option maxRecDepth 100000

def gcdI (x y : Int) : Int := (Nat.gcd x.toNat y.toNat : Int)
theorem gcdI_nonneg (x y : Int) : 0 ≤ gcdI x y := by unfold gcdI; omega
theorem gcdI_zero {x : Int} (h : 0 ≤ x) : gcdI x 0 = x := by unfold gcdI; simp; omega
theorem gcdI_step {x y : Int} (hx : 0 ≤ x) (hy : 0 < y) : gcdI y (x % y) = gcdI x y := by
  unfold gcdI
  rw [Int.toNat_emod hx (by omega), Nat.gcd_comm x.toNat, Nat.gcd_rec y.toNat x.toNat, Nat.gcd_comm]
def binom : Nat → Nat → Int
  | _, 0 => 1
  | 0, _ + 1 => 0
  | n + 1, k + 1 => binom n k + binom n (k + 1)
theorem binom_zero (n : Nat) : binom n 0 = 1 := by cases n <;> rfl
theorem binom_nonneg (n k : Nat) : 0 ≤ binom n k := by
  induction n generalizing k with
  | zero => cases k <;> simp [binom]
  | succ n ih =>
    cases k with
    | zero => simp [binom]
    | succ k => unfold binom; have := ih k; have := ih (k + 1); omega
theorem binom_big {n k : Nat} (h : n < k) : binom n k = 0 := by
  induction n generalizing k with
  | zero => obtain ⟨j, rfl⟩ : ∃ j, k = j + 1 := ⟨k - 1, by omega⟩
            rfl
  | succ n ih =>
    obtain ⟨j, rfl⟩ : ∃ j, k = j + 1 := ⟨k - 1, by omega⟩
    unfold binom; rw [ih (by omega), ih (by omega)]; rfl
theorem binom_self (n : Nat) : binom n n = 1 := by
  induction n with
  | zero => rfl
  | succ n ih => unfold binom; rw [ih, binom_big (by omega)]; rfl
theorem binom_pos {n k : Nat} (h : k ≤ n) : 0 < binom n k := by
  induction n generalizing k with
  | zero => obtain rfl : k = 0 := by omega
            simp [binom]
  | succ n ih =>
    cases k with
    | zero => simp [binom]
    | succ k => unfold binom; have := ih (k := k) (by omega); have := binom_nonneg n (k + 1); omega
theorem binom_step (n k : Nat) : binom n k * ((n : Int) - k) = binom n (k + 1) * (k + 1 : Int) := by
  induction n generalizing k with
  | zero => cases k <;> simp [binom]
  | succ n ih =>
    cases k with
    | zero =>
      have h := ih 0
      rw [binom_zero] at h
      rw [show binom (n + 1) (0 + 1) = binom n 0 + binom n (0 + 1) from rfl, binom_zero, binom_zero]
      simp at h ⊢
      omega
    | succ k =>
      have h1 := ih k
      have h2 := ih (k + 1)
      rw [show binom (n + 1) (k + 1) = binom n k + binom n (k + 1) from rfl, show binom (n + 1) (k + 1 + 1) = binom n (k + 1) + binom n (k + 1 + 1) from rfl]
      simp only [Int.natCast_add, Int.natCast_one] at h1 h2 ⊢
      grind
theorem binom_up (n k : Nat) : binom (n + 1) (k + 1) * (k + 1 : Int) = (n + 1 : Int) * binom n k := by
  have h := binom_step n k
  rw [show binom (n + 1) (k + 1) = binom n k + binom n (k + 1) from rfl]
  grind
theorem binom_le (n k : Nat) : binom n k ≤ 2 ^ n := by
  induction n generalizing k with
  | zero => cases k <;> simp [binom]
  | succ n ih =>
    cases k with
    | zero => rw [binom_zero]; have := Int.pow_pos (n := 2) (m := n + 1) (by omega); omega
    | succ k => unfold binom; have := ih k; have := ih (k + 1); rw [Int.pow_succ]; omega
theorem two_pow_le {n : Nat} (h : n ≤ 400) : (2 : Int) ^ n ≤ 2 ^ 400 := by
  obtain ⟨d, hd⟩ : ∃ d, 400 = n + d := ⟨400 - n, by omega⟩
  rw [hd, Int.pow_add]
  have h1 := Int.pow_pos (n := 2) (m := d) (by omega)
  have h2 := Int.pow_pos (n := 2) (m := n) (by omega)
  have := Int.mul_le_mul_of_nonneg_left (show (1 : Int) ≤ 2 ^ d by omega) (Int.le_of_lt h2)
  omega
theorem binom_lt {n : Nat} (k : Nat) (h : n ≤ 400) : binom n k < pw 100 := by
  have h1 := binom_le n k
  have h2 := two_pow_le h
  have h3 : (2 : Int) ^ 400 < pw 100 := by decide +kernel
  omega
theorem binom_symm {n k : Nat} (h : k ≤ n) : binom n k = binom n (n - k) := by
  induction n generalizing k with
  | zero => obtain rfl : k = 0 := by omega
            rfl
  | succ n ih =>
    cases k with
    | zero => rw [binom_zero, show n + 1 - 0 = n + 1 by omega, binom_self]
    | succ k =>
      by_cases e : k = n
      · subst e; rw [binom_self, show k + 1 - (k + 1) = 0 by omega, binom_zero]
      · obtain ⟨j, hj⟩ : ∃ j, n - k = j + 1 := ⟨n - k - 1, by omega⟩
        rw [show n + 1 - (k + 1) = j + 1 by omega]
        rw [show binom (n + 1) (k + 1) = binom n k + binom n (k + 1) from rfl, show binom (n + 1) (j + 1) = binom n j + binom n (j + 1) from rfl]
        rw [ih (k := k) (by omega), ih (k := k + 1) (by omega), hj, show n - (k + 1) = j by omega]
        omega
theorem digs_one {i : Int} (h0 : 0 < i) (h1 : i < 10000) : digs i = [i] := by
  rw [digs_pos h0, show i / 10000 = 0 by omega, digs_zero, show i % 10000 = i by omega]
theorem binom_div (n k : Nat) : binom n k * ((n : Int) - k) / ((k : Int) + 1) = binom n (k + 1) := by
  rw [binom_step]
  exact Int.mul_ediv_cancel _ (by omega)
theorem binom_div_up (n k : Nat) : binom n k * ((n : Int) + 1) / ((k : Int) + 1) = binom (n + 1) (k + 1) := by
  rw [Int.mul_comm, ← binom_up]
  exact Int.mul_ediv_cancel _ (by omega)
#print axioms binom_symm
end Go.Proofs.YtkfkefgkepoaaaaGreatDoor
