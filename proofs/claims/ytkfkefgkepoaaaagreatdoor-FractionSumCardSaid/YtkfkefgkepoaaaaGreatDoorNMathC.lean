/- Plain mathematics for the reference: searching a digit of a quotient, halving, common divisors by halving. -/
import Derived.Test.YtkfkefgkepoaaaaGreatDoorNMathB
namespace Go.Proofs.YtkfkefgkepoaaaaGreatDoor
set_option linter.unusedVariables false
set_option maxRecDepth 100000

/-- The rest of a division with a further place. -/
theorem div_more {T R a y : Int} (hy : 0 < y) (hR : R = a + 10000 * (T % y)) : (a + 10000 * T) % y = R % y ∧ (a + 10000 * T) / y = R / y + 10000 * (T / y) := by
  have h := Int.emod_add_mul_ediv T y
  have e : a + 10000 * T = R + y * (10000 * (T / y)) := by rw [hR]; generalize T % y = r at *; generalize T / y = q at *; grind
  rw [e]
  exact ⟨Int.add_mul_emod_self_left _ _ _, by rw [Int.add_mul_ediv_left _ _ (by omega)]⟩
theorem rest_lt {T R a y : Int} (hy : 0 < y) (ha : a < 10000) (hR : R = a + 10000 * (T % y)) : R < 10000 * y := by
  have := Int.emod_lt_of_pos T hy; omega
theorem rest_ge {T R a y : Int} (hy : 0 < y) (ha : 0 ≤ a) (hR : R = a + 10000 * (T % y)) : 0 ≤ R := by
  have := Int.emod_nonneg T (show y ≠ 0 by omega); omega
theorem quot_at {R y q : Int} (hy : 0 < y) (h1 : y * q ≤ R) (h2 : R < y * (q + 1)) : R / y = q ∧ R % y = R - y * q := by
  have := ediv_of (U := R) (V := y) (q := q) hy (by rw [Int.mul_comm]; omega) (by rw [Int.mul_comm q y]; rw [Int.mul_add] at h2; omega)
  rw [Int.mul_comm q y] at this
  exact this
theorem sgn_le {a : Int} (h : a ≤ 0) : sgn a ≤ 0 := by unfold sgn; split <;> (try split) <;> omega
theorem sgn_gt {a : Int} (h : 0 < a) : sgn a = 1 := by unfold sgn; rw [if_neg (by omega), if_pos h]
theorem sgn_lt {a : Int} (h : a < 0) : sgn a = -1 := by unfold sgn; rw [if_pos h]
theorem sgn_zero : sgn 0 = 0 := by unfold sgn; simp
/-- Halving, from the top. -/
theorem half_more {T a n c : Int} (hc : c = T % 2) (hn : n = c * 10000 + a) : (a + 10000 * T) / 2 = n / 2 + 10000 * (T / 2) ∧ (a + 10000 * T) % 2 = n % 2 := by omega

theorem gcdI_nat (a b : Nat) : gcdI a b = (Nat.gcd a b : Int) := by unfold gcdI; simp
theorem gcdI_pos {x y : Int} (hx : 0 < x) : 0 < gcdI x y := by
  unfold gcdI; have := Nat.gcd_pos_of_pos_left y.toNat (show 0 < x.toNat by omega); omega
theorem gcdI_comm (x y : Int) : gcdI x y = gcdI y x := by unfold gcdI; rw [Nat.gcd_comm]
theorem gcd_ee {x y : Int} (hx : 0 ≤ x) (hy : 0 ≤ y) (ex : x % 2 = 0) (ey : y % 2 = 0) : gcdI x y = 2 * gcdI (x / 2) (y / 2) := by
  obtain ⟨a, rfl⟩ : ∃ a : Nat, x = 2 * (a : Int) := ⟨(x / 2).toNat, by omega⟩
  obtain ⟨b, rfl⟩ : ∃ b : Nat, y = 2 * (b : Int) := ⟨(y / 2).toNat, by omega⟩
  rw [show 2 * (a : Int) / 2 = (a : Int) by omega, show 2 * (b : Int) / 2 = (b : Int) by omega, gcdI_nat]
  have : gcdI (2 * (a : Int)) (2 * (b : Int)) = gcdI ((2 * a : Nat) : Int) ((2 * b : Nat) : Int) := by simp
  rw [this, gcdI_nat, Nat.gcd_mul_left]; simp
theorem gcd_eo {x y : Int} (hx : 0 ≤ x) (hy : 0 ≤ y) (ex : x % 2 = 0) (ey : y % 2 = 1) : gcdI x y = gcdI (x / 2) y := by
  obtain ⟨a, rfl⟩ : ∃ a : Nat, x = 2 * (a : Int) := ⟨(x / 2).toNat, by omega⟩
  obtain ⟨b, rfl⟩ : ∃ b : Nat, y = (b : Int) := ⟨y.toNat, by omega⟩
  rw [show 2 * (a : Int) / 2 = (a : Int) by omega, gcdI_nat]
  have : gcdI (2 * (a : Int)) (b : Int) = gcdI ((2 * a : Nat) : Int) (b : Int) := by simp
  rw [this, gcdI_nat]
  have hc : Nat.Coprime 2 b := by
    rw [Nat.coprime_iff_gcd_eq_one, Nat.gcd_rec]
    rw [show b % 2 = 1 by omega]; rfl
  rw [Nat.Coprime.gcd_mul_left_cancel a hc]
theorem gcd_oe {x y : Int} (hx : 0 ≤ x) (hy : 0 ≤ y) (ex : x % 2 = 1) (ey : y % 2 = 0) : gcdI x y = gcdI x (y / 2) := by
  rw [gcdI_comm, gcd_eo hy hx ey ex, gcdI_comm]
theorem gcd_gt {x y : Int} (hy : 0 ≤ y) (h : y ≤ x) : gcdI x y = gcdI y (x - y) := by
  unfold gcdI
  rw [Int.toNat_sub'' (by omega) hy, Nat.gcd_comm x.toNat, Nat.gcd_sub_self_right (by omega)]
theorem gcd_le {x y : Int} (hx : 0 ≤ x) (h : x ≤ y) : gcdI x y = gcdI x (y - x) := by
  unfold gcdI
  rw [Int.toNat_sub'' (by omega) hx, Nat.gcd_sub_self_right (by omega)]
def twoI : Nat → Int
  | 0 => 1
  | k + 1 => 2 * twoI k
theorem twoI_pos (k : Nat) : 0 < twoI k := by
  induction k with
  | zero => simp [twoI]
  | succ k ih => unfold twoI; omega
theorem twoI_succ (k : Nat) : twoI (k + 1) = 2 * twoI k := rfl
theorem twoI_add (a b : Nat) : twoI (a + b) = twoI a * twoI b := by
  induction b with
  | zero => simp [twoI]
  | succ b ih => rw [← Nat.add_assoc, twoI_succ, twoI_succ, ih, Int.mul_left_comm]
theorem twoI_ge (k : Nat) : (k : Int) < twoI k := by
  induction k with
  | zero => simp [twoI]
  | succ k ih => unfold twoI; omega
theorem twoI_14 (j : Nat) : pw j ≤ twoI (14 * j) := by
  induction j with
  | zero => simp [twoI, pw]
  | succ j ih =>
    rw [pw_succ, show 14 * (j + 1) = 14 * j + 14 by omega, twoI_add]
    have h : twoI 14 = 16384 := by decide
    rw [h]
    have := twoI_pos (14 * j)
    omega
theorem twos_small {k : Nat} {g G : Int} (hg : 0 < g) (h : twoI k * g = G) (hG : G < pw 200) : k < 2800 := by
  by_cases c : k < 2800
  · exact c
  · obtain ⟨d, rfl⟩ : ∃ d, k = 14 * 200 + d := ⟨k - 2800, by omega⟩
    rw [twoI_add] at h
    have h1 := twoI_14 200
    have h2 := twoI_pos d
    have h3 := Int.mul_le_mul_of_nonneg_left (show 1 ≤ twoI d by omega) (Int.le_of_lt (twoI_pos (14 * 200)))
    have h4 := Int.mul_le_mul_of_nonneg_left (show 1 ≤ g by omega) (show 0 ≤ twoI (14 * 200) * twoI d by have := twoI_pos (14 * 200); exact Int.le_of_lt (Int.mul_pos this h2))
    omega
#print axioms twos_small
end Go.Proofs.YtkfkefgkepoaaaaGreatDoor
