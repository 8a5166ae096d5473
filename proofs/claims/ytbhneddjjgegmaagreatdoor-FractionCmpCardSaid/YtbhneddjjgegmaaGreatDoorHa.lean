/- Plain mathematics: fractions with signs as rational numbers. -/
import Derived.Test.YtbhneddjjgegmaaGreatDoorHE
namespace Go.Proofs.YtbhneddjjgegmaaGreatDoor
open Go.RowKit
set_option linter.unusedVariables false
set_option maxRecDepth 100000

def sv (s : Bool) (p : Int) : Int := if s = true then -p else p
theorem sv_f (p : Int) : sv false p = p := rfl
theorem sv_t (p : Int) : sv true p = -p := rfl
theorem gcdI_split {n d : Int} (hn : 0 ≤ n) (hd : 0 < d) : n / gcdI n d * gcdI n d = n ∧ d / gcdI n d * gcdI n d = d := by
  obtain ⟨a, rfl⟩ := Int.eq_ofNat_of_zero_le hn
  obtain ⟨b, rfl⟩ := Int.eq_ofNat_of_zero_le (Int.le_of_lt hd)
  rw [gcdI_nat]
  exact ⟨Int.ediv_mul_cancel (Int.ofNat_dvd.2 (Nat.gcd_dvd_left a b)), Int.ediv_mul_cancel (Int.ofNat_dvd.2 (Nat.gcd_dvd_right a b))⟩
/-- The value of an answer. -/
def Val (r : Bool × Int × Int × Int) : Rat := Rat.divInt (sv r.1 r.2.1) r.2.2.1
/-- The value of a fraction. -/
def VF (s : Bool) (p q : Int) : Rat := Rat.divInt (sv s p) q
theorem sv_low (s : Bool) (p : Int) : sv (s && !decide (p = 0)) p = sv s p := by
  by_cases h : p = 0
  · subst h; cases s <;> simp [sv]
  · rw [decide_eq_false h]; cases s <;> simp
theorem low_cross (a b g : Int) (s : Bool) : sv s a * (b * g) = sv s (a * g) * b := by
  cases s
  · show a * (b * g) = a * g * b
    rw [Int.mul_assoc, Int.mul_comm b g]
  · show -a * (b * g) = -(a * g) * b
    rw [Int.neg_mul, Int.neg_mul, Int.mul_assoc, Int.mul_comm b g]
theorem low_val {s : Bool} {n d : Int} (hn : 0 ≤ n) (hd : 0 < d) : Val (low s n d) = Rat.divInt (sv s n) d := by
  obtain ⟨e1, e2⟩ := gcdI_split hn hd
  have hd' := low_pos hn hd
  show Rat.divInt (sv (s && !decide (n / gcdI n d = 0)) (n / gcdI n d)) (d / gcdI n d) = _
  rw [sv_low, Rat.divInt_eq_divInt_iff (by omega) (by omega)]
  have h := low_cross (n / gcdI n d) (d / gcdI n d) (gcdI n d) s
  rw [e1, e2] at h
  exact h
theorem sum_val {s s2 : Bool} {p q r t : Int} (hp : 0 ≤ p) (hq : 0 < q) (hr : 0 ≤ r) (ht : 0 < t) (he : (sumR s s2 p q r t).2.2.2 = 0) : Val (sumR s s2 p q r t) = VF s p q + VF s2 r t := by
  have h1 : 0 < q * t := Int.mul_pos hq ht
  have h2 : 0 ≤ p * t := Int.mul_nonneg hp (Int.le_of_lt ht)
  have h3 : 0 ≤ r * q := Int.mul_nonneg hr (Int.le_of_lt hq)
  unfold VF
  rw [Rat.divInt_add_divInt _ _ (by omega) (by omega)]
  unfold sumR at he ⊢
  by_cases c1 : 200 < (digs (p * t)).length ∨ 200 < (digs (r * q)).length ∨ 200 < (digs (q * t)).length
  · rw [if_pos c1] at he; exact absurd he (by decide)
  · rw [if_neg c1] at he ⊢
    by_cases c2 : (s != s2) = true
    · obtain rfl : s2 = !s := by revert c2; cases s <;> cases s2 <;> simp
      rw [if_pos c2]
      by_cases c3 : p * t < r * q
      · rw [if_pos c3, if_pos c3, low_val (by omega) h1]
        congr 1
        cases s
        · show -(r * q - p * t) = p * t + -r * q
          rw [Int.neg_mul]; omega
        · show r * q - p * t = -p * t + r * q
          rw [Int.neg_mul]; omega
      · rw [if_neg c3, if_neg c3, low_val (by omega) h1]
        congr 1
        cases s
        · show p * t - r * q = p * t + -r * q
          rw [Int.neg_mul]; omega
        · show -(p * t - r * q) = -p * t + r * q
          rw [Int.neg_mul]; omega
    · rw [if_neg c2] at he ⊢
      by_cases c4 : 200 < (digs (p * t + r * q)).length
      · rw [if_pos c4] at he; exact absurd he (by decide)
      · rw [if_neg c4, low_val (by omega) h1]
        congr 1
        obtain rfl : s2 = s := by revert c2; cases s <;> cases s2 <;> simp
        cases s2
        · rfl
        · show -(p * t + r * q) = -p * t + -r * q
          rw [Int.neg_mul, Int.neg_mul]; omega
theorem sv_neg {s : Bool} {r : Int} : sv (!s && !decide (r = 0)) r = - sv s r := by
  rw [sv_low]; cases s <;> simp [sv]
theorem dif_val {s s2 : Bool} {p q r t : Int} (hp : 0 ≤ p) (hq : 0 < q) (hr : 0 ≤ r) (ht : 0 < t) (he : (difR s s2 p q r t).2.2.2 = 0) : Val (difR s s2 p q r t) = VF s p q + -VF s2 r t := by
  unfold difR at he ⊢
  rw [sum_val hp hq hr ht he]
  unfold VF
  rw [sv_neg, Rat.neg_divInt]
theorem prod_val {s s2 : Bool} {p q r t : Int} (hp : 0 ≤ p) (hq : 0 < q) (hr : 0 ≤ r) (ht : 0 < t) (he : (prodR s s2 p q r t).2.2.2 = 0) : Val (prodR s s2 p q r t) = VF s p q * VF s2 r t := by
  unfold VF
  rw [Rat.divInt_mul_divInt]
  unfold prodR at he ⊢
  by_cases c1 : 200 < (digs (p * r)).length ∨ 200 < (digs (q * t)).length
  · rw [if_pos c1] at he; exact absurd he (by decide)
  · rw [if_neg c1, low_val (Int.mul_nonneg hp hr) (Int.mul_pos hq ht)]
    congr 1
    cases s <;> cases s2
    · rfl
    · exact (Int.mul_neg p r).symm
    · exact (Int.neg_mul p r).symm
    · exact (Int.neg_mul_neg p r).symm
theorem inv_val {s : Bool} {r t : Int} : VF s t r = (VF s r t)⁻¹ := by
  unfold VF
  rw [Rat.inv_divInt]
  cases s
  · rfl
  · show Rat.divInt (-t) r = Rat.divInt t (-r)
    rw [Rat.divInt_neg']
theorem quo_val {s s2 : Bool} {p q r t : Int} (hp : 0 ≤ p) (hq : 0 < q) (hr : 0 < r) (ht : 0 < t) (he : (quoR s s2 p q r t).2.2.2 = 0) : Val (quoR s s2 p q r t) = VF s p q * (VF s2 r t)⁻¹ := by
  unfold quoR at he ⊢
  rw [if_neg (by omega)] at he ⊢
  rw [prod_val hp hq (Int.le_of_lt ht) hr he, inv_val (s := s2) (r := r) (t := t)]
/-- A valid fraction. -/
structure Fr (s : Bool) (p q : Int) : Prop where
  n : 0 ≤ p
  d : 0 < q
  g : gcdI p q = 1
  z : s = true → 0 < p
theorem GoodF.fr {s : Bool} {p q e : Int} (h : GoodF (s, p, q, e)) (he : e = 0) : Fr s p q := ⟨(h he).1, (h he).2.1, (h he).2.2.1, (h he).2.2.2⟩
theorem Fr.vld {s : Bool} {p q : Int} (h : Fr s p q) : decide (0 < q ∧ gcdI p q = 1 ∧ (s = true → 0 < p)) = true := decide_eq_true ⟨h.d, h.g, h.z⟩
theorem fr_of {s : Bool} {L M : List Int} (h : vldF s L M = true) : Fr s (val L) (val M) := by
  obtain ⟨a1, a2, a3, a4, a5⟩ := vldF_pos h
  exact ⟨(vldB_true a1).2.2.2.1, a3, a4, a5⟩
theorem co_eq {a b c d : Nat} (h1 : Nat.gcd a b = 1) (h2 : Nat.gcd c d = 1) (hb : 0 < b) (h : a * d = c * b) : a = c ∧ b = d := by
  have d1 : b ∣ d := by
    have k : Nat.Coprime b a := by show Nat.gcd b a = 1; rw [Nat.gcd_comm]; exact h1
    exact k.dvd_of_dvd_mul_left (by rw [h]; exact Nat.dvd_mul_left b c)
  have d2 : d ∣ b := by
    have k : Nat.Coprime d c := by show Nat.gcd d c = 1; rw [Nat.gcd_comm]; exact h2
    exact k.dvd_of_dvd_mul_left (by rw [← h]; exact Nat.dvd_mul_left d a)
  have e : b = d := Nat.dvd_antisymm d1 d2
  subst e
  exact ⟨Nat.eq_of_mul_eq_mul_right hb h, rfl⟩
theorem cross_eq {s s2 : Bool} {p q r t : Int} (h : Fr s p q) (k : Fr s2 r t) (e : sv s p * t = sv s2 r * q) : s = s2 ∧ p = r ∧ q = t := by
  have n1 : 0 ≤ p * t := Int.mul_nonneg h.n (Int.le_of_lt k.d)
  have n2 : 0 ≤ r * q := Int.mul_nonneg k.n (Int.le_of_lt h.d)
  have key : s = s2 ∧ p * t = r * q := by
    cases s <;> cases s2
    · exact ⟨rfl, e⟩
    · have := Int.mul_pos (k.z rfl) h.d
      have e : p * t = -r * q := e
      rw [Int.neg_mul] at e
      omega
    · have := Int.mul_pos (h.z rfl) k.d
      have e : -p * t = r * q := e
      rw [Int.neg_mul] at e
      omega
    · have e : -p * t = -r * q := e
      rw [Int.neg_mul, Int.neg_mul] at e
      exact ⟨rfl, by omega⟩
  refine ⟨key.1, ?_⟩
  obtain ⟨_, e⟩ := key
  obtain ⟨h1, h2, h3, _⟩ := h
  obtain ⟨k1, k2, k3, _⟩ := k
  obtain ⟨a, rfl⟩ := Int.eq_ofNat_of_zero_le h1
  obtain ⟨b, rfl⟩ := Int.eq_ofNat_of_zero_le (Int.le_of_lt h2)
  obtain ⟨c, rfl⟩ := Int.eq_ofNat_of_zero_le k1
  obtain ⟨d, rfl⟩ := Int.eq_ofNat_of_zero_le (Int.le_of_lt k2)
  rw [gcdI_nat] at h3 k3
  obtain ⟨e1, e2⟩ := co_eq (a := a) (b := b) (c := c) (d := d) (by exact_mod_cast h3) (by exact_mod_cast k3) (by omega) (by exact_mod_cast e)
  exact ⟨by rw [e1], by rw [e2]⟩
/-- Fractions with the same value are equal. -/
theorem val_eq {s s2 : Bool} {p q r t : Int} (h : Fr s p q) (k : Fr s2 r t) (e : VF s p q = VF s2 r t) : s = s2 ∧ p = r ∧ q = t :=
  cross_eq h k ((Rat.divInt_eq_divInt_iff (by have := h.d; omega) (by have := k.d; omega)).1 e)
/-! ### The order -/
theorem cmpV_sgn {s s2 : Bool} {p q r t : Int} (h : Fr s p q) (k : Fr s2 r t) : cmpV s s2 p q r t = sgn (sv s p * t - sv s2 r * q) := by
  have n1 : 0 ≤ p * t := Int.mul_nonneg h.n (Int.le_of_lt k.d)
  have n2 : 0 ≤ r * q := Int.mul_nonneg k.n (Int.le_of_lt h.d)
  unfold cmpV
  cases s <;> cases s2
  · rfl
  · have := Int.mul_pos (k.z rfl) h.d
    rw [if_neg (by simp), if_pos rfl]
    exact (sgn_gt (by show 0 < p * t - -r * q; rw [Int.neg_mul]; omega)).symm
  · have := Int.mul_pos (h.z rfl) k.d
    rw [if_pos rfl, if_neg (by simp)]
    exact (sgn_lt (by show -p * t - r * q < 0; rw [Int.neg_mul]; omega)).symm
  · rw [if_pos rfl, if_pos rfl]
    congr 1
    show r * q - p * t = -p * t - -r * q
    rw [Int.neg_mul, Int.neg_mul]
    omega
theorem sgn_zero_iff {a : Int} : sgn a = 0 ↔ a = 0 := by
  unfold sgn
  split
  · constructor <;> intro h <;> omega
  · split <;> constructor <;> intro h <;> omega
theorem sgn_pos_iff {a : Int} : 0 < sgn a ↔ 0 < a := by
  unfold sgn
  split
  · constructor <;> intro h <;> omega
  · split <;> constructor <;> intro h <;> omega
theorem sgn_mul {a k : Int} (h : 0 < k) : sgn (a * k) = sgn a := by
  rcases Int.lt_trichotomy a 0 with c | c | c
  · rw [sgn_lt c, sgn_lt (Int.mul_neg_of_neg_of_pos c h)]
  · rw [c, Int.zero_mul]
  · rw [sgn_gt c, sgn_gt (Int.mul_pos c h)]
theorem cmpR_flip (s s2 : Bool) (L M L2 M2 : List Int) : cmpR s2 s L2 M2 L M = - cmpR s s2 L M L2 M2 := by
  by_cases h : vldF s L M = true
  · by_cases k : vldF s2 L2 M2 = true
    · rw [cmpR_ok h k, cmpR_ok k h, cmpV_sgn (fr_of h) (fr_of k), cmpV_sgn (fr_of k) (fr_of h), ← sgn_neg, Int.neg_sub]
    · rw [cmpR_no (fun e => k e.2), cmpR_no (fun e => k e.1)]; rfl
  · rw [cmpR_no (fun e => h e.1), cmpR_no (fun e => h e.2)]; rfl
theorem cmpV_zero {s s2 : Bool} {p q r t : Int} (h : Fr s p q) (k : Fr s2 r t) : cmpV s s2 p q r t = 0 ↔ (s = s2 ∧ p = r ∧ q = t) := by
  rw [cmpV_sgn h k, sgn_zero_iff]
  constructor
  · intro e; exact cross_eq h k (by omega)
  · rintro ⟨rfl, rfl, rfl⟩; omega
/-- The order is transitive. -/
theorem cmpV_trans {s s2 s3 : Bool} {p q r t u v : Int} (h : Fr s p q) (k : Fr s2 r t) (l : Fr s3 u v) (h1 : cmpV s s2 p q r t ≤ 0) (h2 : cmpV s2 s3 r t u v ≤ 0) : cmpV s s3 p q u v ≤ 0 := by
  rw [cmpV_sgn h k] at h1
  rw [cmpV_sgn k l] at h2
  rw [cmpV_sgn h l]
  have a1 : ¬ 0 < sv s p * t - sv s2 r * q := fun c => by have := sgn_pos_iff.2 c; omega
  have a2 : ¬ 0 < sv s2 r * v - sv s3 u * t := fun c => by have := sgn_pos_iff.2 c; omega
  have key : ¬ 0 < sv s p * v - sv s3 u * q := by
    intro c
    generalize sv s p = P at *
    generalize sv s2 r = R at *
    generalize sv s3 u = U at *
    have ht := k.d
    have b1 : (P * t) * v ≤ (R * q) * v := Int.mul_le_mul_of_nonneg_right (by omega) (Int.le_of_lt l.d)
    have b2 : (R * v) * q ≤ (U * t) * q := Int.mul_le_mul_of_nonneg_right (by omega) (Int.le_of_lt h.d)
    have b3 : (U * q) * t < (P * v) * t := Int.mul_lt_mul_of_pos_right (by omega) ht
    have e1 : (P * t) * v = (P * v) * t := by rw [Int.mul_assoc, Int.mul_comm t v, ← Int.mul_assoc]
    have e2 : (R * q) * v = (R * v) * q := by rw [Int.mul_assoc, Int.mul_comm q v, ← Int.mul_assoc]
    have e3 : (U * t) * q = (U * q) * t := by rw [Int.mul_assoc, Int.mul_comm t q, ← Int.mul_assoc]
    omega
  by_cases c : 0 < sgn (sv s p * v - sv s3 u * q)
  · exact absurd (sgn_pos_iff.1 c) key
  · omega
/-- The sign of the difference is the order. -/
theorem dif_cmp {s s2 : Bool} {p q r t : Int} (h : Fr s p q) (k : Fr s2 r t) {sd : Bool} {pd qd : Int} (hd : difR s s2 p q r t = (sd, pd, qd, 0)) (l : Fr sd pd qd) : cmpV sd false pd qd 0 1 = cmpV s s2 p q r t := by
  have hv := dif_val h.n h.d k.n k.d (s := s) (s2 := s2) (by rw [hd])
  rw [hd] at hv
  unfold VF Val at hv
  rw [Rat.neg_divInt, Rat.divInt_add_divInt _ _ (by have := h.d; omega) (by have := k.d; omega)] at hv
  have hqt : 0 < q * t := Int.mul_pos h.d k.d
  have hc := (Rat.divInt_eq_divInt_iff (by have := l.d; show qd ≠ 0; omega) (by omega)).1 hv
  have hc : sv sd pd * (q * t) = (sv s p * t + -sv s2 r * q) * qd := hc
  rw [cmpV_sgn h k, cmpV_sgn l ⟨Int.le_refl _, by omega, by decide, by simp⟩, sv_f, Int.zero_mul, Int.sub_zero, Int.mul_one, ← sgn_mul (a := sv sd pd) hqt, hc, sgn_mul l.d, Int.neg_mul]
  rfl
end Go.Proofs.YtbhneddjjgegmaaGreatDoor
