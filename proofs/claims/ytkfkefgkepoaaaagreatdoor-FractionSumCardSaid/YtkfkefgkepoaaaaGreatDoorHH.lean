/- Plain mathematics: fractions with signs as rational numbers. -/
import Derived.Test.YtkfkefgkepoaaaaGreatDoorHE
import Derived.Deep.RegionHeld3
import Derived.StillTailTactics
import Derived.Deep.QuietTactic
import Derived.BigQuiet
namespace Go.Proofs.YtkfkefgkepoaaaaGreatDoor
open Go.RowKit
set_option linter.unusedVariables false
set_option maxRecDepth 100000

def sv (s : Bool) (p : Int) : Int := if s = true then -p else p
theorem sv_f (p : Int) : sv false p = p := rfl
theorem sv_t (p : Int) : sv true p = -p := rfl
theorem gcdI_split {n d : Int} (hn : 0 ≤ n) (hd : 0 < d) : n / gcdI n d * gcdI n d = n ∧ d / gcdI n d * gcdI n d = d := by
  obtain ⟨a, rfl⟩ := Int.eq_ofNat_of_zero_le hn
  obtain ⟨b, rfl⟩ := Int.eq_ofNat_of_zero_le (Int.le_of_lt hd)
  rw [gcdI_nat]
  exact ⟨Int.ediv_mul_cancel (Int.ofNat_dvd.2 (Nat.gcd_dvd_left a b)), Int.ediv_mul_cancel (Int.ofNat_dvd.2 (Nat.gcd_dvd_right a b))⟩
/-- The value of an answer. -/
def Val (r : Bool × Int × Int × Int) : Rat := Rat.divInt (sv r.1 r.2.1) r.2.2.1
/-- The value of a fraction. -/
def VF (s : Bool) (p q : Int) : Rat := Rat.divInt (sv s p) q
theorem sv_low (s : Bool) (p : Int) : sv (s && !decide (p = 0)) p = sv s p := by
  by_cases h : p = 0
  · subst h; cases s <;> simp [sv]
  · rw [decide_eq_false h]; cases s <;> simp
theorem low_cross (a b g : Int) (s : Bool) : sv s a * (b * g) = sv s (a * g) * b := by
  cases s
  · show a * (b * g) = a * g * b
    rw [Int.mul_assoc, Int.mul_comm b g]
  · show -a * (b * g) = -(a * g) * b
    rw [Int.neg_mul, Int.neg_mul, Int.mul_assoc, Int.mul_comm b g]
theorem low_val {s : Bool} {n d : Int} (hn : 0 ≤ n) (hd : 0 < d) : Val (low s n d) = Rat.divInt (sv s n) d := by
  obtain ⟨e1, e2⟩ := gcdI_split hn hd
  have hd' := low_pos hn hd
  show Rat.divInt (sv (s && !decide (n / gcdI n d = 0)) (n / gcdI n d)) (d / gcdI n d) = _
  rw [sv_low, Rat.divInt_eq_divInt_iff (by omega) (by omega)]
  have h := low_cross (n / gcdI n d) (d / gcdI n d) (gcdI n d) s
  rw [e1, e2] at h
  exact h
theorem sum_val {s s2 : Bool} {p q r t : Int} (hp : 0 ≤ p) (hq : 0 < q) (hr : 0 ≤ r) (ht : 0 < t) (he : (sumR s s2 p q r t).2.2.2 = 0) : Val (sumR s s2 p q r t) = VF s p q + VF s2 r t := by
  have h1 : 0 < q * t := Int.mul_pos hq ht
  have h2 : 0 ≤ p * t := Int.mul_nonneg hp (Int.le_of_lt ht)
  have h3 : 0 ≤ r * q := Int.mul_nonneg hr (Int.le_of_lt hq)
  unfold VF
  rw [Rat.divInt_add_divInt _ _ (by omega) (by omega)]
  unfold sumR at he ⊢
  by_cases c1 : 200 < (digs (p * t)).length ∨ 200 < (digs (r * q)).length ∨ 200 < (digs (q * t)).length
  · rw [if_pos c1] at he; exact absurd he (by decide)
  · rw [if_neg c1] at he ⊢
    by_cases c2 : (s != s2) = true
    · obtain rfl : s2 = !s := by revert c2; cases s <;> cases s2 <;> simp
      rw [if_pos c2]
      by_cases c3 : p * t < r * q
      · rw [if_pos c3, if_pos c3, low_val (by omega) h1]
        congr 1
        cases s
        · show -(r * q - p * t) = p * t + -r * q
          rw [Int.neg_mul]; omega
        · show r * q - p * t = -p * t + r * q
          rw [Int.neg_mul]; omega
      · rw [if_neg c3, if_neg c3, low_val (by omega) h1]
        congr 1
        cases s
        · show p * t - r * q = p * t + -r * q
          rw [Int.neg_mul]; omega
        · show -(p * t - r * q) = -p * t + r * q
          rw [Int.neg_mul]; omega
    · rw [if_neg c2] at he ⊢
      by_cases c4 : 200 < (digs (p * t + r * q)).length
      · rw [if_pos c4] at he; exact absurd he (by decide)
      · rw [if_neg c4, low_val (by omega) h1]
        congr 1
        obtain rfl : s2 = s := by revert c2; cases s <;> cases s2 <;> simp
        cases s2
        · rfl
        · show -(p * t + r * q) = -p * t + -r * q
          rw [Int.neg_mul, Int.neg_mul]; omega
theorem sv_neg {s : Bool} {r : Int} : sv (!s && !decide (r = 0)) r = - sv s r := by
  rw [sv_low]; cases s <;> simp [sv]
theorem dif_val {s s2 : Bool} {p q r t : Int} (hp : 0 ≤ p) (hq : 0 < q) (hr : 0 ≤ r) (ht : 0 < t) (he : (difR s s2 p q r t).2.2.2 = 0) : Val (difR s s2 p q r t) = VF s p q + -VF s2 r t := by
  unfold difR at he ⊢
  rw [sum_val hp hq hr ht he]
  unfold VF
  rw [sv_neg, Rat.neg_divInt]
theorem prod_val {s s2 : Bool} {p q r t : Int} (hp : 0 ≤ p) (hq : 0 < q) (hr : 0 ≤ r) (ht : 0 < t) (he : (prodR s s2 p q r t).2.2.2 = 0) : Val (prodR s s2 p q r t) = VF s p q * VF s2 r t := by
  unfold VF
  rw [Rat.divInt_mul_divInt]
  unfold prodR at he ⊢
  by_cases c1 : 200 < (digs (p * r)).length ∨ 200 < (digs (q * t)).length
  · rw [if_pos c1] at he; exact absurd he (by decide)
  · rw [if_neg c1, low_val (Int.mul_nonneg hp hr) (Int.mul_pos hq ht)]
    congr 1
    cases s <;> cases s2
    · rfl
    · exact (Int.mul_neg p r).symm
    · exact (Int.neg_mul p r).symm
    · exact (Int.neg_mul_neg p r).symm
theorem inv_val {s : Bool} {r t : Int} : VF s t r = (VF s r t)⁻¹ := by
  unfold VF
  rw [Rat.inv_divInt]
  cases s
  · rfl
  · show Rat.divInt (-t) r = Rat.divInt t (-r)
    rw [Rat.divInt_neg']
theorem quo_val {s s2 : Bool} {p q r t : Int} (hp : 0 ≤ p) (hq : 0 < q) (hr : 0 < r) (ht : 0 < t) (he : (quoR s s2 p q r t).2.2.2 = 0) : Val (quoR s s2 p q r t) = VF s p q * (VF s2 r t)⁻¹ := by
  unfold quoR at he ⊢
  rw [if_neg (by omega)] at he ⊢
  rw [prod_val hp hq (Int.le_of_lt ht) hr he, inv_val (s := s2) (r := r) (t := t)]
/-- A valid fraction. -/
structure Fr (s : Bool) (p q : Int) : Prop where
  n : 0 ≤ p
  d : 0 < q
  g : gcdI p q = 1
  z : s = true → 0 < p
theorem GoodF.fr {s : Bool} {p q e : Int} (h : GoodF (s, p, q, e)) (he : e = 0) : Fr s p q := ⟨(h he).1, (h he).2.1, (h he).2.2.1, (h he).2.2.2⟩
theorem Fr.vld {s : Bool} {p q : Int} (h : Fr s p q) : decide (0 < q ∧ gcdI p q = 1 ∧ (s = true → 0 < p)) = true := decide_eq_true ⟨h.d, h.g, h.z⟩
theorem fr_of {s : Bool} {L M : List Int} (h : vldF s L M = true) : Fr s (val L) (val M) := by
  obtain ⟨a1, a2, a3, a4, a5⟩ := vldF_pos h
  exact ⟨(vldB_true a1).2.2.2.1, a3, a4, a5⟩
theorem co_eq {a b c d : Nat} (h1 : Nat.gcd a b = 1) (h2 : Nat.gcd c d = 1) (hb : 0 < b) (h : a * d = c * b) : a = c ∧ b = d := by
  have d1 : b ∣ d := by
    have k : Nat.Coprime b a := by show Nat.gcd b a = 1; rw [Nat.gcd_comm]; exact h1
    exact k.dvd_of_dvd_mul_left (by rw [h]; exact Nat.dvd_mul_left b c)
  have d2 : d ∣ b := by
    have k : Nat.Coprime d c := by show Nat.gcd d c = 1; rw [Nat.gcd_comm]; exact h2
    exact k.dvd_of_dvd_mul_left (by rw [← h]; exact Nat.dvd_mul_left d a)
  have e : b = d := Nat.dvd_antisymm d1 d2
  subst e
  exact ⟨Nat.eq_of_mul_eq_mul_right hb h, rfl⟩
theorem cross_eq {s s2 : Bool} {p q r t : Int} (h : Fr s p q) (k : Fr s2 r t) (e : sv s p * t = sv s2 r * q) : s = s2 ∧ p = r ∧ q = t := by
  have n1 : 0 ≤ p * t := Int.mul_nonneg h.n (Int.le_of_lt k.d)
  have n2 : 0 ≤ r * q := Int.mul_nonneg k.n (Int.le_of_lt h.d)
  have key : s = s2 ∧ p * t = r * q := by
    cases s <;> cases s2
    · exact ⟨rfl, e⟩
    · have := Int.mul_pos (k.z rfl) h.d
      have e : p * t = -r * q := e
      rw [Int.neg_mul] at e
      omega
    · have := Int.mul_pos (h.z rfl) k.d
      have e : -p * t = r * q := e
      rw [Int.neg_mul] at e
      omega
    · have e : -p * t = -r * q := e
      rw [Int.neg_mul, Int.neg_mul] at e
      exact ⟨rfl, by omega⟩
  refine ⟨key.1, ?_⟩
  obtain ⟨_, e⟩ := key
  obtain ⟨h1, h2, h3, _⟩ := h
  obtain ⟨k1, k2, k3, _⟩ := k
  obtain ⟨a, rfl⟩ := Int.eq_ofNat_of_zero_le h1
  obtain ⟨b, rfl⟩ := Int.eq_ofNat_of_zero_le (Int.le_of_lt h2)
  obtain ⟨c, rfl⟩ := Int.eq_ofNat_of_zero_le k1
  obtain ⟨d, rfl⟩ := Int.eq_ofNat_of_zero_le (Int.le_of_lt k2)
  rw [gcdI_nat] at h3 k3
  obtain ⟨e1, e2⟩ := co_eq (a := a) (b := b) (c := c) (d := d) (by exact_mod_cast h3) (by exact_mod_cast k3) (by omega) (by exact_mod_cast e)
  exact ⟨by rw [e1], by rw [e2]⟩
/-- Fractions with the same value are equal. -/
theorem val_eq {s s2 : Bool} {p q r t : Int} (h : Fr s p q) (k : Fr s2 r t) (e : VF s p q = VF s2 r t) : s = s2 ∧ p = r ∧ q = t :=
  cross_eq h k ((Rat.divInt_eq_divInt_iff (by have := h.d; omega) (by have := k.d; omega)).1 e)
/-! ### The order -/
theorem cmpV_sgn {s s2 : Bool} {p q r t : Int} (h : Fr s p q) (k : Fr s2 r t) : cmpV s s2 p q r t = sgn (sv s p * t - sv s2 r * q) := by
  have n1 : 0 ≤ p * t := Int.mul_nonneg h.n (Int.le_of_lt k.d)
  have n2 : 0 ≤ r * q := Int.mul_nonneg k.n (Int.le_of_lt h.d)
  unfold cmpV
  cases s <;> cases s2
  · rfl
  · have := Int.mul_pos (k.z rfl) h.d
    rw [if_neg (by simp), if_pos rfl]
    exact (sgn_gt (by show 0 < p * t - -r * q; rw [Int.neg_mul]; omega)).symm
  · have := Int.mul_pos (h.z rfl) k.d
    rw [if_pos rfl, if_neg (by simp)]
    exact (sgn_lt (by show -p * t - r * q < 0; rw [Int.neg_mul]; omega)).symm
  · rw [if_pos rfl, if_pos rfl]
    congr 1
    show r * q - p * t = -p * t - -r * q
    rw [Int.neg_mul, Int.neg_mul]
    omega
theorem sgn_zero_iff {a : Int} : sgn a = 0 ↔ a = 0 := by
  unfold sgn
  split
  · constructor <;> intro h <;> omega
  · split <;> constructor <;> intro h <;> omega
theorem sgn_pos_iff {a : Int} : 0 < sgn a ↔ 0 < a := by
  unfold sgn
  split
  · constructor <;> intro h <;> omega
  · split <;> constructor <;> intro h <;> omega
theorem sgn_mul {a k : Int} (h : 0 < k) : sgn (a * k) = sgn a := by
  rcases Int.lt_trichotomy a 0 with c | c | c
  · rw [sgn_lt c, sgn_lt (Int.mul_neg_of_neg_of_pos c h)]
  · rw [c, Int.zero_mul]
  · rw [sgn_gt c, sgn_gt (Int.mul_pos c h)]
theorem cmpR_flip (s s2 : Bool) (L M L2 M2 : List Int) : cmpR s2 s L2 M2 L M = - cmpR s s2 L M L2 M2 := by
  by_cases h : vldF s L M = true
  · by_cases k : vldF s2 L2 M2 = true
    · rw [cmpR_ok h k, cmpR_ok k h, cmpV_sgn (fr_of h) (fr_of k), cmpV_sgn (fr_of k) (fr_of h), ← sgn_neg, Int.neg_sub]
    · rw [cmpR_no (fun e => k e.2), cmpR_no (fun e => k e.1)]; rfl
  · rw [cmpR_no (fun e => h e.1), cmpR_no (fun e => h e.2)]; rfl
theorem cmpV_zero {s s2 : Bool} {p q r t : Int} (h : Fr s p q) (k : Fr s2 r t) : cmpV s s2 p q r t = 0 ↔ (s = s2 ∧ p = r ∧ q = t) := by
  rw [cmpV_sgn h k, sgn_zero_iff]
  constructor
  · intro e; exact cross_eq h k (by omega)
  · rintro ⟨rfl, rfl, rfl⟩; omega
/-- The order is transitive. -/
theorem cmpV_trans {s s2 s3 : Bool} {p q r t u v : Int} (h : Fr s p q) (k : Fr s2 r t) (l : Fr s3 u v) (h1 : cmpV s s2 p q r t ≤ 0) (h2 : cmpV s2 s3 r t u v ≤ 0) : cmpV s s3 p q u v ≤ 0 := by
  rw [cmpV_sgn h k] at h1
  rw [cmpV_sgn k l] at h2
  rw [cmpV_sgn h l]
  have a1 : ¬ 0 < sv s p * t - sv s2 r * q := fun c => by have := sgn_pos_iff.2 c; omega
  have a2 : ¬ 0 < sv s2 r * v - sv s3 u * t := fun c => by have := sgn_pos_iff.2 c; omega
  have key : ¬ 0 < sv s p * v - sv s3 u * q := by
    intro c
    generalize sv s p = P at *
    generalize sv s2 r = R at *
    generalize sv s3 u = U at *
    have ht := k.d
    have b1 : (P * t) * v ≤ (R * q) * v := Int.mul_le_mul_of_nonneg_right (by omega) (Int.le_of_lt l.d)
    have b2 : (R * v) * q ≤ (U * t) * q := Int.mul_le_mul_of_nonneg_right (by omega) (Int.le_of_lt h.d)
    have b3 : (U * q) * t < (P * v) * t := Int.mul_lt_mul_of_pos_right (by omega) ht
    have e1 : (P * t) * v = (P * v) * t := by rw [Int.mul_assoc, Int.mul_comm t v, ← Int.mul_assoc]
    have e2 : (R * q) * v = (R * v) * q := by rw [Int.mul_assoc, Int.mul_comm q v, ← Int.mul_assoc]
    have e3 : (U * t) * q = (U * q) * t := by rw [Int.mul_assoc, Int.mul_comm t q, ← Int.mul_assoc]
    omega
  by_cases c : 0 < sgn (sv s p * v - sv s3 u * q)
  · exact absurd (sgn_pos_iff.1 c) key
  · omega
/-- The sign of the difference is the order. -/
theorem dif_cmp {s s2 : Bool} {p q r t : Int} (h : Fr s p q) (k : Fr s2 r t) {sd : Bool} {pd qd : Int} (hd : difR s s2 p q r t = (sd, pd, qd, 0)) (l : Fr sd pd qd) : cmpV sd false pd qd 0 1 = cmpV s s2 p q r t := by
  have hv := dif_val h.n h.d k.n k.d (s := s) (s2 := s2) (by rw [hd])
  rw [hd] at hv
  unfold VF Val at hv
  rw [Rat.neg_divInt, Rat.divInt_add_divInt _ _ (by have := h.d; omega) (by have := k.d; omega)] at hv
  have hqt : 0 < q * t := Int.mul_pos h.d k.d
  have hc := (Rat.divInt_eq_divInt_iff (by have := l.d; show qd ≠ 0; omega) (by omega)).1 hv
  have hc : sv sd pd * (q * t) = (sv s p * t + -sv s2 r * q) * qd := hc
  rw [cmpV_sgn h k, cmpV_sgn l ⟨Int.le_refl _, by omega, by decide, by simp⟩, sv_f, Int.zero_mul, Int.sub_zero, Int.mul_one, ← sgn_mul (a := sv sd pd) hqt, hc, sgn_mul l.d, Int.neg_mul]
  rfl
end Go.Proofs.YtkfkefgkepoaaaaGreatDoor
/- What the statement about the order of fractions answers: true, whatever the input. -/
namespace Go.Proofs.YtkfkefgkepoaaaaGreatDoor
open Go.RowKit
set_option linter.unusedVariables false
set_option maxRecDepth 100000

theorem dec3_no {s s2 : Bool} {x y x2 y2 : Int} (h : ¬ (s = s2 ∧ x = x2 ∧ y = y2)) : decide (s = s2 ∧ x = x2 ∧ y = y2) = false := decide_eq_false h
set_option maxHeartbeats 4000000 in
theorem same03_b (s s2 : Bool) (n c m d n2 c2 m2 d2 : Nat) (x y x2 y2 : Int) (A B A2 B2 : Option Addr) (W : World) (hx : NumAt W (.slice A n c) x) (hy : NumAt W (.slice B m d) y) (hx2 : NumAt W (.slice A2 n2 c2) x2) (hy2 : NumAt W (.slice B2 m2 d2) y2) :
    Calls Tryz.prog 9 #[.agg #[.bool s, .slice A n c, .slice B m d], .agg #[.bool s2, .slice A2 n2 c2, .slice B2 m2 d2]] W fun e w' => e = .returned (.bool (decide (s = s2 ∧ x = x2 ∧ y = y2))) ∧ Below W.heap.size W w' := by
  by_cases hs : s = s2
  · subst hs
    by_cases ex : x = x2
    · by_cases ey : y = y2
      · rw [decide_eq_true (⟨rfl, ex, ey⟩ : s = s ∧ x = x2 ∧ y = y2)]
        exact same03_t s n c m d n2 c2 m2 d2 x y x2 y2 A B A2 B2 W hx hy hx2 hy2 ex ey
      · rw [dec3_no (fun h : s = s ∧ x = x2 ∧ y = y2 => ey h.2.2)]
        have H1 := Lib.hid (show decide (x = x2) = true from decide_eq_true ex)
        have H2 := Lib.hid (show decide (y = y2) = false from decide_eq_false ey)
        clear ex ey
        cases s
        · have VW := ((((((LiveA.start W).num hy2).num hx2).num hy).num hx).newF (.bool false) (.slice A n c) (.slice B m d) 32).newF (.bool false) (.slice A2 n2 c2) (.slice B2 m2 d2) 32
          rw [show (W.alloc (.cells #[.bool false, .slice A n c, .slice B m d] 32)).heap.size = W.heap.size + 1 by simp] at VW
          have V0 := Lib.hid VW
          clear VW hx hy hx2 hy2
          go_enter Tryz.func9, Tryz.ntmps9
          obtain ⟨x0_f0, y0_f0⟩ := V0.out.box (.tail _ (.tail _ (.tail _ (.tail _ (.tail _ (.head _))))))
          obtain ⟨x0_f1, y0_f1⟩ := V0.out.box (.tail _ (.tail _ (.tail _ (.tail _ (.head _)))))
          obtain ⟨x0_g0, y0_g0⟩ := V0.out.box (.tail _ (.tail _ (.head _)))
          obtain ⟨x0_g1, y0_g1⟩ := V0.out.box (.tail _ (.head _))
          go_wp2_with fail
          refine (same_numB n c n2 c2 _ _ A A2 _ (V0.out.at (.head _)) (V0.out.at (.tail _ (.tail _ (.head _))))).mono ?_
          rintro e w1 ⟨rfl, b1⟩
          clear x0_f0 y0_f0 x0_f1 y0_f1 x0_g0 y0_g0 x0_g1 y0_g1
          have V1 := Lib.hid (V0.out.go b1)
          clear b1
          obtain ⟨x1_f2, y1_f2⟩ := V1.out.box (.tail _ (.tail _ (.tail _ (.head _))))
          obtain ⟨x1_g2, y1_g2⟩ := V1.out.box (.head _)
          rw [H1.out]
          go_wp2_with fail
          refine (same_numB m d m2 d2 _ _ B B2 _ (V1.out.at (.tail _ (.head _))) (V1.out.at (.tail _ (.tail _ (.tail _ (.head _)))))).mono ?_
          rintro e w2 ⟨rfl, b2⟩
          clear x1_f2 y1_f2 x1_g2 y1_g2
          have V2 := Lib.hid (V1.out.go b2)
          clear b2
          rw [H2.out]
          go_wp2_with fail
          go_ret
          exact ⟨rfl, V2.out.2.2⟩
        · have VW := ((((((LiveA.start W).num hy2).num hx2).num hy).num hx).newF (.bool true) (.slice A n c) (.slice B m d) 32).newF (.bool true) (.slice A2 n2 c2) (.slice B2 m2 d2) 32
          rw [show (W.alloc (.cells #[.bool true, .slice A n c, .slice B m d] 32)).heap.size = W.heap.size + 1 by simp] at VW
          have V0 := Lib.hid VW
          clear VW hx hy hx2 hy2
          go_enter Tryz.func9, Tryz.ntmps9
          obtain ⟨x0_f0, y0_f0⟩ := V0.out.box (.tail _ (.tail _ (.tail _ (.tail _ (.tail _ (.head _))))))
          obtain ⟨x0_f1, y0_f1⟩ := V0.out.box (.tail _ (.tail _ (.tail _ (.tail _ (.head _)))))
          obtain ⟨x0_g0, y0_g0⟩ := V0.out.box (.tail _ (.tail _ (.head _)))
          obtain ⟨x0_g1, y0_g1⟩ := V0.out.box (.tail _ (.head _))
          go_wp2_with fail
          refine (same_numB n c n2 c2 _ _ A A2 _ (V0.out.at (.head _)) (V0.out.at (.tail _ (.tail _ (.head _))))).mono ?_
          rintro e w1 ⟨rfl, b1⟩
          clear x0_f0 y0_f0 x0_f1 y0_f1 x0_g0 y0_g0 x0_g1 y0_g1
          have V1 := Lib.hid (V0.out.go b1)
          clear b1
          obtain ⟨x1_f2, y1_f2⟩ := V1.out.box (.tail _ (.tail _ (.tail _ (.head _))))
          obtain ⟨x1_g2, y1_g2⟩ := V1.out.box (.head _)
          rw [H1.out]
          go_wp2_with fail
          refine (same_numB m d m2 d2 _ _ B B2 _ (V1.out.at (.tail _ (.head _))) (V1.out.at (.tail _ (.tail _ (.tail _ (.head _)))))).mono ?_
          rintro e w2 ⟨rfl, b2⟩
          clear x1_f2 y1_f2 x1_g2 y1_g2
          have V2 := Lib.hid (V1.out.go b2)
          clear b2
          rw [H2.out]
          go_wp2_with fail
          go_ret
          exact ⟨rfl, V2.out.2.2⟩
    · rw [dec3_no (fun h : s = s ∧ x = x2 ∧ y = y2 => ex h.2.1)]
      have H1 := Lib.hid (show decide (x = x2) = false from decide_eq_false ex)
      clear ex
      cases s
      · have VW := ((((((LiveA.start W).num hy2).num hx2).num hy).num hx).newF (.bool false) (.slice A n c) (.slice B m d) 32).newF (.bool false) (.slice A2 n2 c2) (.slice B2 m2 d2) 32
        rw [show (W.alloc (.cells #[.bool false, .slice A n c, .slice B m d] 32)).heap.size = W.heap.size + 1 by simp] at VW
        have V0 := Lib.hid VW
        clear VW hx hy hx2 hy2
        go_enter Tryz.func9, Tryz.ntmps9
        obtain ⟨x0_f0, y0_f0⟩ := V0.out.box (.tail _ (.tail _ (.tail _ (.tail _ (.tail _ (.head _))))))
        obtain ⟨x0_f1, y0_f1⟩ := V0.out.box (.tail _ (.tail _ (.tail _ (.tail _ (.head _)))))
        obtain ⟨x0_g0, y0_g0⟩ := V0.out.box (.tail _ (.tail _ (.head _)))
        obtain ⟨x0_g1, y0_g1⟩ := V0.out.box (.tail _ (.head _))
        go_wp2_with fail
        refine (same_numB n c n2 c2 _ _ A A2 _ (V0.out.at (.head _)) (V0.out.at (.tail _ (.tail _ (.head _))))).mono ?_
        rintro e w1 ⟨rfl, b1⟩
        clear x0_f0 y0_f0 x0_f1 y0_f1 x0_g0 y0_g0 x0_g1 y0_g1
        have V1 := Lib.hid (V0.out.go b1)
        clear b1
        obtain ⟨x1_f2, y1_f2⟩ := V1.out.box (.tail _ (.tail _ (.tail _ (.head _))))
        obtain ⟨x1_g2, y1_g2⟩ := V1.out.box (.head _)
        rw [H1.out]
        clear x1_f2 y1_f2 x1_g2 y1_g2
        go_wp2_with fail
        go_ret
        exact ⟨rfl, V1.out.2.2⟩
      · have VW := ((((((LiveA.start W).num hy2).num hx2).num hy).num hx).newF (.bool true) (.slice A n c) (.slice B m d) 32).newF (.bool true) (.slice A2 n2 c2) (.slice B2 m2 d2) 32
        rw [show (W.alloc (.cells #[.bool true, .slice A n c, .slice B m d] 32)).heap.size = W.heap.size + 1 by simp] at VW
        have V0 := Lib.hid VW
        clear VW hx hy hx2 hy2
        go_enter Tryz.func9, Tryz.ntmps9
        obtain ⟨x0_f0, y0_f0⟩ := V0.out.box (.tail _ (.tail _ (.tail _ (.tail _ (.tail _ (.head _))))))
        obtain ⟨x0_f1, y0_f1⟩ := V0.out.box (.tail _ (.tail _ (.tail _ (.tail _ (.head _)))))
        obtain ⟨x0_g0, y0_g0⟩ := V0.out.box (.tail _ (.tail _ (.head _)))
        obtain ⟨x0_g1, y0_g1⟩ := V0.out.box (.tail _ (.head _))
        go_wp2_with fail
        refine (same_numB n c n2 c2 _ _ A A2 _ (V0.out.at (.head _)) (V0.out.at (.tail _ (.tail _ (.head _))))).mono ?_
        rintro e w1 ⟨rfl, b1⟩
        clear x0_f0 y0_f0 x0_f1 y0_f1 x0_g0 y0_g0 x0_g1 y0_g1
        have V1 := Lib.hid (V0.out.go b1)
        clear b1
        obtain ⟨x1_f2, y1_f2⟩ := V1.out.box (.tail _ (.tail _ (.tail _ (.head _))))
        obtain ⟨x1_g2, y1_g2⟩ := V1.out.box (.head _)
        rw [H1.out]
        clear x1_f2 y1_f2 x1_g2 y1_g2
        go_wp2_with fail
        go_ret
        exact ⟨rfl, V1.out.2.2⟩
  · rw [dec3_no (fun h : s = s2 ∧ x = x2 ∧ y = y2 => hs h.1)]
    cases s <;> cases s2 <;> simp at hs
    · have VW := ((((((LiveA.start W).num hy2).num hx2).num hy).num hx).newF (.bool false) (.slice A n c) (.slice B m d) 32).newF (.bool true) (.slice A2 n2 c2) (.slice B2 m2 d2) 32
      rw [show (W.alloc (.cells #[.bool false, .slice A n c, .slice B m d] 32)).heap.size = W.heap.size + 1 by simp] at VW
      have V0 := Lib.hid VW
      clear VW hx hy hx2 hy2
      go_enter Tryz.func9, Tryz.ntmps9
      obtain ⟨x0_f0, y0_f0⟩ := V0.out.box (.tail _ (.tail _ (.tail _ (.tail _ (.tail _ (.head _))))))
      obtain ⟨x0_f1, y0_f1⟩ := V0.out.box (.tail _ (.tail _ (.tail _ (.tail _ (.head _)))))
      obtain ⟨x0_g0, y0_g0⟩ := V0.out.box (.tail _ (.tail _ (.head _)))
      obtain ⟨x0_g1, y0_g1⟩ := V0.out.box (.tail _ (.head _))
      clear x0_f0 y0_f0 x0_f1 y0_f1 x0_g0 y0_g0 x0_g1 y0_g1
      go_wp2_with fail
      go_ret
      exact ⟨rfl, V0.out.2.2⟩
    · have VW := ((((((LiveA.start W).num hy2).num hx2).num hy).num hx).newF (.bool true) (.slice A n c) (.slice B m d) 32).newF (.bool false) (.slice A2 n2 c2) (.slice B2 m2 d2) 32
      rw [show (W.alloc (.cells #[.bool true, .slice A n c, .slice B m d] 32)).heap.size = W.heap.size + 1 by simp] at VW
      have V0 := Lib.hid VW
      clear VW hx hy hx2 hy2
      go_enter Tryz.func9, Tryz.ntmps9
      obtain ⟨x0_f0, y0_f0⟩ := V0.out.box (.tail _ (.tail _ (.tail _ (.tail _ (.tail _ (.head _))))))
      obtain ⟨x0_f1, y0_f1⟩ := V0.out.box (.tail _ (.tail _ (.tail _ (.tail _ (.head _)))))
      obtain ⟨x0_g0, y0_g0⟩ := V0.out.box (.tail _ (.tail _ (.head _)))
      obtain ⟨x0_g1, y0_g1⟩ := V0.out.box (.tail _ (.head _))
      clear x0_f0 y0_f0 x0_f1 y0_f1 x0_g0 y0_g0 x0_g1 y0_g1
      go_wp2_with fail
      go_ret
      exact ⟨rfl, V0.out.2.2⟩
theorem fracs_three (s : Bool) (A B : Option Addr) (n c m d : Nat) (s2 : Bool) (A2 B2 : Option Addr) (n2 c2 m2 d2 : Nat) (s3 : Bool) (A3 B3 : Option Addr) (n3 c3 m3 d3 : Nat) (w : World) :
    FracsAt (w.alloc (.cells #[.bool s, .slice A n c, .slice B m d, .bool s2, .slice A2 n2 c2, .slice B2 m2 d2, .bool s3, .slice A3 n3 c3, .slice B3 m3 d3] 32)) w.heap.size [(n, m), (n2, m2), (n3, m3)] := by
  have hr := heap_alloc_new w (.cells #[.bool s, .slice A n c, .slice B m d, .bool s2, .slice A2 n2 c2, .slice B2 m2 d2, .bool s3, .slice A3 n3 c3, .slice B3 m3 d3] 32)
  refine ⟨by simp, fun j hj => ?_⟩
  match j, hj with
  | 0, _ => exact ⟨s, A, c, B, d, by rw [cell_of_row _ _ 0 _ _ _ hr]; rfl, by rw [cell_of_row _ _ 1 _ _ _ hr]; rfl, by rw [cell_of_row _ _ 2 _ _ _ hr]; rfl⟩
  | 1, _ => exact ⟨s2, A2, c2, B2, d2, by rw [cell_of_row _ _ 3 _ _ _ hr]; rfl, by rw [cell_of_row _ _ 4 _ _ _ hr]; rfl, by rw [cell_of_row _ _ 5 _ _ _ hr]; rfl⟩
  | 2, _ => exact ⟨s3, A3, c3, B3, d3, by rw [cell_of_row _ _ 6 _ _ _ hr]; rfl, by rw [cell_of_row _ _ 7 _ _ _ hr]; rfl, by rw [cell_of_row _ _ 8 _ _ _ hr]; rfl⟩
  | j + 3, hj => exact absurd hj (by show ¬ j + 3 < 3; omega)
theorem held9_go {W w w' : World} {g h k : Nat} {a b c d e f x y z : Value} (H : Below W.heap.size W w ∧ w.cell? ⟨g, 0, none⟩ = some a ∧ w.cell? ⟨g, 1, none⟩ = some b ∧ w.cell? ⟨g, 2, none⟩ = some c ∧ w.cell? ⟨h, 0, none⟩ = some d ∧ w.cell? ⟨h, 1, none⟩ = some e ∧ w.cell? ⟨h, 2, none⟩ = some f ∧ w.cell? ⟨k, 0, none⟩ = some x ∧ w.cell? ⟨k, 1, none⟩ = some y ∧ w.cell? ⟨k, 2, none⟩ = some z) (hb : Below w.heap.size w w') :
    Below W.heap.size W w' ∧ w'.cell? ⟨g, 0, none⟩ = some a ∧ w'.cell? ⟨g, 1, none⟩ = some b ∧ w'.cell? ⟨g, 2, none⟩ = some c ∧ w'.cell? ⟨h, 0, none⟩ = some d ∧ w'.cell? ⟨h, 1, none⟩ = some e ∧ w'.cell? ⟨h, 2, none⟩ = some f ∧ w'.cell? ⟨k, 0, none⟩ = some x ∧ w'.cell? ⟨k, 1, none⟩ = some y ∧ w'.cell? ⟨k, 2, none⟩ = some z := by
  obtain ⟨k0, k1, k2, k3, k4, k5, k6, k7, k8, k9⟩ := H
  have key : ∀ {p : Addr} {v : Value}, w.cell? p = some v → w'.cell? p = some v := fun {p v} h => (hb.cell (p := p) (World.block_lt_of_cell? _ _ h)).trans h
  exact ⟨btwo k0 hb, key k1, key k2, key k3, key k4, key k5, key k6, key k7, key k8, key k9⟩
theorem held9_b {W w : World} {g h k : Nat} {a b c d e f x y z : Value} (H : Below W.heap.size W w ∧ w.cell? ⟨g, 0, none⟩ = some a ∧ w.cell? ⟨g, 1, none⟩ = some b ∧ w.cell? ⟨g, 2, none⟩ = some c ∧ w.cell? ⟨h, 0, none⟩ = some d ∧ w.cell? ⟨h, 1, none⟩ = some e ∧ w.cell? ⟨h, 2, none⟩ = some f ∧ w.cell? ⟨k, 0, none⟩ = some x ∧ w.cell? ⟨k, 1, none⟩ = some y ∧ w.cell? ⟨k, 2, none⟩ = some z) : Below W.heap.size W w := H.1
theorem held3_go {W w w' : World} {g : Nat} {a b c : Value} (H : Below W.heap.size W w ∧ w.cell? ⟨g, 0, none⟩ = some a ∧ w.cell? ⟨g, 1, none⟩ = some b ∧ w.cell? ⟨g, 2, none⟩ = some c) (hb : Below w.heap.size w w') :
    Below W.heap.size W w' ∧ w'.cell? ⟨g, 0, none⟩ = some a ∧ w'.cell? ⟨g, 1, none⟩ = some b ∧ w'.cell? ⟨g, 2, none⟩ = some c := by
  obtain ⟨k0, k1, k2, k3⟩ := H
  have key : ∀ {p : Addr} {v : Value}, w.cell? p = some v → w'.cell? p = some v := fun {p v} h => (hb.cell (p := p) (World.block_lt_of_cell? _ _ h)).trans h
  exact ⟨btwo k0 hb, key k1, key k2, key k3⟩
theorem held3_b {W w : World} {g : Nat} {a b c : Value} (H : Below W.heap.size W w ∧ w.cell? ⟨g, 0, none⟩ = some a ∧ w.cell? ⟨g, 1, none⟩ = some b ∧ w.cell? ⟨g, 2, none⟩ = some c) : Below W.heap.size W w := H.1
theorem sgn_in (a : Int) : -1 ≤ sgn a ∧ sgn a ≤ 1 := by
  unfold sgn; split
  · omega
  · split <;> omega
theorem cmpR_in (s s2 : Bool) (L M L2 M2 : List Int) : -1 ≤ cmpR s s2 L M L2 M2 ∧ cmpR s s2 L M L2 M2 ≤ 1 := by
  by_cases h : vldF s L M = true
  · by_cases k : vldF s2 L2 M2 = true
    · rw [cmpR_ok h k, cmpV_sgn (fr_of h) (fr_of k)]; exact sgn_in _
    · rw [cmpR_no (fun e => k e.2)]; omega
  · rw [cmpR_no (fun e => h e.1)]; omega
theorem one_fr : Fr false 0 1 := ⟨Int.le_refl _, by omega, by decide, by simp⟩
theorem num_dr {w : World} {v : Value} {x : Int} (h : NumAt w v x) {n : Nat} : NumAt (w.drewN n) v x := h.below (bdr (Below.refl _ _) n)
theorem vldF_digs {s : Bool} {p q : Int} (h : Fr s p q) (lp : vldB (digs p) = true) (lq : vldB (digs q) = true) (ep : val (digs p) = p) (eq : val (digs q) = q) : vldF s (digs p) (digs q) = true :=
  decide_eq_true ⟨⟨lp, lq⟩, by rw [eq]; exact h.d, by rw [ep, eq]; exact h.g, by rw [ep]; exact h.z⟩
theorem fcmp_num (s s2 : Bool) (n c m d n2 c2 m2 d2 : Nat) (p q r t : Int) (A B A2 B2 : Option Addr) (W : World) (hp : NumAt W (.slice A n c) p) (hq : NumAt W (.slice B m d) q) (hr : NumAt W (.slice A2 n2 c2) r) (ht : NumAt W (.slice B2 m2 d2) t) (h : Fr s p q) (k : Fr s2 r t) :
    Calls Tryz.prog 17 #[.agg #[.bool s, .slice A n c, .slice B m d], .agg #[.bool s2, .slice A2 n2 c2, .slice B2 m2 d2]] W fun e w' => e = .returned (.int .i64 (cmpV s s2 p q r t)) ∧ Below W.heap.size W w' := by
  obtain ⟨a1, a2, a3, a4, a5, a6, a7, a8⟩ := num_in hp
  obtain ⟨b1, b2, b3, b4, b5, b6, b7, b8⟩ := num_in hq
  obtain ⟨c1, c2', c3, c4, c5, c6, c7, c8⟩ := num_in hr
  obtain ⟨d1, d2', d3, d4, d5, d6, d7, d8⟩ := num_in ht
  have := fcmp_any s s2 (digs p) (digs q) (digs r) (digs t) n c m d n2 c2 m2 d2 A B A2 B2 W a1 b1 a2 b2 a4 b4 a5 b5 c1 d1 c2' d2' c4 d4 c5 d5
  rwa [cmpR_ok (vldF_digs h a6 b6 a7 b7) (vldF_digs k c6 d6 c7 d7), a7, b7, c7, d7] at this
theorem digs_val {x : Int} (h : 0 ≤ x) (hl : (digs x).length ≤ 200) : vldB (digs x) = true := vldB_digs hl
end Go.Proofs.YtkfkefgkepoaaaaGreatDoor
/- Small fractions: what their sums, differences, products and quotients are; no number gets too long. -/
namespace Go.Proofs.YtkfkefgkepoaaaaGreatDoor
open Go.RowKit
set_option linter.unusedVariables false
set_option maxRecDepth 100000

/-- A valid fraction whose numbers are below a power. -/
def Sz (N : Nat) (s : Bool) (p q : Int) : Prop := Fr s p q ∧ p < pw N ∧ q < pw N
theorem pw_lt {a b : Nat} (h : a ≤ b) {x : Int} (hx : x < pw a) : x < pw b := Int.lt_of_lt_of_le hx (pw_mono h)
theorem low_small {K : Nat} {s : Bool} {v d : Int} (hv : 0 ≤ v) (hd : 0 < d) (bv : v < pw K) (bd : d < pw K) : ∃ s' p' q', low s v d = (s', p', q', 0) ∧ Sz K s' p' q' := by
  refine ⟨_, _, _, rfl, (low_good (s := s) hv hd).fr rfl, ?_, ?_⟩
  · exact Int.lt_of_le_of_lt (Int.ediv_le_self _ hv) bv
  · exact Int.lt_of_le_of_lt (Int.ediv_le_self _ (Int.le_of_lt hd)) bd
/-- The answer of an operation on small fractions. -/
def Ans (K : Nat) (v : Rat) (r : Bool × Int × Int × Int) : Prop := ∃ s p q, r = (s, p, q, 0) ∧ Sz K s p q ∧ VF s p q = v
section
variable {N M : Nat} {s s2 : Bool} {p q r t : Int}
theorem prods_bd (h : Sz N s p q) (k : Sz M s2 r t) : p * t < pw (N + M) ∧ r * q < pw (N + M) ∧ q * t < pw (N + M) ∧ p * r < pw (N + M) ∧ 0 ≤ p * t ∧ 0 ≤ r * q ∧ 0 < q * t ∧ 0 ≤ p * r := by
  obtain ⟨⟨h1, h2, _, _⟩, h3, h4⟩ := h
  obtain ⟨⟨k1, k2, _, _⟩, k3, k4⟩ := k
  exact ⟨mul_bd h3 k4 (by omega), by rw [Nat.add_comm N M]; exact mul_bd k3 h4 (by omega), mul_bd h4 k4 (by omega), mul_bd h3 k3 (by omega), Int.mul_nonneg h1 (by omega), Int.mul_nonneg k1 (by omega), Int.mul_pos h2 k2, Int.mul_nonneg h1 k1⟩
theorem sum_small (h : Sz N s p q) (k : Sz M s2 r t) (hNM : N + M + 1 ≤ 200) : Ans (N + M + 1) (VF s p q + VF s2 r t) (sumR s s2 p q r t) := by
  obtain ⟨b1, b2, b3, b4, c1, c2, c3, c4⟩ := prods_bd h k
  have key : ∃ s' p' q', sumR s s2 p q r t = (s', p', q', 0) ∧ Sz (N + M + 1) s' p' q' := by
    have l1 := len_of b1 (by omega)
    have l2 := len_of b2 (by omega)
    have l3 := len_of b3 (by omega)
    have l4 := len_of (add_bd b1 b2) hNM
    unfold sumR
    rw [if_neg (by omega)]
    by_cases hne : (s != s2) = true
    · rw [if_pos hne]
      by_cases hlt : p * t < r * q
      · rw [if_pos hlt, if_pos hlt]
        exact low_small (by omega) c3 (pw_lt (a := N + M) (by omega) (by omega)) (pw_lt (a := N + M) (by omega) b3)
      · rw [if_neg hlt, if_neg hlt]
        exact low_small (by omega) c3 (pw_lt (a := N + M) (by omega) (by omega)) (pw_lt (a := N + M) (by omega) b3)
    · rw [if_neg hne, if_neg (by omega)]
      exact low_small (by omega) c3 (add_bd b1 b2) (pw_lt (a := N + M) (by omega) b3)
  obtain ⟨s', p', q', e, hz⟩ := key
  refine ⟨s', p', q', e, hz, ?_⟩
  have := sum_val h.1.n h.1.d k.1.n k.1.d (s := s) (s2 := s2) (by rw [e])
  rw [e] at this
  exact this
theorem fr_opp (k : Fr s2 r t) : Fr (!s2 && !decide (r = 0)) r t := ⟨k.n, k.d, k.g, fun e => by
  have := k.n
  have h0 : ¬ r = 0 := by
    intro e0
    rw [decide_eq_true e0] at e
    simp at e
  omega⟩
theorem dif_small (h : Sz N s p q) (k : Sz M s2 r t) (hNM : N + M + 1 ≤ 200) : Ans (N + M + 1) (VF s p q + -VF s2 r t) (difR s s2 p q r t) := by
  obtain ⟨s', p', q', e, hz, hv⟩ := sum_small h (⟨fr_opp k.1, k.2⟩ : Sz M (!s2 && !decide (r = 0)) r t) hNM
  refine ⟨s', p', q', e, hz, ?_⟩
  rw [hv]
  unfold VF
  rw [sv_neg, Rat.neg_divInt]
theorem prod_small (h : Sz N s p q) (k : Sz M s2 r t) (hNM : N + M + 1 ≤ 200) : Ans (N + M + 1) (VF s p q * VF s2 r t) (prodR s s2 p q r t) := by
  obtain ⟨b1, b2, b3, b4, c1, c2, c3, c4⟩ := prods_bd h k
  have key : ∃ s' p' q', prodR s s2 p q r t = (s', p', q', 0) ∧ Sz (N + M + 1) s' p' q' := by
    have l3 := len_of b3 (by omega)
    have l4 := len_of b4 (by omega)
    unfold prodR
    rw [if_neg (by omega)]
    exact low_small c4 c3 (pw_lt (a := N + M) (by omega) b4) (pw_lt (a := N + M) (by omega) b3)
  obtain ⟨s', p', q', e, hz⟩ := key
  refine ⟨s', p', q', e, hz, ?_⟩
  have := prod_val h.1.n h.1.d k.1.n k.1.d (s := s) (s2 := s2) (by rw [e])
  rw [e] at this
  exact this
theorem quo_small (h : Sz N s p q) (k : Sz M s2 r t) (hr : ¬ r = 0) (hNM : N + M + 1 ≤ 200) : Ans (N + M + 1) (VF s p q * (VF s2 r t)⁻¹) (quoR s s2 p q r t) := by
  have h0 := k.1.n
  have key : ∃ s' p' q', quoR s s2 p q r t = (s', p', q', 0) ∧ Sz (N + M + 1) s' p' q' := by
    have c1 : p * t < pw (N + M) := mul_bd h.2.1 k.2.2 (Int.le_of_lt k.1.d)
    have c2 : q * r < pw (N + M) := mul_bd h.2.2 k.2.1 h0
    have l3 := len_of c1 (by omega)
    have l4 := len_of c2 (by omega)
    unfold quoR
    rw [if_neg hr]
    unfold prodR
    rw [if_neg (by omega)]
    exact low_small (Int.mul_nonneg h.1.n (Int.le_of_lt k.1.d)) (Int.mul_pos h.1.d (show 0 < r by omega)) (pw_lt (a := N + M) (by omega) c1) (pw_lt (a := N + M) (by omega) c2)
  obtain ⟨s', p', q', e, hz⟩ := key
  refine ⟨s', p', q', e, hz, ?_⟩
  have := quo_val h.1.n h.1.d (show 0 < r by omega) k.1.d (s := s) (s2 := s2) (by rw [e])
  rw [e] at this
  exact this
theorem vf_zero (h : 0 < q) (e : VF s p q = 0) : p = 0 := by
  unfold VF at e
  have z : Rat.divInt 0 1 = 0 := Rat.zero_divInt 1
  rw [← z, Rat.divInt_eq_divInt_iff (by omega) (by omega)] at e
  cases s
  · have e : p * 1 = 0 * q := e
    omega
  · have e : -p * 1 = 0 * q := e
    omega
end
/-- The answer of Of on small numbers. -/
theorem of_small {a b : Int} (ha : -100000 < a) (ha2 : a < 100000) (hb : 0 < b) (hb2 : b < 100000) : ∃ s p q, ofR a b = (s, p, q, 0) ∧ Sz 2 s p q ∧ (p = 0 → a = 0) := by
  have e : ofR a b = low (decide (a < 0) != decide (b < 0)) (max a (-a)) (max b (-b)) := by
    unfold ofR low
    rw [if_neg (by omega), if_neg (by omega)]
  have hp : (100000 : Int) < pw 2 := by simp [pw]
  obtain ⟨s, p, q, e2, hz⟩ := low_small (K := 2) (s := decide (a < 0) != decide (b < 0)) (v := max a (-a)) (d := max b (-b)) (by omega) (by omega) (by omega) (by omega)
  refine ⟨s, p, q, by rw [e, e2], hz, fun h0 => ?_⟩
  have hx : max a (-a) / gcdI (max a (-a)) (max b (-b)) = p := congrArg (fun r => r.2.1) e2
  have := (gcdI_split (n := max a (-a)) (d := max b (-b)) (by omega) (by omega)).1
  rw [hx, h0, Int.zero_mul] at this
  omega
end Go.Proofs.YtkfkefgkepoaaaaGreatDoor
/- Contracts of the function literal of the statement about the field, of Made, and of Same on equal values. -/
namespace Go.Proofs.YtkfkefgkepoaaaaGreatDoor
open Go.RowKit
set_option linter.unusedVariables false
set_option maxRecDepth 100000

/-- A call that returns a small fraction with a value. -/
def FrV (K : Nat) (v : Rat) (W : World) (e : Ending) (w' : World) : Prop :=
  ∃ s p q A c k B d l, e = .returned (.agg #[.bool s, .slice A k c, .slice B l d]) ∧ NumAt w' (.slice A k c) p ∧ NumAt w' (.slice B l d) q ∧ Sz K s p q ∧ VF s p q = v ∧ Below W.heap.size W w'
theorem fadd_num (s s2 : Bool) (n c m d n2 c2 m2 d2 : Nat) (p q r t : Int) (A B A2 B2 : Option Addr) (W : World) (hp : NumAt W (.slice A n c) p) (hq : NumAt W (.slice B m d) q) (hr : NumAt W (.slice A2 n2 c2) r) (ht : NumAt W (.slice B2 m2 d2) t) (h : Fr s p q) (k : Fr s2 r t) :
    Calls Tryz.prog 11 #[.agg #[.bool s, .slice A n c, .slice B m d], .agg #[.bool s2, .slice A2 n2 c2, .slice B2 m2 d2]] W (FrE (sumR s s2 p q r t) W) := by
  obtain ⟨a1, a2, a3, a4, a5, a6, a7, a8⟩ := num_in hp
  obtain ⟨b1, b2, b3, b4, b5, b6, b7, b8⟩ := num_in hq
  obtain ⟨c1, c2', c3, c4, c5, c6, c7, c8⟩ := num_in hr
  obtain ⟨d1, d2', d3, d4, d5, d6, d7, d8⟩ := num_in ht
  have := fadd_any s s2 (digs p) (digs q) (digs r) (digs t) n c m d n2 c2 m2 d2 A B A2 B2 W a1 b1 a2 b2 a4 b4 a5 b5 c1 d1 c2' d2' c4 d4 c5 d5
  rwa [opR_ok (vldF_digs h a6 b6 a7 b7) (vldF_digs k c6 d6 c7 d7), a7, b7, c7, d7] at this
/-- What Made returns. -/
def MdV (a : Int) (W : World) (e : Ending) (w' : World) : Prop :=
  ∃ s p q A c k B d l, e = .returned (.agg #[.bool s, .slice A k c, .slice B l d]) ∧ NumAt w' (.slice A k c) p ∧ NumAt w' (.slice B l d) q ∧ Sz 2 s p q ∧ (p = 0 → a = 0) ∧ Below W.heap.size W w'
set_option maxHeartbeats 4000000 in
theorem rmade_any (a b : Int) (W : World) (ha : -32768 ≤ a) (ha2 : a ≤ 32767) (hb : 0 ≤ b) (hb2 : b ≤ 255) : Calls Tryz.prog 10 #[.int .i16 a, .int .u8 b] W (MdV a W) := by
  obtain ⟨s', p', q', he, hz, hv⟩ := of_small (a := a) (b := 1 + b) (by omega) (by omega) (by omega) (by omega)
  have HP := Lib.hid (fun w => show Calls Tryz.prog 24 #[.int .i64 a, .int .i64 (1 + b)] w (FrE (s', p', q', 0) w) by rw [← he]; exact rof3_any a (1 + b) w)
  have HZ := Lib.hid hz
  have HV := Lib.hid hv
  have V0 := Lib.hid ((BoxF.start W).new false none 0 0 none 0 0)
  clear he hz hv
  go_enter Tryz.func10, Tryz.ntmps10
  go_wp2_with fail
  refine (HP.out _).mono ?_
  rintro e w1 ⟨Ay, cy, ky, Az, cz, kz, rfl, n1, m1, e1⟩
  have U1 := Lib.hid (((V0.out.go e1).num m1).num n1)
  clear n1 m1 e1
  have V1 := Lib.hid (U1.out.new s' Ay ky cy Az kz cz)
  have D1 := (U1.out.lt (.head _)).2
  obtain ⟨wx, hwx⟩ : ∃ x, x = w1.alloc (.cells #[.bool s', .slice Ay ky cy, .slice Az kz cz] 32) := ⟨_, rfl⟩
  rw [← hwx] at V1
  have V2 := Lib.hid (V1.out.set (.tail _ (.head _)) ⟨s', Ay, ky, cy, Az, kz, cz⟩ [(W.heap.size, ⟨s', Ay, ky, cy, Az, kz, cz⟩)] (List.forall_mem_cons.2 ⟨.inl rfl, fun _ h => by simp at h⟩))
  obtain ⟨a0, a1, a2, a3⟩ := V1.out.box (.head _)
  obtain ⟨b0, b1, b2, b3⟩ := V1.out.box (.tail _ (.head _))
  obtain ⟨o0, o1, o2⟩ := V1.out.open (.tail _ (.head _))
  obtain ⟨c0, c1, c2x, c3⟩ := V2.out.box (.head _)
  have HW := Lib.hid hwx
  clear hwx
  go_upto_region 2 with fail
  rw [← HW.out]
  go_wp2_with fail
  refine bodyPost_ret (v := .agg #[.bool s', .slice Ay ky cy, .slice Az kz cz]) ?_ rfl ?_
  · simp [results, Tryz.results10, go_sem, c0, c1, c2x]
  · exact ⟨s', p', q', Ay, cy, ky, Az, cz, kz, rfl, V2.out.at (.head _), V2.out.at (.tail _ (.head _)), HZ.out, HV.out, V2.out.2.2⟩
theorem same_val (s s2 : Bool) (n c m d n2 c2 m2 d2 : Nat) (x y x2 y2 : Int) (A B A2 B2 : Option Addr) (W : World) (hx : NumAt W (.slice A n c) x) (hy : NumAt W (.slice B m d) y) (hx2 : NumAt W (.slice A2 n2 c2) x2) (hy2 : NumAt W (.slice B2 m2 d2) y2) (h : Fr s x y) (k : Fr s2 x2 y2) (e : VF s x y = VF s2 x2 y2) :
    Calls Tryz.prog 9 #[.agg #[.bool s, .slice A n c, .slice B m d], .agg #[.bool s2, .slice A2 n2 c2, .slice B2 m2 d2]] W fun e w' => e = .returned (.bool true) ∧ Below W.heap.size W w' := by
  have := same03_b s s2 n c m d n2 c2 m2 d2 x y x2 y2 A B A2 B2 W hx hy hx2 hy2
  rwa [decide_eq_true (val_eq h k e)] at this
end Go.Proofs.YtkfkefgkepoaaaaGreatDoor
