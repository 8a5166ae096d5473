/- Plain mathematics of lists of digits to the base 10000, the least one first. Nothing here speaks of the program. -/
import Derived.WalkKit
namespace Go.Proofs.YtkfkefgkepoaaaaGreatDoor
set_option linter.unusedVariables false
set_option maxRecDepth 100000

/-- The number with the digits. -/
def val : List Int → Int
  | [] => 0
  | x :: l => x + 10000 * val l
/-- The powers of the base. -/
def pw : Nat → Int
  | 0 => 1
  | k + 1 => 10000 * pw k
def Dig (L : List Int) : Prop := ∀ x ∈ L, 0 ≤ x ∧ x < 10000
def trimL : List Int → List Int
  | [] => []
  | x :: l => if trimL l = [] ∧ x = 0 then [] else x :: trimL l
def digsN (n : Nat) : List Int := if n = 0 then [] else ((n % 10000 : Nat) : Int) :: digsN (n / 10000)
termination_by n
decreasing_by omega
/-- The digits of a number, without zeros at the end. -/
def digs (n : Int) : List Int := digsN n.toNat

theorem getD_lt {l : List Int} {k : Nat} (h : k < l.length) : l.getD k 0 = l[k] := by simp [List.getD_eq_getElem?_getD, h]
theorem getD_ge {l : List Int} {k : Nat} (h : l.length ≤ k) : l.getD k 0 = 0 := by simp [List.getD_eq_getElem?_getD, h]
theorem pw_pos (k : Nat) : 0 < pw k := by
  induction k with
  | zero => simp [pw]
  | succ k ih => unfold pw; omega
theorem pw_succ (k : Nat) : pw (k + 1) = 10000 * pw k := rfl
theorem pw_mono {a b : Nat} (h : a ≤ b) : pw a ≤ pw b := by
  induction b with
  | zero => have : a = 0 := by omega
            subst this; exact Int.le_refl _
  | succ b ih =>
    by_cases e : a = b + 1
    · subst e; exact Int.le_refl _
    · have := ih (by omega); have := pw_pos b; rw [pw_succ]; omega
theorem pw_add (a b : Nat) : pw (a + b) = pw a * pw b := by
  induction b with
  | zero => simp [pw]
  | succ b ih => rw [← Nat.add_assoc, pw_succ, pw_succ, ih, Int.mul_left_comm]
theorem val_cons (x : Int) (l : List Int) : val (x :: l) = x + 10000 * val l := rfl
theorem val_append (l m : List Int) : val (l ++ m) = val l + pw l.length * val m := by
  induction l with
  | nil => simp [val, pw]
  | cons x l ih => rw [List.cons_append, val_cons, val_cons, ih, List.length_cons, pw_succ, Int.mul_add, Int.mul_assoc, Int.add_assoc]
theorem val_snoc (l : List Int) (x : Int) : val (l ++ [x]) = val l + pw l.length * x := by rw [val_append]; simp [val]
theorem Dig.nil : Dig [] := fun x hx => by cases hx
theorem Dig.cons {x : Int} {l : List Int} : Dig (x :: l) ↔ (0 ≤ x ∧ x < 10000) ∧ Dig l := by simp [Dig]
theorem Dig.append {l m : List Int} : Dig (l ++ m) ↔ Dig l ∧ Dig m := by
  unfold Dig
  constructor
  · intro h; exact ⟨fun x hx => h x (List.mem_append_left _ hx), fun x hx => h x (List.mem_append_right _ hx)⟩
  · rintro ⟨h1, h2⟩ x hx; rcases List.mem_append.1 hx with h | h
    · exact h1 x h
    · exact h2 x h
theorem Dig.snoc {l : List Int} {x : Int} (h : Dig l) (h0 : 0 ≤ x) (h1 : x < 10000) : Dig (l ++ [x]) := Dig.append.2 ⟨h, fun y hy => by simp at hy; subst hy; exact ⟨h0, h1⟩⟩
theorem Dig.take {l : List Int} (h : Dig l) (k : Nat) : Dig (l.take k) := fun x hx => h x (List.mem_of_mem_take hx)
theorem Dig.drop {l : List Int} (h : Dig l) (k : Nat) : Dig (l.drop k) := fun x hx => h x (List.mem_of_mem_drop hx)
theorem Dig.at {l : List Int} (h : Dig l) (k : Nat) : 0 ≤ l.getD k 0 ∧ l.getD k 0 < 10000 := by
  by_cases hk : k < l.length
  · rw [getD_lt hk]; exact h _ (List.getElem_mem hk)
  · rw [getD_ge (by omega)]; omega
theorem Dig.zeros (n : Nat) : Dig (List.replicate n 0) := fun x hx => by have := (List.mem_replicate.1 hx).2; omega
theorem val_zeros (n : Nat) : val (List.replicate n 0) = 0 := by
  induction n with
  | zero => rfl
  | succ n ih => rw [List.replicate_succ, val_cons, ih]; rfl
theorem val_nonneg {l : List Int} (h : Dig l) : 0 ≤ val l := by
  induction l with
  | nil => exact Int.le_refl _
  | cons x l ih => have h' := Dig.cons.1 h; have := ih h'.2; rw [val_cons]; omega
theorem val_lt {l : List Int} (h : Dig l) : val l < pw l.length := by
  induction l with
  | nil => simp [val, pw]
  | cons x l ih => have h' := Dig.cons.1 h; have := ih h'.2; rw [val_cons, List.length_cons, pw_succ]; omega
theorem val_take_succ (l : List Int) (k : Nat) : val (l.take (k + 1)) = val (l.take k) + pw k * l.getD k 0 := by
  by_cases hk : k < l.length
  · rw [List.take_succ_eq_append_getElem hk, val_snoc, List.length_take, Nat.min_eq_left (by omega), getD_lt hk]
  · rw [List.take_of_length_le (by omega), List.take_of_length_le (by omega), getD_ge (by omega)]; simp
theorem val_take_drop (l : List Int) (k : Nat) (hk : k ≤ l.length) : val l = val (l.take k) + pw k * val (l.drop k) := by
  have := val_append (l.take k) (l.drop k)
  rw [List.take_append_drop, List.length_take, Nat.min_eq_left hk] at this
  exact this

theorem digsN_zero : digsN 0 = [] := by unfold digsN; simp
theorem digsN_pos {n : Nat} (h : 0 < n) : digsN n = ((n % 10000 : Nat) : Int) :: digsN (n / 10000) := by rw [digsN]; rw [if_neg (by omega)]
theorem digs_zero : digs 0 = [] := digsN_zero
theorem digs_pos {n : Int} (h : 0 < n) : digs n = n % 10000 :: digs (n / 10000) := by
  unfold digs
  rw [digsN_pos (by omega)]
  congr 1
  · omega
  · congr 1; omega
theorem digs_neg {n : Int} (h : n ≤ 0) : digs n = [] := by unfold digs; rw [show n.toNat = 0 by omega]; exact digsN_zero
theorem digs_ne {n : Int} (h : 0 < n) : digs n ≠ [] := by rw [digs_pos h]; simp
theorem digs_spec (n : Int) (h : 0 ≤ n) : val (digs n) = n ∧ Dig (digs n) := by
  obtain ⟨m, rfl⟩ : ∃ m : Nat, n = m := ⟨n.toNat, by omega⟩
  clear h
  induction m using Nat.strongRecOn with
  | ind m ih =>
    by_cases h : m = 0
    · subst h; rw [show ((0 : Nat) : Int) = 0 from rfl, digs_zero]; exact ⟨rfl, Dig.nil⟩
    · have hh := ih (m / 10000) (by omega)
      rw [digs_pos (by omega), show ((m : Int) / 10000) = ((m / 10000 : Nat) : Int) by omega]
      refine ⟨?_, Dig.cons.2 ⟨by omega, hh.2⟩⟩
      rw [val_cons, hh.1]; omega
theorem val_digs {n : Int} (h : 0 ≤ n) : val (digs n) = n := (digs_spec n h).1
theorem dig_digs (n : Int) : Dig (digs n) := by
  by_cases h : 0 ≤ n
  · exact (digs_spec n h).2
  · rw [digs_neg (by omega)]; exact Dig.nil
theorem trimL_digs {l : List Int} (h : Dig l) : trimL l = digs (val l) := by
  induction l with
  | nil => exact digs_zero.symm
  | cons x l ih =>
    have h' := Dig.cons.1 h
    have hv := val_nonneg h'.2
    unfold trimL
    rw [ih h'.2, val_cons]
    by_cases h0 : val l = 0
    · rw [h0, digs_zero]
      by_cases hx : x = 0
      · subst hx; rw [if_pos ⟨rfl, rfl⟩]; exact digs_zero.symm
      · rw [if_neg (fun e => hx e.2), digs_pos (by omega)]
        rw [show (x + 10000 * 0) / 10000 = 0 by omega, digs_zero]
        congr 1; omega
    · rw [if_neg (fun e => digs_ne (by omega) e.1), digs_pos (n := x + 10000 * val l) (by omega)]
      rw [show (x + 10000 * val l) / 10000 = val l by omega]
      congr 1; omega
theorem trimL_snoc0 (l : List Int) : trimL (l ++ [0]) = trimL l := by
  induction l with
  | nil => simp [trimL]
  | cons x l ih => rw [List.cons_append]; unfold trimL; rw [ih]
theorem trimL_snoc (l : List Int) {x : Int} (hx : x ≠ 0) : trimL (l ++ [x]) = l ++ [x] := by
  induction l with
  | nil => simp [trimL, hx]
  | cons y l ih => rw [List.cons_append]; unfold trimL; rw [ih, if_neg (by simp)]
theorem trimL_take {l : List Int} {k : Nat} (hk : k < l.length) (h : l.getD k 0 = 0) : trimL (l.take (k + 1)) = trimL (l.take k) := by
  rw [List.take_succ_eq_append_getElem hk]
  rw [getD_lt hk] at h
  rw [h]; exact trimL_snoc0 _
theorem trimL_stop {l : List Int} {k : Nat} (hk : k < l.length) (h : l.getD k 0 ≠ 0) : trimL (l.take (k + 1)) = l.take (k + 1) := by
  rw [List.take_succ_eq_append_getElem hk]
  rw [getD_lt hk] at h
  exact trimL_snoc _ h
theorem digs_trim (n : Int) : trimL (digs n) = digs n := by
  by_cases h : 0 ≤ n
  · rw [trimL_digs (dig_digs n), val_digs h]
  · rw [digs_neg (by omega)]; rfl
/-- How many digits a number has. -/
theorem digs_len_le {n : Int} {k : Nat} (h : n < pw k) : (digs n).length ≤ k := by
  induction k generalizing n with
  | zero => rw [digs_neg (by simp [pw] at h; omega)]; simp
  | succ k ih =>
    by_cases h0 : 0 < n
    · rw [digs_pos h0, List.length_cons]
      have := ih (n := n / 10000) (by rw [pw_succ] at h; omega)
      omega
    · rw [digs_neg (by omega)]; simp
theorem digs_len_gt {n : Int} {k : Nat} (h : pw k ≤ n) : k < (digs n).length := by
  induction k generalizing n with
  | zero => have : 0 < n := by simp [pw] at h; omega
            rw [digs_pos this]; simp
  | succ k ih =>
    have hp := pw_pos k
    rw [pw_succ] at h
    rw [digs_pos (by omega), List.length_cons]
    have := ih (n := n / 10000) (by omega)
    omega
theorem lt_of_len {n : Int} {k : Nat} (h : (digs n).length ≤ k) : n < pw k := by
  by_cases c : n < pw k
  · exact c
  · have := digs_len_gt (n := n) (k := k) (by omega); omega
theorem digs_inj {a b : Int} (ha : 0 ≤ a) (hb : 0 ≤ b) (h : digs a = digs b) : a = b := by rw [← val_digs ha, ← val_digs hb, h]
/-- A number that fits: at most 200 digits, each one from 0 to 9999, the last one not 0. -/
def vldB (L : List Int) : Bool := decide (L.length ≤ 200 ∧ (∀ x ∈ L, 0 ≤ x ∧ x < 10000) ∧ trimL L = L)
theorem vldB_true {L : List Int} (h : vldB L = true) : L.length ≤ 200 ∧ Dig L ∧ L = digs (val L) ∧ 0 ≤ val L ∧ val L < pw 200 := by
  obtain ⟨h1, h2, h3⟩ := of_decide_eq_true h
  refine ⟨h1, h2, ?_, val_nonneg h2, ?_⟩
  · rw [← trimL_digs h2, h3]
  · have := val_lt h2; have := pw_mono h1; omega
theorem vldB_digs {n : Int} (h : (digs n).length ≤ 200) : vldB (digs n) = true := decide_eq_true ⟨h, dig_digs n, digs_trim n⟩
theorem vldB_false_len {L : List Int} (h : 200 < L.length) : vldB L = false := decide_eq_false (fun e => by omega)
theorem vldB_false_dig {L : List Int} {k : Nat} (hk : k < L.length) (h : L.getD k 0 < 0 ∨ 10000 ≤ L.getD k 0) : vldB L = false :=
  decide_eq_false (fun e => by have h2 := e.2.1 (L.getD k 0) (by rw [getD_lt hk]; exact List.getElem_mem hk); omega)
theorem vldB_false_last {L : List Int} {k : Nat} (hk : k + 1 = L.length) (h : L.getD k 0 = 0) : vldB L = false :=
  decide_eq_false (fun e => by
    have h1 := trimL_take (l := L) (k := k) (by omega) h
    rw [hk, List.take_length, e.2.2] at h1
    have h2 : ∀ l : List Int, (trimL l).length ≤ l.length := by
      intro l; induction l with
      | nil => simp [trimL]
      | cons x l ih => unfold trimL; split <;> simp <;> omega
    have h3 := h2 (L.take k)
    rw [← h1, List.length_take] at h3
    omega)
theorem vldB_ok {L : List Int} (h1 : L.length ≤ 200) (h2 : Dig L) (h3 : ∀ k, k + 1 = L.length → L.getD k 0 ≠ 0) : vldB L = true := by
  refine decide_eq_true ⟨h1, h2, ?_⟩
  by_cases h0 : L.length = 0
  · rw [List.eq_nil_of_length_eq_zero h0]; rfl
  · obtain ⟨k, hk⟩ : ∃ k, k + 1 = L.length := ⟨L.length - 1, by omega⟩
    have := trimL_stop (l := L) (k := k) (by omega) (h3 k hk)
    rw [hk, List.take_length] at this
    exact this
theorem dig_take_step {L : List Int} {k : Nat} (hk : k < L.length) (h : Dig (L.take k)) (h0 : 0 ≤ L.getD k 0) (h1 : L.getD k 0 < 10000) : Dig (L.take (k + 1)) := by
  rw [List.take_succ_eq_append_getElem hk]
  rw [getD_lt hk] at h0 h1
  exact h.snoc h0 h1
theorem getD_set_same {L : List Int} {k : Nat} (x : Int) (h : k < L.length) : (L.set k x).getD k 0 = x := by simp [List.getD_eq_getElem?_getD, h]
theorem getD_set_other {L : List Int} {k j : Nat} (x : Int) (h : j ≠ k) : (L.set k x).getD j 0 = L.getD j 0 := by
  simp [List.getD_eq_getElem?_getD, Ne.symm h]
theorem take_set {L : List Int} {k : Nat} (x : Int) : (L.set k x).take k = L.take k := by
  rw [List.take_set]
  exact List.set_eq_of_length_le (by simp; omega)
theorem val_set_take {L : List Int} {k : Nat} (x : Int) (h : k < L.length) : val ((L.set k x).take (k + 1)) = val (L.take k) + pw k * x := by
  rw [val_take_succ, take_set, getD_set_same x h]
theorem val_last {L : List Int} {k : Nat} (h : L.length = k + 1) : val L = val (L.take k) + pw k * L.getD k 0 := by
  have := val_take_succ L k
  rwa [← h, List.take_length] at this
theorem take_all_val {L : List Int} {k : Nat} (h : L.length ≤ k) : L.take k = L := List.take_of_length_le h

theorem add_round {c p s : Int} {w x y t : Int} (h : w + c * p = x + t * y) (a b : Int) (hs : s = c + a + t * b) :
    (w + p * (s % 10000)) + s / 10000 * (10000 * p) = (x + p * a) + t * (y + p * b) := by
  have e : s = 10000 * (s / 10000) + s % 10000 := by omega
  generalize s / 10000 = q at *
  generalize s % 10000 = r at *
  subst e
  grind
theorem take_round1 {c p s : Int} {w x y t : Int} (h : w - c * p = x - t * y) (a b : Int) (hs : s = c + t * b) :
    (w + p * (a - s % 10000)) - s / 10000 * (10000 * p) = (x + p * a) - t * (y + p * b) := by
  have e : s = 10000 * (s / 10000) + s % 10000 := by omega
  generalize s / 10000 = q at *
  generalize s % 10000 = r at *
  grind
theorem take_round2 {c p s : Int} {w x y t : Int} (h : w - c * p = x - t * y) (a b : Int) (hs : s = c + t * b) :
    (w + p * (a - s % 10000 + 10000)) - (s / 10000 + 1) * (10000 * p) = (x + p * a) - t * (y + p * b) := by
  have e : s = 10000 * (s / 10000) + s % 10000 := by omega
  generalize s / 10000 = q at *
  generalize s % 10000 = r at *
  grind
theorem small_mul {t b : Int} (h0 : 0 ≤ t) (h1 : t ≤ 10000) (h2 : 0 ≤ b) (h3 : b < 10000) : 0 ≤ t * b ∧ t * b ≤ 9999 * t :=
  ⟨Int.mul_nonneg h0 h2, by rw [Int.mul_comm 9999 t]; exact Int.mul_le_mul_of_nonneg_left (by omega) h0⟩
/-- A row whose last place may be anything, but whose value fits, has digits alone. -/
theorem dig_of_top {D : List Int} {k : Nat} (hn : D.length = k + 1) (hd : Dig (D.take k)) (h0 : 0 ≤ val D) (h1 : val D < 10000 * pw k) : Dig D := by
  have hv := val_last (L := D) (k := k) hn
  have a := val_nonneg hd
  have b := val_lt hd
  rw [List.length_take, Nat.min_eq_left (by omega)] at b
  have hp := pw_pos k
  obtain ⟨d, hd'⟩ : ∃ d, d = D.getD k 0 := ⟨_, rfl⟩
  rw [← hd'] at hv
  have d0 : 0 ≤ d := by
    by_cases c : 0 ≤ d
    · exact c
    · have := Int.mul_le_mul_of_nonneg_left (show d ≤ -1 by omega) (Int.le_of_lt hp)
      omega
  have d1 : d < 10000 := by
    by_cases c : d < 10000
    · exact c
    · have := Int.mul_le_mul_of_nonneg_left (show (10000 : Int) ≤ d by omega) (Int.le_of_lt hp)
      omega
  have hk : k < D.length := by omega
  have := dig_take_step hk hd (by rw [← hd']; exact d0) (by rw [← hd']; exact d1)
  rwa [← hn, List.take_length] at this
/-- The number that the first c places from the top make, with zeros for missing ones. -/
def leadF (L : List Int) (m : Nat) : Nat → Int
  | 0 => 0
  | j + 1 => leadF L m j * 10000 + (if j < m then L.getD (m - 1 - j) 0 else 0)
theorem leadF_in {L : List Int} {m j : Nat} (hm : L.length = m) (hj : j ≤ m) : leadF L m j = val (L.drop (m - j)) := by
  induction j with
  | zero => rw [show m - 0 = L.length by omega, List.drop_length]; rfl
  | succ j ih =>
    unfold leadF
    have e : L.drop (m - (j + 1)) = L.getD (m - 1 - j) 0 :: L.drop (m - j) := by
      rw [List.drop_eq_getElem_cons (by omega), getD_lt (by omega), show m - (j + 1) + 1 = m - j by omega]
      congr 2
      omega
    rw [ih (by omega), if_pos (by omega), e, val_cons]
    omega
theorem leadF_out {L : List Int} {m j : Nat} (hm : L.length = m) (hj : m ≤ j) : leadF L m j = val L * pw (j - m) := by
  induction j with
  | zero => rw [leadF_in hm (by omega), show m - 0 = 0 by omega, show 0 - m = 0 by omega]; simp [pw]
  | succ j ih =>
    by_cases h : m = j + 1
    · rw [leadF_in hm (by omega), show m - (j + 1) = 0 by omega, show j + 1 - m = 0 by omega]; simp [pw]
    · unfold leadF
      rw [ih (by omega), if_neg (by omega), show j + 1 - m = (j - m) + 1 by omega, pw_succ, Int.add_zero, Int.mul_assoc, Int.mul_comm (pw _)]
theorem leadF_bd {L : List Int} (m j : Nat) (hd : Dig L) : 0 ≤ leadF L m j ∧ leadF L m j < pw j := by
  induction j with
  | zero => simp [leadF, pw]
  | succ j ih =>
    unfold leadF
    rw [pw_succ]
    have := hd.at (m - 1 - j)
    split <;> omega
theorem ediv_of {U V q : Int} (hV : 0 < V) (h0 : 0 ≤ U - q * V) (h1 : U - q * V < V) : U / V = q ∧ U % V = U - q * V := by
  refine (Int.ediv_emod_unique hV).2 ⟨?_, h0, h1⟩
  rw [Int.mul_comm V q]; omega
/-- The estimate of a digit of the quotient is right, or one too large. -/
theorem guess {U V T S p l k q : Int} (hU : U = l + p * T) (hV : V = k + p * S) (hl0 : 0 ≤ l) (hl1 : l < p) (hk0 : 0 ≤ k) (hk1 : k < p) (hS : 10000 ≤ S) (hT : 0 ≤ T) (hlt : U < 10000 * V) (hq : q = T / S) :
    U < (q + 1) * V ∧ (q - 1) * V ≤ U ∧ 0 ≤ q ∧ q ≤ 10000 := by
  have q0 : 0 ≤ q := by rw [hq]; exact Int.ediv_nonneg hT (by omega)
  have q1 : q * S ≤ T := by rw [hq]; exact Int.ediv_mul_le T (by omega)
  have q2 : T + 1 ≤ (q + 1) * S := by
    rw [hq]; have := Int.lt_ediv_add_one_mul_self T (show 0 < S by omega); omega
  have hp : 0 < p := by omega
  have a1 := Int.mul_le_mul_of_nonneg_left q2 (Int.le_of_lt hp)
  have a2 := Int.mul_nonneg (show 0 ≤ q + 1 by omega) hk0
  have e1 : (q + 1) * V = (q + 1) * k + p * ((q + 1) * S) := by rw [hV]; grind
  have e2 : p * (T + 1) = p * T + p := by grind
  have hTS : T < 10000 * (S + 1) := by
    by_cases c : T < 10000 * (S + 1)
    · exact c
    · have x1 := Int.mul_le_mul_of_nonneg_left (show 10000 * (S + 1) ≤ T by omega) (Int.le_of_lt hp)
      have x2 : p * (10000 * (S + 1)) = 10000 * (p * S) + 10000 * p := by grind
      omega
  have hq4 : q ≤ 10000 := by
    by_cases c : q ≤ 10000
    · exact c
    · have x1 := Int.mul_le_mul_of_nonneg_right (show 10001 ≤ q by omega) (show 0 ≤ S by omega)
      omega
  refine ⟨by omega, ?_, q0, hq4⟩
  have a3 := Int.mul_le_mul_of_nonneg_left q1 (Int.le_of_lt hp)
  by_cases c : q = 0
  · subst c
    have x1 := Int.mul_nonneg (Int.le_of_lt hp) (show 0 ≤ S by omega)
    have x2 := Int.mul_nonneg (Int.le_of_lt hp) hT
    omega
  · have b1 := Int.mul_le_mul_of_nonneg_left (show k ≤ p by omega) (show 0 ≤ q - 1 by omega)
    have b2 := Int.mul_le_mul_of_nonneg_left (show q - 1 ≤ S by omega) (Int.le_of_lt hp)
    have e3 : (q - 1) * V = (q - 1) * k + (p * (q * S) - p * S) := by rw [hV]; grind
    have e4 : (q - 1) * p = p * (q - 1) := Int.mul_comm _ _
    omega
/-- .. with a divisor of one place. -/
theorem guess1 {U V q : Int} (hV : 0 < V) (h0 : 0 ≤ U) (hlt : U < 10000 * V) (hq : q = U * 10000 / (V * 10000)) : U < (q + 1) * V ∧ (q - 1) * V ≤ U ∧ 0 ≤ q ∧ q ≤ 10000 := by
  rw [Int.mul_ediv_mul_of_pos_left _ _ (by omega)] at hq
  have q0 : 0 ≤ q := by rw [hq]; exact Int.ediv_nonneg h0 (by omega)
  have q1 : q * V ≤ U := by rw [hq]; exact Int.ediv_mul_le U (by omega)
  have q2 : U < (q + 1) * V := by rw [hq]; exact Int.lt_ediv_add_one_mul_self U hV
  refine ⟨q2, ?_, q0, ?_⟩
  · rw [Int.sub_mul]; omega
  · by_cases c : q ≤ 10000
    · exact c
    · have := Int.mul_le_mul_of_nonneg_right (show 10001 ≤ q by omega) (show 0 ≤ V by omega)
      omega
/-- The estimate of divideDigit, for a part with one place more than the divisor. -/
theorem guess_digit {U V : List Int} {m : Nat} {q : Int} (hU : U.length = m + 1) (hV : V.length = m) (hm : 0 < m) (hdU : Dig U) (hdV : Dig V) (htop : pw (m - 1) ≤ val V) (hlt : val U < 10000 * val V)
    (hq : q = leadF U (m + 1) 3 / leadF V m 2) : val U < (q + 1) * val V ∧ (q - 1) * val V ≤ val U ∧ 0 ≤ q ∧ q ≤ 10000 ∧ 0 < leadF V m 2 := by
  have hp := pw_pos (m - 1)
  by_cases h1 : m = 1
  · subst h1
    rw [leadF_out hU (by omega), leadF_out hV (by omega)] at hq
    have e : pw (3 - (1 + 1)) = 10000 := by simp [pw]
    have e' : pw (2 - 1) = 10000 := by simp [pw]
    first | rw [e, e'] at hq | rw [e] at hq
    have := guess1 (q := q) (show 0 < val V by omega) (val_nonneg hdU) hlt hq
    refine ⟨this.1, this.2.1, this.2.2.1, this.2.2.2, ?_⟩
    rw [leadF_out hV (by omega), e']; omega
  · obtain ⟨j, rfl⟩ : ∃ j, m = j + 2 := ⟨m - 2, by omega⟩
    rw [leadF_in hU (by omega), leadF_in hV (by omega), show j + 2 + 1 - 3 = j by omega, show j + 2 - 2 = j by omega] at hq
    have eU := val_take_drop U j (by omega)
    have eV := val_take_drop V j (by omega)
    have u1 := val_lt (hdU.take j)
    have v1 := val_lt (hdV.take j)
    rw [List.length_take, Nat.min_eq_left (by omega)] at u1 v1
    have hS : 10000 ≤ val (V.drop j) := by
      by_cases c : 10000 ≤ val (V.drop j)
      · exact c
      · have x1 := Int.mul_le_mul_of_nonneg_left (show val (V.drop j) ≤ 9999 by omega) (Int.le_of_lt (pw_pos j))
        rw [show j + 2 - 1 = j + 1 by omega, pw_succ] at htop
        omega
    have := guess eU eV (val_nonneg (hdU.take j)) u1 (val_nonneg (hdV.take j)) v1 hS (val_nonneg (hdU.drop j)) hlt hq
    refine ⟨this.1, this.2.1, this.2.2.1, this.2.2.2, ?_⟩
    rw [leadF_in hV (by omega), show j + 2 - 2 = j by omega]; omega
theorem digs_top {n : Int} (h : 0 < n) : pw ((digs n).length - 1) ≤ n := by
  by_cases c : pw ((digs n).length - 1) ≤ n
  · exact c
  · have := digs_len_le (n := n) (k := (digs n).length - 1) (by omega)
    have h2 : 0 < (digs n).length := by rw [digs_pos h]; simp
    omega
/-- Which of two lists is the greater one in the first k places. -/
def cmpD (L M : List Int) : Nat → Int
  | 0 => 0
  | k + 1 => if L.getD k 0 < M.getD k 0 then -1 else if M.getD k 0 < L.getD k 0 then 1 else cmpD L M k
def cmpL (L M : List Int) : Int := if L.length < M.length then -1 else if M.length < L.length then 1 else cmpD L M L.length
theorem cmpD_anti (L M : List Int) (k : Nat) : cmpD M L k = -cmpD L M k := by
  induction k with
  | zero => rfl
  | succ k ih => unfold cmpD; rw [ih]; split <;> split <;> omega
theorem cmpL_anti (L M : List Int) : cmpL M L = -cmpL L M := by
  unfold cmpL
  by_cases h1 : L.length < M.length
  · rw [if_neg (by omega), if_pos h1, if_pos h1]; rfl
  · by_cases h2 : M.length < L.length
    · rw [if_pos h2, if_neg h1, if_pos h2]
    · rw [if_neg h2, if_neg h1, if_neg h1, if_neg h2, cmpD_anti, show M.length = L.length by omega]
theorem cmpD_same (L : List Int) (k : Nat) : cmpD L L k = 0 := by
  induction k with
  | zero => rfl
  | succ k ih => unfold cmpD; rw [ih]; simp
theorem cmpL_same (L : List Int) : cmpL L L = 0 := by unfold cmpL; simp [cmpD_same]
theorem cmpD_zero {L M : List Int} {k : Nat} (h : cmpD L M k = 0) : ∀ j, j < k → L.getD j 0 = M.getD j 0 := by
  induction k with
  | zero => intro j hj; omega
  | succ k ih =>
    unfold cmpD at h
    intro j hj
    by_cases c1 : L.getD k 0 < M.getD k 0
    · rw [if_pos c1] at h; omega
    · rw [if_neg c1] at h
      by_cases c2 : M.getD k 0 < L.getD k 0
      · rw [if_pos c2] at h; omega
      · rw [if_neg c2] at h
        by_cases e : j = k
        · subst e; omega
        · exact ih h j (by omega)
theorem cmpL_zero {L M : List Int} (h : cmpL L M = 0) : L = M := by
  unfold cmpL at h
  by_cases h1 : L.length < M.length
  · rw [if_pos h1] at h; omega
  · rw [if_neg h1] at h
    by_cases h2 : M.length < L.length
    · rw [if_pos h2] at h; omega
    · rw [if_neg h2] at h
      apply List.ext_getElem (by omega)
      intro j hj1 hj2
      have := cmpD_zero h j hj1
      rwa [getD_lt hj1, getD_lt hj2] at this
theorem cmpL_zero_iff (L M : List Int) : cmpL L M = 0 ↔ L = M := ⟨cmpL_zero, fun h => by rw [h]; exact cmpL_same _⟩
def sgn (n : Int) : Int := if n < 0 then -1 else if 0 < n then 1 else 0
theorem cmpD_sgn {L M : List Int} (hL : Dig L) (hM : Dig M) (k : Nat) : cmpD L M k = sgn (val (L.take k) - val (M.take k)) ∧ val (L.take k) < pw k ∧ val (M.take k) < pw k := by
  induction k with
  | zero => simp [cmpD, sgn, val, pw]
  | succ k ih =>
    obtain ⟨ih, b1, b2⟩ := ih
    have a1 := val_nonneg (hL.take k)
    have a2 := val_nonneg (hM.take k)
    have d1 := hL.at k
    have d2 := hM.at k
    have hp := pw_pos k
    unfold cmpD
    rw [val_take_succ, val_take_succ, pw_succ, ih]
    generalize L.getD k 0 = x at *
    generalize M.getD k 0 = y at *
    have m1 := Int.mul_le_mul_of_nonneg_left (show x ≤ 9999 by omega) (Int.le_of_lt hp)
    have m2 := Int.mul_le_mul_of_nonneg_left (show y ≤ 9999 by omega) (Int.le_of_lt hp)
    refine ⟨?_, by omega, by omega⟩
    by_cases c1 : x < y
    · have m3 := Int.mul_le_mul_of_nonneg_left (show x + 1 ≤ y by omega) (Int.le_of_lt hp)
      rw [Int.mul_add] at m3
      rw [if_pos c1]; unfold sgn; rw [if_pos (by omega)]
    · rw [if_neg c1]
      by_cases c2 : y < x
      · have m3 := Int.mul_le_mul_of_nonneg_left (show y + 1 ≤ x by omega) (Int.le_of_lt hp)
        rw [Int.mul_add] at m3
        rw [if_pos c2]; unfold sgn; rw [if_neg (by omega), if_pos (by omega)]
      · obtain rfl : x = y := by omega
        rw [if_neg c2, show val (L.take k) + pw k * x - (val (M.take k) + pw k * x) = val (L.take k) - val (M.take k) by omega]
theorem cmpL_digs {x y : Int} (hx : 0 ≤ x) (hy : 0 ≤ y) : cmpL (digs x) (digs y) = sgn (x - y) := by
  have v1 := val_lt (dig_digs x)
  have v2 := val_lt (dig_digs y)
  rw [val_digs hx] at v1
  rw [val_digs hy] at v2
  unfold cmpL
  by_cases h1 : (digs x).length < (digs y).length
  · have hy0 : 0 < y := by
      by_cases c : 0 < y
      · exact c
      · rw [digs_neg (n := y) (by omega)] at h1; simp at h1
    have := digs_top hy0
    have := pw_mono (show (digs x).length ≤ (digs y).length - 1 by omega)
    rw [if_pos h1]; unfold sgn; rw [if_pos (by omega)]
  · rw [if_neg h1]
    by_cases h2 : (digs y).length < (digs x).length
    · have hx0 : 0 < x := by
        by_cases c : 0 < x
        · exact c
        · rw [digs_neg (n := x) (by omega)] at h2; simp at h2
      have := digs_top hx0
      have := pw_mono (show (digs y).length ≤ (digs x).length - 1 by omega)
      rw [if_pos h2]; unfold sgn; rw [if_neg (by omega), if_pos (by omega)]
    · rw [if_neg h2, (cmpD_sgn (dig_digs x) (dig_digs y) _).1]
      rw [List.take_of_length_le (by omega), List.take_of_length_le (by omega), val_digs hx, val_digs hy]
#print axioms guess_digit
#print axioms add_round
end Go.Proofs.YtkfkefgkepoaaaaGreatDoor
