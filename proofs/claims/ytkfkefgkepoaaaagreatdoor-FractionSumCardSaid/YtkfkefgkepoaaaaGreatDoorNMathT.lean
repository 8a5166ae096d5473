/- Plain mathematics: the decimal text of a number. -/
import Derived.Test.YtkfkefgkepoaaaaGreatDoorNMath
import Derived.Lib.ItoaMem
namespace Go.Proofs.YtkfkefgkepoaaaaGreatDoor
set_option linter.unusedVariables false
set_option maxRecDepth 100000

def dch (c : UInt8) : Int := (c.toNat : Int) - 48
def isd (c : UInt8) : Bool := decide (48 ≤ c.toNat ∧ c.toNat ≤ 57)
/-- The number that decimal digits make. -/
def decV (l : List UInt8) : Int := l.foldl (fun n c => n * 10 + dch c) 0
theorem decV_nil : decV [] = 0 := rfl
theorem decV_snoc (l : List UInt8) (c : UInt8) : decV (l ++ [c]) = decV l * 10 + dch c := by simp [decV, List.foldl_append]
def ten : Nat → Int
  | 0 => 1
  | k + 1 => 10 * ten k
theorem ten_pos (k : Nat) : 0 < ten k := by
  induction k with
  | zero => simp [ten]
  | succ k ih => unfold ten; omega
theorem snoc_ind {α : Type} {p : List α → Prop} (h0 : p []) (h1 : ∀ l a, p l → p (l ++ [a])) (l : List α) : p l := by
  have h : ∀ r : List α, p r.reverse := by
    intro r
    induction r with
    | nil => exact h0
    | cons x r ih => rw [List.reverse_cons]; exact h1 _ _ ih
  have := h l.reverse
  rwa [List.reverse_reverse] at this
theorem decV_append (l m : List UInt8) : decV (l ++ m) = decV l * ten m.length + decV m := by
  induction m using snoc_ind with
  | h0 => simp [decV_nil, ten]
  | h1 m c ih =>
    rw [← List.append_assoc, decV_snoc, decV_snoc, ih, List.length_append]
    simp only [List.length_singleton, ten]
    grind
theorem decV_cons (c : UInt8) (l : List UInt8) : decV (c :: l) = dch c * ten l.length + decV l := by
  have := decV_append [c] l
  rw [show [c] ++ l = c :: l from rfl, show decV [c] = dch c by simp [decV]] at this
  exact this
def allD (l : List UInt8) : Prop := ∀ c ∈ l, isd c = true
theorem isd_iff (c : UInt8) : isd c = true ↔ 48 ≤ c.toNat ∧ c.toNat ≤ 57 := by simp [isd]
theorem isd_dch {c : UInt8} (h : isd c = true) : 0 ≤ dch c ∧ dch c ≤ 9 := by
  have := (isd_iff c).1 h; unfold dch; omega
theorem allD.append {l m : List UInt8} (h : allD l) (k : allD m) : allD (l ++ m) := fun c hc => by
  rcases List.mem_append.1 hc with h1 | h1
  · exact h c h1
  · exact k c h1
theorem decV_nonneg {l : List UInt8} (h : allD l) : 0 ≤ decV l := by
  induction l using snoc_ind with
  | h0 => exact Int.le_refl _
  | h1 l c ih =>
    rw [decV_snoc]
    have := ih (fun d hd => h d (List.mem_append_left _ hd))
    have := isd_dch (h c (List.mem_append_right _ (List.mem_singleton.2 rfl)))
    omega
theorem decV_lt {l : List UInt8} (h : allD l) : decV l < ten l.length := by
  induction l using snoc_ind with
  | h0 => simp [decV_nil, ten]
  | h1 l c ih =>
    rw [decV_snoc, List.length_append]
    have := ih (fun d hd => h d (List.mem_append_left _ hd))
    have := isd_dch (h c (List.mem_append_right _ (List.mem_singleton.2 rfl)))
    simp only [List.length_singleton, ten]
    omega
/-- The text of a natural number of any size. -/
def isT (l : List UInt8) : Prop := l ≠ [] ∧ allD l ∧ (l.head? = some 48 → l.length = 1)
theorem dch_inj {c d : UInt8} (h : dch c = dch d) : c = d := by
  unfold dch at h
  exact UInt8.toNat_inj.1 (by omega)
theorem isT_init {l : List UInt8} {c : UInt8} (h : isT (l ++ [c])) (hl : l ≠ []) : isT l ∧ l.head? ≠ some 48 := by
  obtain ⟨_, h2, h3⟩ := h
  have hh : (l ++ [c]).head? = l.head? := by cases l with
    | nil => exact absurd rfl hl
    | cons x l => rfl
  have hne : l.head? ≠ some 48 := by
    intro e
    have := h3 (hh.trans e)
    rw [List.length_append] at this
    exact hl (List.eq_nil_of_length_eq_zero (by simpa using this))
  exact ⟨⟨hl, fun d hd => h2 d (List.mem_append_left _ hd), fun e => absurd e hne⟩, hne⟩
theorem decV_pos {l : List UInt8} (h : isT l) (h0 : l.head? ≠ some 48) : 0 < decV l := by
  obtain ⟨h1, h2, _⟩ := h
  cases l with
  | nil => exact absurd rfl h1
  | cons c l =>
    rw [decV_cons]
    have hc := isd_dch (h2 c (List.mem_cons_self ..))
    have hl := decV_nonneg (l := l) (fun d hd => h2 d (List.mem_cons_of_mem _ hd))
    have hp := ten_pos l.length
    have hne : dch c ≠ 0 := by
      intro e
      apply h0
      rw [show c = 48 from dch_inj (by rw [e]; rfl)]; rfl
    have := Int.mul_le_mul_of_nonneg_right (show 1 ≤ dch c by omega) (Int.le_of_lt hp)
    omega
theorem isT_inj {l m : List UInt8} (h : isT l) (k : isT m) (e : decV l = decV m) : l = m := by
  induction l using snoc_ind generalizing m with
  | h0 => exact absurd rfl h.1
  | h1 l c ih =>
    induction m using snoc_ind with
    | h0 => exact absurd rfl k.1
    | h1 m d _ =>
      rw [decV_snoc, decV_snoc] at e
      have hc := isd_dch (h.2.1 c (List.mem_append_right _ (List.mem_singleton.2 rfl)))
      have hd := isd_dch (k.2.1 d (List.mem_append_right _ (List.mem_singleton.2 rfl)))
      have hcd : c = d := dch_inj (by omega)
      have hlm : decV l = decV m := by omega
      subst hcd
      by_cases h1 : l = []
      · subst h1
        by_cases h2 : m = []
        · rw [h2]
        · have := decV_pos (isT_init k h2).1 (isT_init k h2).2
          rw [decV_nil] at hlm; omega
      · by_cases h2 : m = []
        · subst h2
          have := decV_pos (isT_init h h1).1 (isT_init h h1).2
          rw [decV_nil] at hlm; omega
        · rw [ih (isT_init h h1).1 (isT_init k h2).1 hlm]
def chr (n : Int) : UInt8 := UInt8.ofNat (48 + n.toNat)
theorem chr_nat {n : Int} (h0 : 0 ≤ n) (h1 : n ≤ 9) : ((chr n).toNat : Int) = 48 + n := by
  unfold chr
  rw [UInt8.toNat_ofNat']
  omega
theorem chr_dch {n : Int} (h0 : 0 ≤ n) (h1 : n ≤ 9) : dch (chr n) = n := by unfold dch; rw [chr_nat h0 h1]; omega
theorem chr_isd {n : Int} (h0 : 0 ≤ n) (h1 : n ≤ 9) : isd (chr n) = true := by
  rw [isd_iff]; have := chr_nat h0 h1; omega
/-- The four decimal digits of a digit. -/
def pad4 (d : Int) : List UInt8 := [chr (d / 1000), chr (d / 100 % 10), chr (d / 10 % 10), chr (d % 10)]
theorem pad4_dec {d : Int} (h0 : 0 ≤ d) (h1 : d < 10000) : decV (pad4 d) = d := by
  unfold pad4 decV
  simp only [List.foldl_cons, List.foldl_nil]
  rw [chr_dch (by omega) (by omega), chr_dch (by omega) (by omega), chr_dch (by omega) (by omega), chr_dch (by omega) (by omega)]
  omega
theorem pad4_all {d : Int} (h0 : 0 ≤ d) (h1 : d < 10000) : allD (pad4 d) := by
  intro c hc
  simp only [pad4, List.mem_cons, List.not_mem_nil, or_false] at hc
  rcases hc with rfl | rfl | rfl | rfl <;> exact chr_isd (by omega) (by omega)
theorem isT_pad {l : List UInt8} {d : Int} (h : isT l) (hp : 0 < decV l) (h0 : 0 ≤ d) (h1 : d < 10000) : isT (l ++ pad4 d) ∧ decV (l ++ pad4 d) = d + 10000 * decV l := by
  obtain ⟨a, b, c⟩ := h
  refine ⟨⟨by simp [pad4], b.append (pad4_all h0 h1), fun e => ?_⟩, ?_⟩
  · exfalso
    cases l with
    | nil => exact a rfl
    | cons x l =>
      have e1 : x = 48 := by simpa using e
      subst e1
      have := c rfl
      obtain rfl : l = [] := List.eq_nil_of_length_eq_zero (by simpa using this)
      simp [decV, dch] at hp
  · rw [decV_append, pad4_dec h0 h1]
    simp [pad4, ten]
    omega
theorem isT_dec (u : Nat) : isT (Lib.decDigits u) ∧ decV (Lib.decDigits u) = u := by
  induction u using Nat.strongRecOn with
  | ind u ih =>
    by_cases h : u < 10
    · rw [Lib.decDigits_one h]
      have e : UInt8.ofNat (48 + u) = chr (u : Int) := by unfold chr; congr 1
      rw [e]
      refine ⟨⟨by simp, fun c hc => ?_, fun _ => rfl⟩, ?_⟩
      · simp at hc; subst hc; exact chr_isd (by omega) (by omega)
      · simp [decV, chr_dch (show (0 : Int) ≤ (u : Int) by omega) (by omega)]
    · rw [Lib.decDigits, dif_neg h]
      have e : UInt8.ofNat (48 + u % 10) = chr ((u % 10 : Nat) : Int) := by unfold chr; congr 1
      rw [e]
      obtain ⟨⟨i1, i2, i3⟩, i4⟩ := ih (u / 10) (by omega)
      refine ⟨⟨by simp, i2.append (fun c hc => by simp only [List.mem_singleton] at hc; subst hc; exact chr_isd (by omega) (by omega)), fun e => ?_⟩, ?_⟩
      · exfalso
        cases hl : Lib.decDigits (u / 10) with
        | nil => exact i1 hl
        | cons x l =>
          rw [hl] at e i3 i4
          have e1 : x = 48 := by simpa using e
          subst e1
          have := i3 rfl
          obtain rfl : l = [] := List.eq_nil_of_length_eq_zero (by simpa using this)
          simp [decV, dch] at i4
          omega
      · rw [decV_snoc, i4, chr_dch (by omega) (by omega)]; omega
theorem dec_pad {d : Int} (h0 : 0 ≤ d) (h1 : d < 10000) : Lib.itoa (10000 + d) = 49 :: pad4 d := by
  obtain ⟨m, rfl⟩ : ∃ m : Nat, d = m := ⟨d.toNat, by omega⟩
  rw [show (10000 : Int) + (m : Int) = ((10000 + m : Nat) : Int) by omega, Lib.itoa_nonneg]
  have h49 : isT (49 :: pad4 (m : Int)) ∧ decV (49 :: pad4 (m : Int)) = (m : Int) + 10000 * decV [49] := by
    have := isT_pad (l := [49]) (d := (m : Int)) ⟨by simp, fun c hc => by simp at hc; subst hc; rfl, fun e => rfl⟩ (by decide) h0 h1
    exact this
  obtain ⟨t1, t2⟩ := isT_dec (10000 + m)
  refine isT_inj t1 h49.1 ?_
  rw [t2, h49.2, show decV [49] = 1 from rfl]
  omega
/-- All digits with four places each, the last one first. -/
def padL : List Int → List UInt8
  | [] => []
  | d :: l => padL l ++ pad4 d
theorem padL_all {l : List Int} (h : Dig l) : allD (padL l) := by
  induction l with
  | nil => intro c hc; cases hc
  | cons d l ih => have h' := Dig.cons.1 h; exact (ih h'.2).append (pad4_all h'.1.1 h'.1.2)
theorem padL_len (l : List Int) : (padL l).length = 4 * l.length := by
  induction l with
  | nil => rfl
  | cons d l ih => unfold padL; rw [List.length_append, ih]; simp [pad4]; omega
theorem padL_dec {l : List Int} (h : Dig l) : decV (padL l) = val l := by
  induction l with
  | nil => rfl
  | cons d l ih =>
    have h' := Dig.cons.1 h
    unfold padL
    rw [decV_append, ih h'.2, pad4_dec h'.1.1 h'.1.2, val_cons]
    simp [pad4, ten]; omega
/-- Without the zeros at the beginning, but for the last place. -/
def strip : List UInt8 → List UInt8
  | [] => []
  | [c] => [c]
  | c :: d :: l => if c = 48 then strip (d :: l) else c :: d :: l
theorem strip_dec (l : List UInt8) : decV (strip l) = decV l ∧ (strip l).length ≤ l.length ∧ (l ≠ [] → strip l ≠ []) ∧ (∀ c ∈ strip l, c ∈ l) := by
  induction l with
  | nil => simp [strip]
  | cons c l ih =>
    cases l with
    | nil => simp [strip]
    | cons d l =>
      unfold strip
      by_cases h : c = 48
      · rw [if_pos h]
        obtain ⟨a, b, e, f⟩ := ih
        refine ⟨?_, by simp at b ⊢; omega, fun _ => e (by simp), fun x hx => List.mem_cons_of_mem _ (f x hx)⟩
        rw [a, decV_cons c, h]; simp [dch]
      · rw [if_neg h]; exact ⟨rfl, Nat.le_refl _, fun h => h, fun x hx => hx⟩
theorem strip_head (l : List UInt8) : (strip l).head? = some 48 → (strip l).length = 1 := by
  induction l with
  | nil => simp [strip]
  | cons c l ih =>
    cases l with
    | nil => simp [strip]
    | cons d l =>
      unfold strip
      by_cases h : c = 48
      · rw [if_pos h]; exact ih
      · rw [if_neg h]; intro e; exact absurd (by simpa using e) h
theorem strip_isT {l : List UInt8} (h : allD l) (h0 : l ≠ []) : isT (strip l) := by
  obtain ⟨_, _, e, f⟩ := strip_dec l
  exact ⟨e h0, fun c hc => h c (f c hc), strip_head l⟩
/-- The text of a number. -/
def fmt (n : Int) : List UInt8 := Lib.decDigits n.toNat
theorem fmt_isT (n : Int) : isT (fmt n) := (isT_dec _).1
theorem fmt_dec {n : Int} (h : 0 ≤ n) : decV (fmt n) = n := by unfold fmt; rw [(isT_dec _).2]; omega
theorem fmt_of {l : List UInt8} {n : Int} (h : isT l) (hn : decV l = n) : l = fmt n := by
  have h0 := decV_nonneg h.2.1
  exact isT_inj h (fmt_isT n) (by rw [fmt_dec (by omega)]; exact hn)
theorem fmt_strip {L : List Int} (h : Dig L) (h0 : L ≠ []) : strip (padL L) = fmt (val L) := by
  refine fmt_of (strip_isT (padL_all h) ?_) ?_
  · intro e
    have := padL_len L
    rw [e] at this
    exact h0 (List.eq_nil_of_length_eq_zero (by simp at this; omega))
  · rw [(strip_dec _).1, padL_dec h]
theorem ten_pw (k : Nat) : ten (4 * k) = pw k := by
  induction k with
  | zero => rfl
  | succ k ih => rw [show 4 * (k + 1) = 4 * k + 1 + 1 + 1 + 1 by omega, pw_succ, ← ih]; simp [ten]; omega
theorem fmt_len {n : Int} (h : (digs n).length ≤ 200) : (fmt n).length ≤ 800 := by
  by_cases h0 : 0 < n
  · have := fmt_strip (dig_digs n) (digs_ne h0)
    rw [val_digs (by omega)] at this
    rw [← this]
    have := (strip_dec (padL (digs n))).2.1
    rw [padL_len] at this
    omega
  · have : fmt n = [48] := by unfold fmt; rw [show n.toNat = 0 by omega, Lib.decDigits_one (by omega)]; rfl
    rw [this]; simp
theorem decV_bound {l : List UInt8} (h : allD l) (hl : l.length ≤ 800) : (digs (decV l)).length ≤ 200 := by
  apply digs_len_le
  have h1 := decV_lt h
  have h2 : ∀ k, ten l.length ≤ ten (l.length + k) := by
    intro k
    induction k with
    | zero => exact Int.le_refl _
    | succ k ih => rw [← Nat.add_assoc]; simp only [ten]; have := ten_pos (l.length + k); omega
  have h3 := h2 (800 - l.length)
  rw [show l.length + (800 - l.length) = 4 * 200 by omega, ten_pw] at h3
  omega
/-- Is it the text of a number? -/
def isTB (l : List UInt8) : Bool := decide (l ≠ []) && (l.all isd && (decide (l.head? ≠ some 48) || decide (l.length = 1)))
theorem isTB_iff (l : List UInt8) : isTB l = true ↔ isT l := by
  unfold isTB isT allD
  simp only [Bool.and_eq_true, Bool.or_eq_true, decide_eq_true_eq, List.all_eq_true]
  constructor
  · rintro ⟨a, b, c⟩
    exact ⟨a, b, fun e => c.resolve_left (fun h => h e)⟩
  · rintro ⟨a, b, c⟩
    refine ⟨a, b, ?_⟩
    by_cases e : l.head? = some 48
    · exact .inr (c e)
    · exact .inl e
#print axioms fmt_strip
end Go.Proofs.YtkfkefgkepoaaaaGreatDoor
