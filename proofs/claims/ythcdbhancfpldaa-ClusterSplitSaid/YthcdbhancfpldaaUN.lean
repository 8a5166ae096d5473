/- Texts of sounds: Format and Parse as plain functions, and that they lead back. -/
import Derived.Test.YthcdbhancfpldaaUM
namespace Go.Proofs.Ythcdbhancfpldaa
set_option linter.unusedVariables false
set_option linter.unusedSimpArgs false

def ltrs : List UInt8 := [118, 100, 109, 108, 110, 115, 120, 103, 98]
def ltrK (k : Int) : UInt8 := ltrs.getD (k - 1).toNat 0
/-- The text of one sound. -/
def tx1 (x : Snd) : List UInt8 := x.t ++ 47 :: ltrK x.k :: (if nuc x then [(48 + x.q).toNat.toUInt8] else [])
def txL (L : List Snd) : List UInt8 := jn 32 (L.map tx1)
/-- The error of the first sound that is not valid. -/
def errL : List Snd → Int
  | [] => 0
  | x :: r => if vS x = 0 then errL r else vS x
def fmtV (L : List Snd) : List UInt8 × Int := if 200 < L.length then ([], 3) else if errL L = 0 then (txL L, 0) else ([], errL L)
theorem errL_zero : ∀ {L : List Snd}, errL L = 0 ↔ ∀ x ∈ L, vS x = 0
  | [] => by simp [errL]
  | x :: r => by
    have ih := @errL_zero r
    rw [errL]
    by_cases h : vS x = 0
    · rw [if_pos h, ih]; simp [h]
    · rw [if_neg h]
      constructor
      · intro e; exact absurd e h
      · intro e; exact absurd (e x List.mem_cons_self) h
theorem errL_at : ∀ {L : List Snd} {k : Nat} {x : Snd}, L[k]? = some x → (∀ y ∈ L.take k, vS y = 0) → vS x ≠ 0 → errL L = vS x
  | [], k, x, h, _, _ => by simp at h
  | y :: r, 0, x, h, _, hx => by
    have e : y = x := by simpa using h
    subst e; rw [errL, if_neg hx]
  | y :: r, k + 1, x, h, hk, hx => by
    rw [errL, if_pos (hk y (by simp)), errL_at (by simpa using h) (fun z hz => hk z (by rw [List.take_succ_cons]; exact List.mem_cons_of_mem _ hz)) hx]
theorem qOk_nuc {x : Snd} (h : qOk x.k x.q = true) (hn : nuc x = true) : 1 ≤ x.q ∧ x.q ≤ 3 := by
  unfold qOk at h
  unfold nuc at hn
  by_cases h1 : x.k = 1
  · rw [if_pos h1] at h; simpa using h
  · rw [if_neg h1] at h
    have h2 : x.k = 2 := by simpa [h1] using hn
    rw [if_pos h2] at h
    have : x.q = 2 := by simpa using h
    omega
theorem qOk_con {x : Snd} (h : qOk x.k x.q = true) (hn : nuc x = false) : x.q = 0 := by
  unfold qOk at h
  unfold nuc at hn
  have h1 : ¬ x.k = 1 := by intro e; simp [e] at hn
  have h2 : ¬ x.k = 2 := by intro e; simp [e] at hn
  rw [if_neg h1, if_neg h2] at h
  simpa using h
theorem mk_not (c : UInt8) (h : isMk c = true) : c ≠ 47 ∧ c ≠ 32 := by
  constructor <;> (intro e; subst e; exact absurd h (by decide))
theorem kinds {k : Int} (h : 1 ≤ k ∧ k ≤ 9) : k = 1 ∨ k = 2 ∨ k = 3 ∨ k = 4 ∨ k = 5 ∨ k = 6 ∨ k = 7 ∨ k = 8 ∨ k = 9 := by omega
theorem qs {q : Int} (h : 1 ≤ q ∧ q ≤ 3) : q = 1 ∨ q = 2 ∨ q = 3 := by omega
theorem ltr_not {k : Int} (h : 1 ≤ k ∧ k ≤ 9) : ltrK k ≠ 47 ∧ ltrK k ≠ 32 := by
  rcases kinds h with rfl | rfl | rfl | rfl | rfl | rfl | rfl | rfl | rfl <;> decide
theorem dig_not {q : Int} (h : 1 ≤ q ∧ q ≤ 3) : ((48 + q).toNat.toUInt8) ≠ 47 ∧ ((48 + q).toNat.toUInt8) ≠ 32 ∧ (((48 + q).toNat.toUInt8).toNat : Int) - 48 = q := by
  rcases qs h with rfl | rfl | rfl <;> decide
theorem tx1_len {x : Snd} (h : vS x = 0) : (tx1 x).length ≤ 11 := by
  have hv := vS_zero h
  unfold tx1
  rw [List.length_append, List.length_cons, List.length_cons]
  split <;> simp <;> omega
theorem tx1_sp {x : Snd} (h : vS x = 0) : ∀ c ∈ tx1 x, isSp c = false := by
  obtain ⟨h1, h2, h3, h4, h5⟩ := vS_zero h
  intro c hc
  have key : c ≠ 32 := by
    unfold tx1 at hc
    rcases List.mem_append.1 hc with hc | hc
    · exact (mk_not c (List.all_eq_true.1 h5 c hc)).2
    · rcases List.mem_cons.1 hc with e | hc
      · subst e; decide
      · rcases List.mem_cons.1 hc with e | hc
        · subst e; exact (ltr_not h1).2
        · by_cases hn : nuc x = true
          · rw [if_pos hn] at hc
            rw [List.mem_singleton.1 hc]; exact (dig_not (qOk_nuc h2 hn)).2.1
          · rw [if_neg hn] at hc; simp at hc
  unfold isSp; simpa using key
/-! ### Reading one sound -/
def hdS (p : List UInt8) : List UInt8 := p.takeWhile (· != 47)
def tlS (p : List UInt8) : List UInt8 := (p.dropWhile (· != 47)).drop 1
def kOf (c : UInt8) : Int := Lib.indexByte ltrs c + 1
def cand (p : List UInt8) : Snd := ⟨kOf ((tlS p).getD 0 0), if (tlS p).length = 2 then (((tlS p).getD 1 0).toNat : Int) - 48 else 0, hdS p⟩
open Classical in
/-- The sound with a text. -/
noncomputable def rdV (p : List UInt8) : Option Snd := if h : ∃ x, vS x = 0 ∧ tx1 x = p then some (Classical.choose h) else none
theorem hd_cat : ∀ {a : List UInt8} (r : List UInt8), (∀ c ∈ a, c ≠ 47) → hdS (a ++ 47 :: r) = a ∧ tlS (a ++ 47 :: r) = r
  | [], r, _ => by simp [hdS, tlS]
  | c :: a, r, h => by
    have ih := hd_cat (a := a) r (fun d hd => h d (List.mem_cons_of_mem _ hd))
    have hc : (c != 47) = true := by simpa using h c List.mem_cons_self
    unfold hdS tlS at ih ⊢
    rw [List.cons_append, List.takeWhile_cons_of_pos (p := (· != 47)) hc, List.dropWhile_cons_of_pos (p := (· != 47)) hc, ih.1]
    exact ⟨rfl, ih.2⟩
theorem cat_hd : ∀ {p : List UInt8}, tlS p ≠ [] → p = hdS p ++ 47 :: tlS p
  | [], h => by simp [tlS] at h
  | c :: r, h => by
    by_cases hc : c = 47
    · subst hc; simp [hdS, tlS]
    · have hc : (c != 47) = true := by simpa using hc
      have e1 : hdS (c :: r) = c :: hdS r := by unfold hdS; rw [List.takeWhile_cons_of_pos (p := (· != 47)) hc]
      have e2 : tlS (c :: r) = tlS r := by unfold tlS; rw [List.dropWhile_cons_of_pos (p := (· != 47)) hc]
      rw [e2] at h
      rw [e1, e2, List.cons_append, ← cat_hd h]
theorem tx1_cut {x : Snd} (h : vS x = 0) : hdS (tx1 x) = x.t ∧ tlS (tx1 x) = ltrK x.k :: (if nuc x then [(48 + x.q).toNat.toUInt8] else []) := by
  obtain ⟨h1, h2, h3, h4, h5⟩ := vS_zero h
  unfold tx1
  exact hd_cat _ (fun c hc => (mk_not c (List.all_eq_true.1 h5 c hc)).1)
theorem kOf_ltr {k : Int} (h : 1 ≤ k ∧ k ≤ 9) : kOf (ltrK k) = k := by
  rcases kinds h with rfl | rfl | rfl | rfl | rfl | rfl | rfl | rfl | rfl <;> decide
theorem idx_at {c : UInt8} : ∀ {l : List UInt8}, 0 ≤ Lib.indexByte l c → l.getD (Lib.indexByte l c).toNat 0 = c ∧ Lib.indexByte l c < l.length
  | [], h => by simp [Lib.indexByte] at h
  | b :: l, h => by
    have ih := @idx_at c l
    unfold Lib.indexByte at h ⊢
    by_cases e : (b == c) = true
    · rw [if_pos e]
      have : b = c := by simpa using e
      subst this
      refine ⟨rfl, ?_⟩
      show (0 : Int) < ((l.length + 1 : Nat) : Int)
      omega
    · rw [if_neg e] at h ⊢
      by_cases e2 : (Lib.indexByte l c == -1) = true
      · rw [if_pos e2] at h; exact absurd h (by decide)
      · rw [if_neg e2] at h ⊢
        have hge := Lib.indexByte_ge l c
        have hne : Lib.indexByte l c ≠ -1 := by simpa using e2
        obtain ⟨i1, i2⟩ := ih (by omega)
        obtain ⟨m, hm⟩ := Int.eq_ofNat_of_zero_le (show 0 ≤ Lib.indexByte l c by omega)
        rw [hm] at i1 i2 ⊢
        refine ⟨?_, by rw [List.length_cons]; omega⟩
        rw [show ((m : Int) + 1).toNat = m + 1 by omega, List.getD_cons_succ]
        simpa using i1
theorem ltr_kOf {c : UInt8} (h : 1 ≤ kOf c) : ltrK (kOf c) = c ∧ kOf c ≤ 9 := by
  unfold kOf at h ⊢
  obtain ⟨h1, h2⟩ := idx_at (l := ltrs) (c := c) (by omega)
  unfold ltrK
  rw [show Lib.indexByte ltrs c + 1 - 1 = Lib.indexByte ltrs c by omega]
  refine ⟨h1, ?_⟩
  have : ltrs.length = 9 := rfl
  omega
theorem kOf_ge (c : UInt8) : 0 ≤ kOf c := by have := Lib.indexByte_ge ltrs c; unfold kOf; omega
theorem cand_tx {x : Snd} (h : vS x = 0) : cand (tx1 x) = x := by
  obtain ⟨h1, h2, h3, h4, h5⟩ := vS_zero h
  obtain ⟨e1, e2⟩ := tx1_cut h
  unfold cand
  rw [e1, e2]
  refine Snd.eq (kOf_ltr h1) ?_ rfl
  by_cases hn : nuc x = true
  · rw [if_pos hn]; exact (dig_not (qOk_nuc h2 hn)).2.2
  · rw [if_neg hn]
    exact (qOk_con h2 (by simpa using hn)).symm
theorem rd_some {p : List UInt8} {x : Snd} (h : rdV p = some x) : vS x = 0 ∧ tx1 x = p := by
  unfold rdV at h
  split at h
  · rename_i hh
    rw [← Option.some.inj h]; exact Classical.choose_spec hh
  · cases h
theorem rd_of {p : List UInt8} {x : Snd} (h : vS x = 0) (h2 : tx1 x = p) : rdV p = some x := by
  cases hr : rdV p with
  | none =>
    unfold rdV at hr
    rw [dif_pos ⟨x, h, h2⟩] at hr; cases hr
  | some y =>
    obtain ⟨h3, h4⟩ := rd_some hr
    rw [← cand_tx h, ← cand_tx h3, h2, h4]
theorem rd_tx {x : Snd} (h : vS x = 0) : rdV (tx1 x) = some x := rd_of h rfl
theorem rd_none {p : List UInt8} (h : ∀ x, vS x = 0 → tx1 x ≠ p) : rdV p = none := by
  cases hr : rdV p with
  | none => rfl
  | some y => exact absurd (rd_some hr).2 (h y (rd_some hr).1)
/-- Nothing behind the slash: no sound. -/
theorem rd_empty {p : List UInt8} (h : tlS p = []) : rdV p = none := rd_none fun x hx e => by
  have := (tx1_cut hx).2
  rw [e, h] at this; cases this
/-- The program's way. -/
theorem rd_cand {p : List UInt8} (h1 : vS (cand p) = 0) (h2 : tx1 (cand p) = p) : rdV p = some (cand p) := rd_of h1 h2
theorem rd_inv {p : List UInt8} (h1 : vS (cand p) ≠ 0) : rdV p = none := rd_none fun x hx e => by
  rw [← e, cand_tx hx] at h1; exact h1 hx
theorem rd_other {p : List UInt8} (h2 : tx1 (cand p) ≠ p) : rdV p = none := rd_none fun x hx e => by
  rw [← e, cand_tx hx] at h2; exact h2 rfl
/-- The reference's way: what is behind the letter. -/
def hasQ (p : List UInt8) : Bool := (kOf ((tlS p).getD 0 0) == 1 || kOf ((tlS p).getD 0 0) == 2) && ((tlS p).length == 2 && (decide (49 ≤ (((tlS p).getD 1 0).toNat : Int)) && decide ((((tlS p).getD 1 0).toNat : Int) ≤ 51)))
theorem one_q {p : List UInt8} {x : Snd} (hk : x.k = kOf ((tlS p).getD 0 0)) (ht : x.t = hdS p) (hq : x.q = (((tlS p).getD 1 0).toNat : Int) - 48) (h : hasQ p = true) : (vS x = 0 → rdV p = some x) ∧ (vS x ≠ 0 → rdV p = none) := by
  unfold hasQ at h
  simp only [Bool.and_eq_true, decide_eq_true_eq, beq_iff_eq] at h
  obtain ⟨h1, h2, h3, h4⟩ := h
  have hc : x = cand p := Snd.eq hk (by rw [hq]; unfold cand; rw [if_pos h2]) ht
  refine ⟨fun hv => ?_, fun hv => rd_inv (by rw [← hc]; exact hv)⟩
  refine rd_of hv ?_
  have hne : tlS p ≠ [] := fun e => by rw [e] at h2; simp at h2
  have hn : nuc x = true := by unfold nuc; rw [hk]; simpa using h1
  have hv' := vS_zero hv
  conv => rhs; rw [cat_hd hne]
  unfold tx1
  rw [ht, if_pos hn]
  have hl : ltrK x.k = (tlS p).getD 0 0 := by
    rw [hk]; exact (ltr_kOf (by rw [← hk]; exact hv'.1.1)).1
  rw [hl]
  match e : tlS p, h2 with
  | [a, b], _ =>
    rw [e] at hq
    have hb : (48 + x.q).toNat.toUInt8 = b := by
      have : x.q = (b.toNat : Int) - 48 := hq
      rw [this, show (48 + ((b.toNat : Int) - 48)).toNat = b.toNat by omega]
      exact UInt8.toNat_inj.1 (by simp)
    rw [hb]; rfl
theorem one_p {p : List UInt8} {x : Snd} (hk : x.k = kOf ((tlS p).getD 0 0)) (ht : x.t = hdS p) (hq : x.q = 0) (h2 : (tlS p).length = 1) : (vS x = 0 → rdV p = some x) ∧ (vS x ≠ 0 → rdV p = none) := by
  have hc : x = cand p := Snd.eq hk (by rw [hq]; unfold cand; rw [if_neg (by omega)]) ht
  refine ⟨fun hv => ?_, fun hv => rd_inv (by rw [← hc]; exact hv)⟩
  refine rd_of hv ?_
  have hne : tlS p ≠ [] := fun e => by rw [e] at h2; simp at h2
  have hv' := vS_zero hv
  have hn : ¬ nuc x = true := fun hn => by have := qOk_nuc hv'.2.1 hn; omega
  conv => rhs; rw [cat_hd hne]
  unfold tx1
  rw [ht, if_neg hn]
  have hl : ltrK x.k = (tlS p).getD 0 0 := by
    rw [hk]; exact (ltr_kOf (by rw [← hk]; exact hv'.1.1)).1
  rw [hl]
  match e : tlS p, h2 with
  | [a], _ => rfl
theorem one_no {p : List UInt8} (h : hasQ p = false) (h2 : (tlS p).length ≠ 1) : rdV p = none := rd_none fun x hx e => by
  subst e
  obtain ⟨e1, e2⟩ := tx1_cut hx
  obtain ⟨h1, h2', h3, h4, h5⟩ := vS_zero hx
  by_cases hn : nuc x = true
  · rw [if_pos hn] at e2
    have hd := dig_not (qOk_nuc h2' hn)
    have hq := qOk_nuc h2' hn
    unfold hasQ at h
    rw [e2] at h
    simp only [List.getD_cons_zero, List.getD_cons_succ, List.length_cons, List.length_nil, kOf_ltr h1] at h
    have hx2 : (((48 + x.q).toNat.toUInt8).toNat : Int) = 48 + x.q := by omega
    rw [hx2] at h
    have a : (x.k == 1 || x.k == 2) = true := hn
    rw [a, decide_eq_true (show (49 : Int) ≤ 48 + x.q by omega), decide_eq_true (show 48 + x.q ≤ (51 : Int) by omega)] at h
    cases h
  · rw [if_neg hn] at e2
    rw [e2] at h2; exact h2 rfl
/-! ### Reading a list -/
noncomputable def rdL : List (List UInt8) → Option (List Snd)
  | [] => some []
  | p :: r => match rdV p, rdL r with
    | some x, some L => some (x :: L)
    | _, _ => none
theorem rdL_some : ∀ {P : List (List UInt8)} {L : List Snd}, rdL P = some L ↔ P.map rdV = L.map some
  | [], L => by
    simp only [rdL, List.map_nil]
    constructor
    · intro h; rw [← Option.some.inj h]; rfl
    · intro h; cases L with
      | nil => rfl
      | cons x r => cases h
  | p :: r, L => by
    have ih := fun M => @rdL_some r M
    unfold rdL
    constructor
    · intro h
      cases h1 : rdV p with
      | none => rw [h1] at h; cases h
      | some x =>
        cases h2 : rdL r with
        | none => rw [h1, h2] at h; cases h
        | some M =>
          rw [h1, h2] at h
          rw [← Option.some.inj h, List.map_cons, List.map_cons, h1, (ih M).1 h2]
    · intro h
      cases L with
      | nil => cases h
      | cons x M =>
        rw [List.map_cons, List.map_cons] at h
        injection h with h1 h2
        rw [h1, (ih M).2 h2]
theorem rdL_none : ∀ {P : List (List UInt8)} {k : Nat} {p : List UInt8}, P[k]? = some p → rdV p = none → rdL P = none
  | [], k, p, h, _ => by simp at h
  | q :: r, 0, p, h, hp => by
    have e : q = p := by simpa using h
    subst e; unfold rdL; rw [hp]
  | q :: r, k + 1, p, h, hp => by
    have ih := @rdL_none r k p (by simpa using h) hp
    unfold rdL; rw [ih]
    cases rdV q <;> rfl
noncomputable def prsV (s : List UInt8) : List Snd × Int :=
  if 4000 < s.length then ([], 3) else if s = [] then ([], 0) else match rdL (splL isSp s) with
    | some L => if 200 < L.length then ([], 2) else (L, 0)
    | none => ([], 2)
theorem prs_big {s : List UInt8} (h : 4000 < s.length) : prsV s = ([], 3) := by unfold prsV; rw [if_pos h]
theorem prs_nil : prsV [] = ([], 0) := by unfold prsV; rw [if_neg (by decide), if_pos rfl]
theorem prs_none {s : List UInt8} (h : ¬ 4000 < s.length) (h1 : s ≠ []) (h2 : rdL (splL isSp s) = none) : prsV s = ([], 2) := by
  unfold prsV; rw [if_neg h, if_neg h1, h2]
theorem prs_many {s : List UInt8} (h : ¬ 4000 < s.length) (h1 : s ≠ []) (h2 : 200 < (splL isSp s).length) : prsV s = ([], 2) := by
  cases hr : rdL (splL isSp s) with
  | none => exact prs_none h h1 hr
  | some L =>
    have hl := congrArg List.length (rdL_some.1 hr)
    rw [List.length_map, List.length_map] at hl
    unfold prsV; rw [if_neg h, if_neg h1, hr]
    show (if 200 < L.length then _ else _) = _
    rw [if_pos (by omega)]
theorem prs_ok {s : List UInt8} {L : List Snd} (h : ¬ 4000 < s.length) (h1 : s ≠ []) (h2 : (splL isSp s).map rdV = L.map some) (h3 : ¬ 200 < L.length) : prsV s = (L, 0) := by
  unfold prsV; rw [if_neg h, if_neg h1, rdL_some.2 h2]
  show (if 200 < L.length then _ else _) = _
  rw [if_neg h3]
theorem isSp_is (c : UInt8) (h : isSp c = true) : c = 32 := by unfold isSp at h; simpa using h
theorem map_rd : ∀ {P : List (List UInt8)} {L : List Snd}, P.map rdV = L.map some → L.map tx1 = P ∧ ∀ x ∈ L, vS x = 0
  | [], [], _ => ⟨rfl, by simp⟩
  | [], x :: L, h => by cases h
  | p :: P, [], h => by cases h
  | p :: P, x :: L, h => by
    rw [List.map_cons, List.map_cons] at h
    injection h with h1 h2
    obtain ⟨i1, i2⟩ := map_rd h2
    obtain ⟨a, b⟩ := rd_some h1
    refine ⟨by rw [List.map_cons, b, i1], fun y hy => ?_⟩
    rcases List.mem_cons.1 hy with e | hy
    · subst e; exact a
    · exact i2 y hy
theorem map_tx : ∀ {L : List Snd}, (∀ x ∈ L, vS x = 0) → (L.map tx1).map rdV = L.map some
  | [], _ => rfl
  | x :: L, h => by
    rw [List.map_cons, List.map_cons, List.map_cons, rd_tx (h x List.mem_cons_self), map_tx (fun y hy => h y (List.mem_cons_of_mem _ hy))]
/-- An accepted text is that of its list. -/
theorem prs_fmt {s : List UInt8} {L : List Snd} (h : prsV s = (L, 0)) : fmtV L = (s, 0) := by
  unfold prsV at h
  by_cases h1 : 4000 < s.length
  · rw [if_pos h1] at h; injection h with _ h; cases h
  · rw [if_neg h1] at h
    by_cases h2 : s = []
    · rw [if_pos h2] at h; injection h with h _
      subst h; subst h2; rfl
    · rw [if_neg h2] at h
      cases hr : rdL (splL isSp s) with
      | none => rw [hr] at h; injection h with _ h; cases h
      | some M =>
        rw [hr] at h
        have h : (if 200 < M.length then (([], 2) : List Snd × Int) else (M, 0)) = (L, 0) := h
        by_cases h3 : 200 < M.length
        · rw [if_pos h3] at h; injection h with _ h; cases h
        · rw [if_neg h3] at h
          injection h with h _
          subst h
          obtain ⟨a, b⟩ := map_rd (rdL_some.1 hr)
          unfold fmtV
          rw [if_neg h3, if_pos (errL_zero.2 b)]
          unfold txL
          rw [a, jn_split isSp 32 isSp_is]
theorem fmt_zero {s : List UInt8} {L : List Snd} (h : fmtV L = (s, 0)) : L.length ≤ 200 ∧ (∀ x ∈ L, vS x = 0) ∧ txL L = s := by
  unfold fmtV at h
  by_cases h1 : 200 < L.length
  · rw [if_pos h1] at h; injection h with _ h; cases h
  · rw [if_neg h1] at h
    by_cases h2 : errL L = 0
    · rw [if_pos h2] at h; injection h with h _
      exact ⟨by omega, errL_zero.1 h2, h⟩
    · rw [if_neg h2] at h; injection h with _ h; exact absurd h h2
theorem fmt_ok {L : List Snd} (h : L.length ≤ 200) (h1 : ∀ x ∈ L, vS x = 0) : fmtV L = (txL L, 0) := by
  unfold fmtV; rw [if_neg (by omega), if_pos (errL_zero.2 h1)]
theorem txL_len {L : List Snd} (h1 : ∀ x ∈ L, vS x = 0) : (txL L).length ≤ L.length * 12 := by
  have := jn_len (32 : UInt8) 11 (L.map tx1) (fun u hu => by
    obtain ⟨x, hx, rfl⟩ := List.mem_map.1 hu
    exact tx1_len (h1 x hx))
  rwa [List.length_map] at this
theorem tx1_ne (x : Snd) : tx1 x ≠ [] := by unfold tx1; intro e; have := congrArg List.length e; simp at this
theorem txL_ne {L : List Snd} (h : L ≠ []) : txL L ≠ [] := by
  cases L with
  | nil => exact absurd rfl h
  | cons x r =>
    intro e
    unfold txL at e
    rw [List.map_cons] at e
    cases r with
    | nil => exact tx1_ne x e
    | cons y r => rw [List.map_cons, jn_two] at e; have := congrArg List.length e; simp at this
/-- Parse leads back from a text to its list. -/
theorem fmt_prs {s : List UInt8} {L : List Snd} (h : fmtV L = (s, 0)) : prsV s = (L, 0) := by
  obtain ⟨h1, h2, h3⟩ := fmt_zero h
  subst h3
  by_cases hL : L = []
  · subst hL; exact prs_nil
  · have hl := txL_len h2
    refine prs_ok (by omega) (txL_ne hL) ?_ (by omega)
    unfold txL
    rw [split_jn isSp 32 rfl (L.map tx1) (by simpa using hL) (fun u hu => by
      obtain ⟨x, hx, rfl⟩ := List.mem_map.1 hu
      exact tx1_sp (h2 x hx)), map_tx h2]
theorem txL_cat {a b : List Snd} (ha : a ≠ []) (hb : b ≠ []) : txL (a ++ b) = txL a ++ 32 :: txL b := by
  unfold txL
  rw [List.map_append, jn_cat 32 _ _ (by simpa using ha) (by simpa using hb)]
theorem txL_take {L : List Snd} {k : Nat} {x : Snd} (h : L[k]? = some x) (h0 : 0 < k) : txL (L.take (k + 1)) = txL (L.take k) ++ 32 :: tx1 x := by
  obtain ⟨hk, e⟩ := List.getElem?_eq_some_iff.1 h
  rw [List.take_succ_eq_append_getElem hk, e]
  unfold txL
  rw [List.map_append]
  refine jn_snoc 32 _ _ ?_
  intro e2
  have h3 := congrArg List.length e2
  rw [List.length_map, List.length_take] at h3
  have h4 : min k L.length = 0 := h3
  omega
theorem txL_first {L : List Snd} {x : Snd} (h : L[0]? = some x) : txL (L.take 1) = tx1 x := by
  cases L with
  | nil => simp at h
  | cons y r => have e : y = x := by simpa using h
                subst e; rfl
end Go.Proofs.Ythcdbhancfpldaa
