/- Several texts in one: UN, Shelf. -/
import Derived.Test.YtjamfcihjendiaaGreatRaaa
import Derived.Shelf.Strings.Builder1
import Derived.Shelf.Strings.Builder2
import Derived.Shelf.Strings.OnBuilder
import Derived.Shelf.Small.Strs
import Derived.Shelf.Strings.BuilderF
import Derived.Shelf.Strings.BuilderK
import Derived.Shelf.Strings.Search1
import Derived.Shelf.Strings.Prefix
import Derived.Shelf.Slices.Equal
import Derived.Ground.Names2Prog
import Derived.Shelf.Slices.Clone
import Derived.Shelf.Slices.Empties2
import Derived.Test.YtjamfcihjendiaaGreatProg
namespace Go.Proofs.YtjamfcihjendiaaGreat
set_option linter.unusedVariables false
set_option linter.unusedSimpArgs false

def ltrs : List UInt8 := [118, 100, 109, 108, 110, 115, 120, 103, 98]
def ltrK (k : Int) : UInt8 := ltrs.getD (k - 1).toNat 0
def tx1 (x : Snd) : List UInt8 := x.t ++ 47 :: ltrK x.k :: (if nuc x then [(48 + x.q).toNat.toUInt8] else [])
def txL (L : List Snd) : List UInt8 := jn 32 (L.map tx1)
def errL : List Snd → Int
  | [] => 0
  | x :: r => if vS x = 0 then errL r else vS x
def fmtV (L : List Snd) : List UInt8 × Int := if 200 < L.length then ([], 3) else if errL L = 0 then (txL L, 0) else ([], errL L)
theorem errL_zero : ∀ {L : List Snd}, errL L = 0 ↔ ∀ x ∈ L, vS x = 0
  | [] => by simp [errL]
  | x :: r => by
    have ih := @errL_zero r
    rw [errL]
    by_cases h : vS x = 0
    · rw [if_pos h, ih]; simp [h]
    · rw [if_neg h]
      constructor
      · intro e; exact absurd e h
      · intro e; exact absurd (e x List.mem_cons_self) h
theorem errL_at : ∀ {L : List Snd} {k : Nat} {x : Snd}, L[k]? = some x → (∀ y ∈ L.take k, vS y = 0) → vS x ≠ 0 → errL L = vS x
  | [], k, x, h, _, _ => by simp at h
  | y :: r, 0, x, h, _, hx => by
    have e : y = x := by simpa using h
    subst e; rw [errL, if_neg hx]
  | y :: r, k + 1, x, h, hk, hx => by
    rw [errL, if_pos (hk y (by simp)), errL_at (by simpa using h) (fun z hz => hk z (by rw [List.take_succ_cons]; exact List.mem_cons_of_mem _ hz)) hx]
theorem qOk_nuc {x : Snd} (h : qOk x.k x.q = true) (hn : nuc x = true) : 1 ≤ x.q ∧ x.q ≤ 3 := by
  unfold qOk at h
  unfold nuc at hn
  by_cases h1 : x.k = 1
  · rw [if_pos h1] at h; simpa using h
  · rw [if_neg h1] at h
    have h2 : x.k = 2 := by simpa [h1] using hn
    rw [if_pos h2] at h
    have : x.q = 2 := by simpa using h
    omega
theorem qOk_con {x : Snd} (h : qOk x.k x.q = true) (hn : nuc x = false) : x.q = 0 := by
  unfold qOk at h
  unfold nuc at hn
  have h1 : ¬ x.k = 1 := by intro e; simp [e] at hn
  have h2 : ¬ x.k = 2 := by intro e; simp [e] at hn
  rw [if_neg h1, if_neg h2] at h
  simpa using h
theorem mk_not (c : UInt8) (h : isMk c = true) : c ≠ 47 ∧ c ≠ 32 := by
  constructor <;> (intro e; subst e; exact absurd h (by decide))
theorem kinds {k : Int} (h : 1 ≤ k ∧ k ≤ 9) : k = 1 ∨ k = 2 ∨ k = 3 ∨ k = 4 ∨ k = 5 ∨ k = 6 ∨ k = 7 ∨ k = 8 ∨ k = 9 := by omega
theorem qs {q : Int} (h : 1 ≤ q ∧ q ≤ 3) : q = 1 ∨ q = 2 ∨ q = 3 := by omega
theorem ltr_not {k : Int} (h : 1 ≤ k ∧ k ≤ 9) : ltrK k ≠ 47 ∧ ltrK k ≠ 32 := by
  rcases kinds h with rfl | rfl | rfl | rfl | rfl | rfl | rfl | rfl | rfl <;> decide
theorem dig_not {q : Int} (h : 1 ≤ q ∧ q ≤ 3) : ((48 + q).toNat.toUInt8) ≠ 47 ∧ ((48 + q).toNat.toUInt8) ≠ 32 ∧ (((48 + q).toNat.toUInt8).toNat : Int) - 48 = q := by
  rcases qs h with rfl | rfl | rfl <;> decide
theorem tx1_len {x : Snd} (h : vS x = 0) : (tx1 x).length ≤ 11 := by
  have hv := vS_zero h
  unfold tx1
  rw [List.length_append, List.length_cons, List.length_cons]
  split <;> simp <;> omega
theorem tx1_sp {x : Snd} (h : vS x = 0) : ∀ c ∈ tx1 x, isSp c = false := by
  obtain ⟨h1, h2, h3, h4, h5⟩ := vS_zero h
  intro c hc
  have key : c ≠ 32 := by
    unfold tx1 at hc
    rcases List.mem_append.1 hc with hc | hc
    · exact (mk_not c (List.all_eq_true.1 h5 c hc)).2
    · rcases List.mem_cons.1 hc with e | hc
      · subst e; decide
      · rcases List.mem_cons.1 hc with e | hc
        · subst e; exact (ltr_not h1).2
        · by_cases hn : nuc x = true
          · rw [if_pos hn] at hc
            rw [List.mem_singleton.1 hc]; exact (dig_not (qOk_nuc h2 hn)).2.1
          · rw [if_neg hn] at hc; simp at hc
  unfold isSp; simpa using key
def hdS (p : List UInt8) : List UInt8 := p.takeWhile (· != 47)
def tlS (p : List UInt8) : List UInt8 := (p.dropWhile (· != 47)).drop 1
def kOf (c : UInt8) : Int := Lib.indexByte ltrs c + 1
def cand (p : List UInt8) : Snd := ⟨kOf ((tlS p).getD 0 0), if (tlS p).length = 2 then (((tlS p).getD 1 0).toNat : Int) - 48 else 0, hdS p⟩
open Classical in
noncomputable def rdV (p : List UInt8) : Option Snd := if h : ∃ x, vS x = 0 ∧ tx1 x = p then some (Classical.choose h) else none
theorem hd_cat : ∀ {a : List UInt8} (r : List UInt8), (∀ c ∈ a, c ≠ 47) → hdS (a ++ 47 :: r) = a ∧ tlS (a ++ 47 :: r) = r
  | [], r, _ => by simp [hdS, tlS]
  | c :: a, r, h => by
    have ih := hd_cat (a := a) r (fun d hd => h d (List.mem_cons_of_mem _ hd))
    have hc : (c != 47) = true := by simpa using h c List.mem_cons_self
    unfold hdS tlS at ih ⊢
    rw [List.cons_append, List.takeWhile_cons_of_pos (p := (· != 47)) hc, List.dropWhile_cons_of_pos (p := (· != 47)) hc, ih.1]
    exact ⟨rfl, ih.2⟩
theorem cat_hd : ∀ {p : List UInt8}, tlS p ≠ [] → p = hdS p ++ 47 :: tlS p
  | [], h => by simp [tlS] at h
  | c :: r, h => by
    by_cases hc : c = 47
    · subst hc; simp [hdS, tlS]
    · have hc : (c != 47) = true := by simpa using hc
      have e1 : hdS (c :: r) = c :: hdS r := by unfold hdS; rw [List.takeWhile_cons_of_pos (p := (· != 47)) hc]
      have e2 : tlS (c :: r) = tlS r := by unfold tlS; rw [List.dropWhile_cons_of_pos (p := (· != 47)) hc]
      rw [e2] at h
      rw [e1, e2, List.cons_append, ← cat_hd h]
theorem tx1_cut {x : Snd} (h : vS x = 0) : hdS (tx1 x) = x.t ∧ tlS (tx1 x) = ltrK x.k :: (if nuc x then [(48 + x.q).toNat.toUInt8] else []) := by
  obtain ⟨h1, h2, h3, h4, h5⟩ := vS_zero h
  unfold tx1
  exact hd_cat _ (fun c hc => (mk_not c (List.all_eq_true.1 h5 c hc)).1)
theorem kOf_ltr {k : Int} (h : 1 ≤ k ∧ k ≤ 9) : kOf (ltrK k) = k := by
  rcases kinds h with rfl | rfl | rfl | rfl | rfl | rfl | rfl | rfl | rfl <;> decide
theorem idx_at {c : UInt8} : ∀ {l : List UInt8}, 0 ≤ Lib.indexByte l c → l.getD (Lib.indexByte l c).toNat 0 = c ∧ Lib.indexByte l c < l.length
  | [], h => by simp [Lib.indexByte] at h
  | b :: l, h => by
    have ih := @idx_at c l
    unfold Lib.indexByte at h ⊢
    by_cases e : (b == c) = true
    · rw [if_pos e]
      have : b = c := by simpa using e
      subst this
      refine ⟨rfl, ?_⟩
      show (0 : Int) < ((l.length + 1 : Nat) : Int)
      omega
    · rw [if_neg e] at h ⊢
      by_cases e2 : (Lib.indexByte l c == -1) = true
      · rw [if_pos e2] at h; exact absurd h (by decide)
      · rw [if_neg e2] at h ⊢
        have hge := Lib.indexByte_ge l c
        have hne : Lib.indexByte l c ≠ -1 := by simpa using e2
        obtain ⟨i1, i2⟩ := ih (by omega)
        obtain ⟨m, hm⟩ := Int.eq_ofNat_of_zero_le (show 0 ≤ Lib.indexByte l c by omega)
        rw [hm] at i1 i2 ⊢
        refine ⟨?_, by rw [List.length_cons]; omega⟩
        rw [show ((m : Int) + 1).toNat = m + 1 by omega, List.getD_cons_succ]
        simpa using i1
theorem ltr_kOf {c : UInt8} (h : 1 ≤ kOf c) : ltrK (kOf c) = c ∧ kOf c ≤ 9 := by
  unfold kOf at h ⊢
  obtain ⟨h1, h2⟩ := idx_at (l := ltrs) (c := c) (by omega)
  unfold ltrK
  rw [show Lib.indexByte ltrs c + 1 - 1 = Lib.indexByte ltrs c by omega]
  refine ⟨h1, ?_⟩
  have : ltrs.length = 9 := rfl
  omega
theorem kOf_ge (c : UInt8) : 0 ≤ kOf c := by have := Lib.indexByte_ge ltrs c; unfold kOf; omega
theorem cand_tx {x : Snd} (h : vS x = 0) : cand (tx1 x) = x := by
  obtain ⟨h1, h2, h3, h4, h5⟩ := vS_zero h
  obtain ⟨e1, e2⟩ := tx1_cut h
  unfold cand
  rw [e1, e2]
  refine Snd.eq (kOf_ltr h1) ?_ rfl
  by_cases hn : nuc x = true
  · rw [if_pos hn]; exact (dig_not (qOk_nuc h2 hn)).2.2
  · rw [if_neg hn]
    exact (qOk_con h2 (by simpa using hn)).symm
theorem rd_some {p : List UInt8} {x : Snd} (h : rdV p = some x) : vS x = 0 ∧ tx1 x = p := by
  unfold rdV at h
  split at h
  · rename_i hh
    rw [← Option.some.inj h]; exact Classical.choose_spec hh
  · cases h
theorem rd_of {p : List UInt8} {x : Snd} (h : vS x = 0) (h2 : tx1 x = p) : rdV p = some x := by
  cases hr : rdV p with
  | none =>
    unfold rdV at hr
    rw [dif_pos ⟨x, h, h2⟩] at hr; cases hr
  | some y =>
    obtain ⟨h3, h4⟩ := rd_some hr
    rw [← cand_tx h, ← cand_tx h3, h2, h4]
theorem rd_tx {x : Snd} (h : vS x = 0) : rdV (tx1 x) = some x := rd_of h rfl
theorem rd_none {p : List UInt8} (h : ∀ x, vS x = 0 → tx1 x ≠ p) : rdV p = none := by
  cases hr : rdV p with
  | none => rfl
  | some y => exact absurd (rd_some hr).2 (h y (rd_some hr).1)
theorem rd_empty {p : List UInt8} (h : tlS p = []) : rdV p = none := rd_none fun x hx e => by
  have := (tx1_cut hx).2
  rw [e, h] at this; cases this
theorem rd_inv {p : List UInt8} (h1 : vS (cand p) ≠ 0) : rdV p = none := rd_none fun x hx e => by
  rw [← e, cand_tx hx] at h1; exact h1 hx
def hasQ (p : List UInt8) : Bool := (kOf ((tlS p).getD 0 0) == 1 || kOf ((tlS p).getD 0 0) == 2) && ((tlS p).length == 2 && (decide (49 ≤ (((tlS p).getD 1 0).toNat : Int)) && decide ((((tlS p).getD 1 0).toNat : Int) ≤ 51)))
theorem one_q {p : List UInt8} {x : Snd} (hk : x.k = kOf ((tlS p).getD 0 0)) (ht : x.t = hdS p) (hq : x.q = (((tlS p).getD 1 0).toNat : Int) - 48) (h : hasQ p = true) : (vS x = 0 → rdV p = some x) ∧ (vS x ≠ 0 → rdV p = none) := by
  unfold hasQ at h
  simp only [Bool.and_eq_true, decide_eq_true_eq, beq_iff_eq] at h
  obtain ⟨h1, h2, h3, h4⟩ := h
  have hc : x = cand p := Snd.eq hk (by rw [hq]; unfold cand; rw [if_pos h2]) ht
  refine ⟨fun hv => ?_, fun hv => rd_inv (by rw [← hc]; exact hv)⟩
  refine rd_of hv ?_
  have hne : tlS p ≠ [] := fun e => by rw [e] at h2; simp at h2
  have hn : nuc x = true := by unfold nuc; rw [hk]; simpa using h1
  have hv' := vS_zero hv
  conv => rhs; rw [cat_hd hne]
  unfold tx1
  rw [ht, if_pos hn]
  have hl : ltrK x.k = (tlS p).getD 0 0 := by
    rw [hk]; exact (ltr_kOf (by rw [← hk]; exact hv'.1.1)).1
  rw [hl]
  match e : tlS p, h2 with
  | [a, b], _ =>
    rw [e] at hq
    have hb : (48 + x.q).toNat.toUInt8 = b := by
      have : x.q = (b.toNat : Int) - 48 := hq
      rw [this, show (48 + ((b.toNat : Int) - 48)).toNat = b.toNat by omega]
      exact UInt8.toNat_inj.1 (by simp)
    rw [hb]; rfl
theorem one_p {p : List UInt8} {x : Snd} (hk : x.k = kOf ((tlS p).getD 0 0)) (ht : x.t = hdS p) (hq : x.q = 0) (h2 : (tlS p).length = 1) : (vS x = 0 → rdV p = some x) ∧ (vS x ≠ 0 → rdV p = none) := by
  have hc : x = cand p := Snd.eq hk (by rw [hq]; unfold cand; rw [if_neg (by omega)]) ht
  refine ⟨fun hv => ?_, fun hv => rd_inv (by rw [← hc]; exact hv)⟩
  refine rd_of hv ?_
  have hne : tlS p ≠ [] := fun e => by rw [e] at h2; simp at h2
  have hv' := vS_zero hv
  have hn : ¬ nuc x = true := fun hn => by have := qOk_nuc hv'.2.1 hn; omega
  conv => rhs; rw [cat_hd hne]
  unfold tx1
  rw [ht, if_neg hn]
  have hl : ltrK x.k = (tlS p).getD 0 0 := by
    rw [hk]; exact (ltr_kOf (by rw [← hk]; exact hv'.1.1)).1
  rw [hl]
  match e : tlS p, h2 with
  | [a], _ => rfl
theorem one_no {p : List UInt8} (h : hasQ p = false) (h2 : (tlS p).length ≠ 1) : rdV p = none := rd_none fun x hx e => by
  subst e
  obtain ⟨e1, e2⟩ := tx1_cut hx
  obtain ⟨h1, h2', h3, h4, h5⟩ := vS_zero hx
  by_cases hn : nuc x = true
  · rw [if_pos hn] at e2
    have hd := dig_not (qOk_nuc h2' hn)
    have hq := qOk_nuc h2' hn
    unfold hasQ at h
    rw [e2] at h
    simp only [List.getD_cons_zero, List.getD_cons_succ, List.length_cons, List.length_nil, kOf_ltr h1] at h
    have hx2 : (((48 + x.q).toNat.toUInt8).toNat : Int) = 48 + x.q := by omega
    rw [hx2] at h
    have a : (x.k == 1 || x.k == 2) = true := hn
    rw [a, decide_eq_true (show (49 : Int) ≤ 48 + x.q by omega), decide_eq_true (show 48 + x.q ≤ (51 : Int) by omega)] at h
    cases h
  · rw [if_neg hn] at e2
    rw [e2] at h2; exact h2 rfl
noncomputable def rdL : List (List UInt8) → Option (List Snd)
  | [] => some []
  | p :: r => match rdV p, rdL r with
    | some x, some L => some (x :: L)
    | _, _ => none
theorem rdL_some : ∀ {P : List (List UInt8)} {L : List Snd}, rdL P = some L ↔ P.map rdV = L.map some
  | [], L => by
    simp only [rdL, List.map_nil]
    constructor
    · intro h; rw [← Option.some.inj h]; rfl
    · intro h; cases L with
      | nil => rfl
      | cons x r => cases h
  | p :: r, L => by
    have ih := fun M => @rdL_some r M
    unfold rdL
    constructor
    · intro h
      cases h1 : rdV p with
      | none => rw [h1] at h; cases h
      | some x =>
        cases h2 : rdL r with
        | none => rw [h1, h2] at h; cases h
        | some M =>
          rw [h1, h2] at h
          rw [← Option.some.inj h, List.map_cons, List.map_cons, h1, (ih M).1 h2]
    · intro h
      cases L with
      | nil => cases h
      | cons x M =>
        rw [List.map_cons, List.map_cons] at h
        injection h with h1 h2
        rw [h1, (ih M).2 h2]
theorem rdL_none : ∀ {P : List (List UInt8)} {k : Nat} {p : List UInt8}, P[k]? = some p → rdV p = none → rdL P = none
  | [], k, p, h, _ => by simp at h
  | q :: r, 0, p, h, hp => by
    have e : q = p := by simpa using h
    subst e; unfold rdL; rw [hp]
  | q :: r, k + 1, p, h, hp => by
    have ih := @rdL_none r k p (by simpa using h) hp
    unfold rdL; rw [ih]
    cases rdV q <;> rfl
noncomputable def prsV (s : List UInt8) : List Snd × Int :=
  if 4000 < s.length then ([], 3) else if s = [] then ([], 0) else match rdL (splL isSp s) with
    | some L => if 200 < L.length then ([], 2) else (L, 0)
    | none => ([], 2)
theorem prs_big {s : List UInt8} (h : 4000 < s.length) : prsV s = ([], 3) := by unfold prsV; rw [if_pos h]
theorem prs_nil : prsV [] = ([], 0) := by unfold prsV; rw [if_neg (by decide), if_pos rfl]
theorem prs_none {s : List UInt8} (h : ¬ 4000 < s.length) (h1 : s ≠ []) (h2 : rdL (splL isSp s) = none) : prsV s = ([], 2) := by
  unfold prsV; rw [if_neg h, if_neg h1, h2]
theorem prs_many {s : List UInt8} (h : ¬ 4000 < s.length) (h1 : s ≠ []) (h2 : 200 < (splL isSp s).length) : prsV s = ([], 2) := by
  cases hr : rdL (splL isSp s) with
  | none => exact prs_none h h1 hr
  | some L =>
    have hl := congrArg List.length (rdL_some.1 hr)
    rw [List.length_map, List.length_map] at hl
    unfold prsV; rw [if_neg h, if_neg h1, hr]
    show (if 200 < L.length then _ else _) = _
    rw [if_pos (by omega)]
theorem prs_ok {s : List UInt8} {L : List Snd} (h : ¬ 4000 < s.length) (h1 : s ≠ []) (h2 : (splL isSp s).map rdV = L.map some) (h3 : ¬ 200 < L.length) : prsV s = (L, 0) := by
  unfold prsV; rw [if_neg h, if_neg h1, rdL_some.2 h2]
  show (if 200 < L.length then _ else _) = _
  rw [if_neg h3]
theorem map_tx : ∀ {L : List Snd}, (∀ x ∈ L, vS x = 0) → (L.map tx1).map rdV = L.map some
  | [], _ => rfl
  | x :: L, h => by
    rw [List.map_cons, List.map_cons, List.map_cons, rd_tx (h x List.mem_cons_self), map_tx (fun y hy => h y (List.mem_cons_of_mem _ hy))]
theorem fmt_zero {s : List UInt8} {L : List Snd} (h : fmtV L = (s, 0)) : L.length ≤ 200 ∧ (∀ x ∈ L, vS x = 0) ∧ txL L = s := by
  unfold fmtV at h
  by_cases h1 : 200 < L.length
  · rw [if_pos h1] at h; injection h with _ h; cases h
  · rw [if_neg h1] at h
    by_cases h2 : errL L = 0
    · rw [if_pos h2] at h; injection h with h _
      exact ⟨by omega, errL_zero.1 h2, h⟩
    · rw [if_neg h2] at h; injection h with _ h; exact absurd h h2
theorem fmt_ok {L : List Snd} (h : L.length ≤ 200) (h1 : ∀ x ∈ L, vS x = 0) : fmtV L = (txL L, 0) := by
  unfold fmtV; rw [if_neg (by omega), if_pos (errL_zero.2 h1)]
theorem txL_len {L : List Snd} (h1 : ∀ x ∈ L, vS x = 0) : (txL L).length ≤ L.length * 12 := by
  have := jn_len (32 : UInt8) 11 (L.map tx1) (fun u hu => by
    obtain ⟨x, hx, rfl⟩ := List.mem_map.1 hu
    exact tx1_len (h1 x hx))
  rwa [List.length_map] at this
theorem tx1_ne (x : Snd) : tx1 x ≠ [] := by unfold tx1; intro e; have := congrArg List.length e; simp at this
theorem txL_ne {L : List Snd} (h : L ≠ []) : txL L ≠ [] := by
  cases L with
  | nil => exact absurd rfl h
  | cons x r =>
    intro e
    unfold txL at e
    rw [List.map_cons] at e
    cases r with
    | nil => exact tx1_ne x e
    | cons y r => rw [List.map_cons, jn_two] at e; have := congrArg List.length e; simp at this
theorem fmt_prs {s : List UInt8} {L : List Snd} (h : fmtV L = (s, 0)) : prsV s = (L, 0) := by
  obtain ⟨h1, h2, h3⟩ := fmt_zero h
  subst h3
  by_cases hL : L = []
  · subst hL; exact prs_nil
  · have hl := txL_len h2
    refine prs_ok (by omega) (txL_ne hL) ?_ (by omega)
    unfold txL
    rw [split_jn isSp 32 rfl (L.map tx1) (by simpa using hL) (fun u hu => by
      obtain ⟨x, hx, rfl⟩ := List.mem_map.1 hu
      exact tx1_sp (h2 x hx)), map_tx h2]
end Go.Proofs.YtjamfcihjendiaaGreat

namespace Go.Proofs
open Go.Shelf
def Tryz.lays156_ren : Go.Shelf.Ren := ⟨fun | 156 => 94 | 165 => 108 | 166 => 109 | 169 => 110 | 240 => 118 | 241 => 119 | 276 => 123 | 277 => 124 | n => n, fun | 31 => 88 | 9 => 9 | 3 => 3 | 4 => 4 | 0 => 0 | 20 => 20 | 72 => 132 | 76 => 136 | 70 => 130 | 37 => 116 | 75 => 135 | 127 => 139 | 164 => 140 | 5 => 5 | 80 => 127 | n => n, fun | n => n⟩
theorem Tryz.lays156 : Go.Proofs.Lays.n156 Tryz.prog Tryz.lays156_ren := {
  mixed := by kernel_rfl
  f156 := Tryz.func94.trans (congrArg some (by kernel_rfl))
  f165 := Tryz.func108.trans (congrArg some (by kernel_rfl))
  f166 := Tryz.func109.trans (congrArg some (by kernel_rfl))
  f169 := Tryz.func110.trans (congrArg some (by kernel_rfl))
  f240 := Tryz.func118.trans (congrArg some (by kernel_rfl))
  f241 := Tryz.func119.trans (congrArg some (by kernel_rfl))
  f276 := Tryz.func123.trans (congrArg some (by kernel_rfl))
  f277 := Tryz.func124.trans (congrArg some (by kernel_rfl))
  t0 := Tryz.underlying0
  a0 := Tryz.isAgg0
  z0 := Tryz.sizeOf0
  v0 := Tryz.zeroValue0
  t3 := Tryz.underlying3
  a3 := Tryz.isAgg3
  z3 := Tryz.sizeOf3
  v3 := Tryz.zeroValue3
  t4 := Tryz.underlying4
  a4 := Tryz.isAgg4
  z4 := Tryz.sizeOf4
  v4 := Tryz.zeroValue4
  t9 := Tryz.underlying9
  a9 := Tryz.isAgg9
  z9 := Tryz.sizeOf9
  v9 := Tryz.zeroValue9
  t20 := Tryz.underlying20
  a20 := Tryz.isAgg20
  z20 := Tryz.sizeOf20
  v20 := Tryz.zeroValue20
  t31 := Tryz.underlying88
  a31 := Tryz.isAgg88
  z31 := Tryz.sizeOf88
  v31 := Tryz.zeroValue88
  t37 := Tryz.underlying116
  a37 := Tryz.isAgg116
  z37 := Tryz.sizeOf116
  v37 := Tryz.zeroValue116
  t70 := Tryz.underlying130
  a70 := Tryz.isAgg130
  z70 := Tryz.sizeOf130
  v70 := Tryz.zeroValue130
  t72 := Tryz.underlying132
  a72 := Tryz.isAgg132
  z72 := Tryz.sizeOf132
  v72 := Tryz.zeroValue132
  t75 := Tryz.underlying135
  a75 := Tryz.isAgg135
  z75 := Tryz.sizeOf135
  v75 := Tryz.zeroValue135
  t76 := Tryz.underlying136
  a76 := Tryz.isAgg136
  z76 := Tryz.sizeOf136
  v76 := Tryz.zeroValue136
  t127 := Tryz.underlying139
  a127 := Tryz.isAgg139
  z127 := Tryz.sizeOf139
  v127 := Tryz.zeroValue139
  t164 := Tryz.underlying140
  a164 := Tryz.isAgg140
  z164 := Tryz.sizeOf140
  v164 := Tryz.zeroValue140 }
theorem Tryz.Builder_Extra_156 : Builder.Extra Tryz.prog Tryz.lays156_ren := {
  sizeBuilder := by kernel_rfl
  liesBuilder := by kernel_rfl
  t5 := Tryz.underlying5
  a5 := Tryz.isAgg5
  z5 := Tryz.sizeOf5
  v5 := Tryz.zeroValue5
  infoByte := by kernel_rfl
  cellsByte := by kernel_rfl
  sizeByte := by kernel_rfl
  neB5 := by decide }
open Go.RowKit in
theorem Tryz.strings_Join_none (a : Option Addr) (c : Nat) (sep : ByteArray) (w : World) :
    Calls Tryz.prog 94 #[.slice a 0 c, .string sep] w fun e w' => e = .returned (.string ⟨#[]⟩) ∧ w' = w := Any.strings_Join_none Tryz.lays156 Tryz.Builder_Extra_156 a c sep w
open Go.RowKit in
theorem Tryz.strings_Join (bk o c : Nat) (xs : List ByteArray) (sep : ByteArray) (w : World) (hcells : ∀ (j : Nat) x, xs[j]? = some x → w.cell? ⟨bk, o + j, none⟩ = some (.string x)) (hbk : bk < w.heap.size) (hN : xs.length ≤ 140737488355328) (hcap : xs.length ≤ c) (hlen : (Lib.join (xs.map (·.data.toList)) sep.data.toList).length ≤ 140737488355328) :
    Calls Tryz.prog 94 #[.slice (some ⟨bk, o, none⟩) xs.length c, .string sep] w fun e w' => e = .returned (.string ⟨(Lib.join (xs.map (·.data.toList)) sep.data.toList).toArray⟩) ∧ Below w.heap.size w w' := Any.strings_Join Tryz.lays156 Tryz.Builder_Extra_156 bk o c xs sep w hcells hbk hN hcap hlen
def Tryz.lays137_ren : Go.Shelf.Ren := ⟨fun | 137 => 117 | 217 => 122 | 266 => 125 | n => n, fun | 9 => 9 | 5 => 5 | 3 => 3 | n => n, fun | n => n⟩
theorem Tryz.lays137 : Go.Proofs.Lays.n137 Tryz.prog Tryz.lays137_ren := {
  mixed := by kernel_rfl
  f137 := Tryz.func117.trans (congrArg some (by kernel_rfl))
  f217 := Tryz.func122.trans (congrArg some (by kernel_rfl))
  f266 := Tryz.func125.trans (congrArg some (by kernel_rfl))
  t3 := Tryz.underlying3
  a3 := Tryz.isAgg3
  z3 := Tryz.sizeOf3
  v3 := Tryz.zeroValue3
  t5 := Tryz.underlying5
  a5 := Tryz.isAgg5
  z5 := Tryz.sizeOf5
  v5 := Tryz.zeroValue5
  t9 := Tryz.underlying9
  a9 := Tryz.isAgg9
  z9 := Tryz.sizeOf9
  v9 := Tryz.zeroValue9 }
open Go.RowKit in
theorem Tryz.strings_IndexByte (s : ByteArray) (c : Int) (w : World) :
    Calls Tryz.prog 117 #[.string s, .int .u8 c] w fun e w' => e = .returned (.int .i64 (Lib.indexByte s.data.toList c.toNat.toUInt8)) ∧ w' = w := Any.strings_IndexByte Tryz.lays137 s c w
def Tryz.lays99_ren : Go.Shelf.Ren := ⟨fun | 99 => 33 | 206 => 58 | n => n, fun | 9 => 9 | 4 => 4 | 3 => 3 | n => n, fun | n => n⟩
theorem Tryz.lays99 : Go.Proofs.Lays.n99 Tryz.prog Tryz.lays99_ren := {
  mixed := by kernel_rfl
  f99 := Tryz.func33.trans (congrArg some (by kernel_rfl))
  f206 := Tryz.func58.trans (congrArg some (by kernel_rfl))
  t3 := Tryz.underlying3
  a3 := Tryz.isAgg3
  z3 := Tryz.sizeOf3
  v3 := Tryz.zeroValue3
  t4 := Tryz.underlying4
  a4 := Tryz.isAgg4
  z4 := Tryz.sizeOf4
  v4 := Tryz.zeroValue4
  t9 := Tryz.underlying9
  a9 := Tryz.isAgg9
  z9 := Tryz.sizeOf9
  v9 := Tryz.zeroValue9 }
open Go.RowKit Go.Lib in
theorem Tryz.strings_HasPrefix (s p : ByteArray) (w : World) :
    Calls Tryz.prog 33 #[.string s, .string p] w fun e w' => e = .returned (.bool (Lib.hasPrefix s.data.toList p.data.toList)) ∧ w' = w := Any.strings_HasPrefix Tryz.lays99 s p w
def Tryz.lays111_ren : Go.Shelf.Ren := ⟨fun | 111 => 13 | n => n, fun | 28 => 35 | 3 => 3 | 4 => 4 | 0 => 0 | n => n, fun | n => n⟩
theorem Tryz.lays111 : Go.Proofs.Lays.n111 Tryz.prog Tryz.lays111_ren := {
  mixed := by kernel_rfl
  f111 := Tryz.func13.trans (congrArg some (by kernel_rfl))
  t0 := Tryz.underlying0
  a0 := Tryz.isAgg0
  z0 := Tryz.sizeOf0
  v0 := Tryz.zeroValue0
  t3 := Tryz.underlying3
  a3 := Tryz.isAgg3
  z3 := Tryz.sizeOf3
  v3 := Tryz.zeroValue3
  t4 := Tryz.underlying4
  a4 := Tryz.isAgg4
  z4 := Tryz.sizeOf4
  v4 := Tryz.zeroValue4
  t28 := Tryz.underlying35
  a28 := Tryz.isAgg35
  z28 := Tryz.sizeOf35
  v28 := Tryz.zeroValue35 }
open Go.RowKit Go.Lib in
theorem Tryz.slices_Equal_int (b1 o1 n c b2 o2 m d : Nat) (xs ys : List Int) (w : World) (hx : n ≤ xs.length) (hy : m ≤ ys.length) (hbig : n ≤ 9223372036854775807) (hbig2 : m ≤ 9223372036854775807) (hc1 : ∀ j, j < xs.length → w.cell? ⟨b1, o1 + j, none⟩ = some (.int .i64 (xs.getD j 0))) (hc2 : ∀ j, j < ys.length → w.cell? ⟨b2, o2 + j, none⟩ = some (.int .i64 (ys.getD j 0))) :
    Calls Tryz.prog 13 #[.slice (some ⟨b1, o1, none⟩) n c, .slice (some ⟨b2, o2, none⟩) m d] w fun e w' => e = .returned (.bool (xs.take n == ys.take m)) ∧ ∃ q, w' = w.drewN q := Any.slices_Equal_int Tryz.lays111 b1 o1 n c b2 o2 m d xs ys w hx hy hbig hbig2 hc1 hc2
open Go.RowKit Go.Lib in
theorem Tryz.slices_Equal_int_empty (a1 a2 : Option Addr) (c m d : Nat) (w : World) (hbig2 : m ≤ 9223372036854775807) :
    Calls Tryz.prog 13 #[.slice a1 0 c, .slice a2 m d] w fun e w' => e = .returned (.bool (decide (m = 0))) ∧ w' = w := Any.slices_Equal_int_empty Tryz.lays111 a1 a2 c m d w hbig2
def Tryz.laysNm215_ren : Go.Shelf.Ren := ⟨fun | 15 => 37 | n => n, fun | 22 => 35 | 3 => 3 | 4 => 4 | n => n, fun | n => n⟩
theorem Tryz.laysNm215 : Go.Proofs.Lays2.n15 Tryz.prog Tryz.laysNm215_ren := {
  mixed := by kernel_rfl
  f15 := Tryz.func37.trans (congrArg some (by kernel_rfl))
  t3 := Tryz.underlying3
  a3 := Tryz.isAgg3
  z3 := Tryz.sizeOf3
  v3 := Tryz.zeroValue3
  t4 := Tryz.underlying4
  a4 := Tryz.isAgg4
  z4 := Tryz.sizeOf4
  v4 := Tryz.zeroValue4
  t22 := Tryz.underlying35
  a22 := Tryz.isAgg35
  z22 := Tryz.sizeOf35
  v22 := Tryz.zeroValue35
  i3 := by kernel_rfl }
open Go.RowKit Go.Lib in
theorem Tryz.slices_Clone_int (b off n c : Nat) (zs : List Int) (w : World) (hz : n ≤ zs.length) (hbig : n * 8 ≤ 140737488355328) (hc : ∀ j, j < zs.length → w.cell? ⟨b, off + j, none⟩ = some (.int .i64 (zs.getD j 0))) :
    Calls Tryz.prog 37 #[.slice (some ⟨b, off, none⟩) n c] w fun e w' => ∃ v', e = .returned v' ∧ w'.ownsRow w.heap.size 3 1 v' n ((zs.take n).map (Value.int .i64)) ∧ v' ≠ .slice none 0 0 ∧ Below w.heap.size w w' := Any.slices_Clone_int Tryz.laysNm215 b off n c zs w hz hbig hc
open Go.RowKit Go.Lib in
theorem Tryz.slices_Clone_int_nil (n c : Nat) (w : World) :
    Calls Tryz.prog 37 #[.slice none n c] w fun e w' => e = .returned (.slice none 0 0) ∧ w' = w := Any.slices_Clone_int_nil Tryz.laysNm215 n c w
open Go.RowKit Go.Lib in
theorem Tryz.slices_Clone_int_zero (a : Addr) (c : Nat) (w : World) :
    Calls Tryz.prog 37 #[.slice (some a) 0 c] w fun e w' => ∃ v', e = .returned v' ∧ w'.ownsRow w.heap.size 3 1 v' 0 [] ∧ v' ≠ .slice none 0 0 ∧ Below w.heap.size w w' := Any.slices_Clone_int_zero Tryz.laysNm215 a c w
open Go.RowKit Go.Lib in
theorem Tryz.slices_Equal_int_lens (a1 a2 : Option Addr) (n c m d : Nat) (w : World) (hnm : n ≠ m) :
    Calls Tryz.prog 13 #[.slice a1 n c, .slice a2 m d] w fun e w' => e = .returned (.bool false) ∧ w' = w := Any.slices_Equal_int_lens Tryz.lays111 a1 a2 n c m d w hnm
end Go.Proofs
