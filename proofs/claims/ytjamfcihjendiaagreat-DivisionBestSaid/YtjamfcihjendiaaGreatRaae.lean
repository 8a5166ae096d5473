/- Several texts in one: OA. -/
import Derived.Test.YtjamfcihjendiaaGreatRaab
import Derived.Test.YtjamfcihjendiaaGreatRaac
import Derived.Test.YtjamfcihjendiaaGreatRaad
namespace Go.Proofs.YtjamfcihjendiaaGreat
set_option linter.unusedVariables false
set_option linter.unusedSimpArgs false
set_option maxRecDepth 100000

structure Sg where
  t : List UInt8
  s : List Snd
  c : Int
  w : Int
def wAny : List UInt8 := [97, 110, 121, 119, 104, 101, 114, 101]
def wBef : List UInt8 := [98, 101, 102, 111, 114, 101]
def wSta : List UInt8 := [115, 116, 97, 114, 116]
def wBet : List UInt8 := [98, 101, 116, 119, 101, 101, 110]
def wNot : List UInt8 := [110, 111, 116]
def wW (w : Int) : List UInt8 := if w = 0 then wAny else if w = 1 then wBef else if w = 2 then wSta else if w = 3 then wBet else if w = 4 then wNot else []
def lowI (n : Int) : Bool := T.ltr n && !(decide (65 ≤ n) && decide (n ≤ 90))
def isLow (c : UInt8) : Bool := lowI (c.toNat : Int)
def txE (t : List UInt8) : Int := if t.length = 0 then 7 else if 4 < t.length then 3 else if t.all isLow = true then 0 else 2
def rgE (x : Sg) : Bool := (decide (x.c < 0) || decide (99 < x.c)) || (decide (x.w < 0) || decide (4 < x.w))
def sgE (x : Sg) : Int := if txE x.t ≠ 0 then txE x.t else if x.s.length = 0 then 7 else if 2 < x.s.length then 3 else if errL x.s ≠ 0 then errL x.s else if rgE x = true then 6 else 0
def likeB (a b : Sg) : Bool := a.t == b.t && (a.w == b.w && sameL a.s b.s)
theorem likeB_is {a b : Sg} : likeB a b = true ↔ a.t = b.t ∧ a.w = b.w ∧ a.s = b.s := by
  unfold likeB; rw [Bool.and_eq_true, Bool.and_eq_true, sameL_is, beq_iff_eq, beq_iff_eq]
theorem likeB_comm (a b : Sg) : likeB a b = likeB b a := by
  rw [Bool.eq_iff_iff, likeB_is, likeB_is]
  exact ⟨fun ⟨x, y, z⟩ => ⟨x.symm, y.symm, z.symm⟩, fun ⟨x, y, z⟩ => ⟨x.symm, y.symm, z.symm⟩⟩
theorem txE_empty {t : List UInt8} (h : t.length = 0) : txE t = 7 := by unfold txE; rw [if_pos h]
theorem txE_big {t : List UInt8} (h : 4 < t.length) : txE t = 3 := by unfold txE; rw [if_neg (by omega), if_pos h]
theorem txE_syn {t : List UInt8} (h : ¬ t.length = 0) (h1 : ¬ 4 < t.length) (h2 : t.all isLow = false) : txE t = 2 := by unfold txE; rw [if_neg h, if_neg h1, if_neg (by simp [h2])]
theorem txE_ok {t : List UInt8} (h : ¬ t.length = 0) (h1 : ¬ 4 < t.length) (h2 : t.all isLow = true) : txE t = 0 := by unfold txE; rw [if_neg h, if_neg h1, if_pos h2]
theorem txE_zero {t : List UInt8} (h : txE t = 0) : 0 < t.length ∧ t.length ≤ 4 ∧ t.all isLow = true := by
  unfold txE at h
  split at h
  · cases h
  · split at h
    · cases h
    · split at h
      · exact ⟨by omega, by omega, by assumption⟩
      · cases h
theorem sgE_text {x : Sg} (h : txE x.t ≠ 0) : sgE x = txE x.t := by unfold sgE; rw [if_pos h]
theorem sgE_empty {x : Sg} (h : txE x.t = 0) (h1 : x.s.length = 0) : sgE x = 7 := by unfold sgE; rw [if_neg (by simp [h]), if_pos h1]
theorem sgE_big {x : Sg} (h : txE x.t = 0) (h1 : 2 < x.s.length) : sgE x = 3 := by unfold sgE; rw [if_neg (by simp [h]), if_neg (by omega), if_pos h1]
theorem sgE_snd {x : Sg} (h : txE x.t = 0) (h1 : ¬ x.s.length = 0) (h2 : ¬ 2 < x.s.length) (h3 : errL x.s ≠ 0) : sgE x = errL x.s := by unfold sgE; rw [if_neg (by simp [h]), if_neg h1, if_neg h2, if_pos h3]
theorem sgE_range {x : Sg} (h : txE x.t = 0) (h1 : ¬ x.s.length = 0) (h2 : ¬ 2 < x.s.length) (h3 : errL x.s = 0) (h4 : rgE x = true) : sgE x = 6 := by unfold sgE; rw [if_neg (by simp [h]), if_neg h1, if_neg h2, if_neg (by simp [h3]), if_pos h4]
theorem sgE_ok {x : Sg} (h : txE x.t = 0) (h1 : ¬ x.s.length = 0) (h2 : ¬ 2 < x.s.length) (h3 : errL x.s = 0) (h4 : rgE x = false) : sgE x = 0 := by unfold sgE; rw [if_neg (by simp [h]), if_neg h1, if_neg h2, if_neg (by simp [h3]), if_neg (by simp [h4])]
theorem rgE_no {x : Sg} : rgE x = false ↔ (0 ≤ x.c ∧ x.c ≤ 99) ∧ (0 ≤ x.w ∧ x.w ≤ 4) := by
  unfold rgE; simp
theorem rgE_yes {x : Sg} : rgE x = true ↔ (x.c < 0 ∨ 99 < x.c) ∨ (x.w < 0 ∨ 4 < x.w) := by
  unfold rgE; simp
theorem sgE_zero {x : Sg} (h : sgE x = 0) : txE x.t = 0 ∧ (0 < x.s.length ∧ x.s.length ≤ 2) ∧ (∀ y ∈ x.s, vS y = 0) ∧ (0 ≤ x.c ∧ x.c ≤ 99) ∧ (0 ≤ x.w ∧ x.w ≤ 4) := by
  unfold sgE at h
  split at h
  · exact absurd h (by assumption)
  · rename_i h0
    split at h
    · cases h
    · split at h
      · cases h
      · split at h
        · exact absurd h (by assumption)
        · rename_i h3
          split at h
          · cases h
          · rename_i h4
            have h4 : rgE x = false := by simpa using h4
            rw [rgE_no] at h4
            exact ⟨by simpa using h0, ⟨by omega, by omega⟩, errL_zero.1 (by simpa using h3), h4.1, h4.2⟩

def fltG : List Sg → List Sg → Int × Int
  | _, [] => (-1, 0)
  | pre, x :: r => if sgE x ≠ 0 then ((pre.length : Int), sgE x) else if (pre.any fun e => likeB e x) = true then ((pre.length : Int), 5) else fltG (pre ++ [x]) r
def vO (nm : List UInt8) (L : List Sg) : Int × Int := if K.nameB nm = false then (-1, 2) else if L.length = 0 then (-1, 7) else if 120 < L.length then (-1, 3) else fltG [] L
def FInv (L : List Sg) (k : Nat) : Prop := fltG [] L = fltG (L.take k) (L.drop k)
theorem FInv.start (L : List Sg) : FInv L 0 := rfl
theorem drop_at {α : Type} {L : List α} {k : Nat} {x : α} (h : L[k]? = some x) : L.drop k = x :: L.drop (k + 1) := by
  obtain ⟨hk, e⟩ := List.getElem?_eq_some_iff.1 h
  rw [List.drop_eq_getElem_cons hk, e]
theorem take_snocA {α : Type} {L : List α} {k : Nat} {x : α} (h : L[k]? = some x) : L.take (k + 1) = L.take k ++ [x] := by
  obtain ⟨hk, e⟩ := List.getElem?_eq_some_iff.1 h
  rw [List.take_succ_eq_append_getElem hk, e]
theorem take_lenA {α : Type} {L : List α} {k : Nat} {x : α} (h : L[k]? = some x) : (L.take k).length = k := by
  have := (List.getElem?_eq_some_iff.1 h).1
  rw [List.length_take]; omega
theorem FInv.step {L : List Sg} {k : Nat} {x : Sg} (h : FInv L k) (hx : L[k]? = some x) (h0 : sgE x = 0) (h1 : ((L.take k).any fun e => likeB e x) = false) : FInv L (k + 1) := by
  unfold FInv at h ⊢
  rw [h, drop_at hx, fltG, if_neg (by simp [h0]), if_neg (by simp [h1]), take_snocA hx]
theorem FInv.err {L : List Sg} {k : Nat} {x : Sg} (h : FInv L k) (hx : L[k]? = some x) (h0 : sgE x ≠ 0) : fltG [] L = ((k : Int), sgE x) := by
  rw [h, drop_at hx, fltG, if_pos h0, take_lenA hx]
theorem FInv.like {L : List Sg} {k : Nat} {x : Sg} (h : FInv L k) (hx : L[k]? = some x) (h0 : sgE x = 0) (h1 : ((L.take k).any fun e => likeB e x) = true) : fltG [] L = ((k : Int), 5) := by
  rw [h, drop_at hx, fltG, if_neg (by simp [h0]), if_pos h1, take_lenA hx]
theorem FInv.fin {L : List Sg} {k : Nat} (h : FInv L k) (hk : L.length ≤ k) : fltG [] L = (-1, 0) := by
  rw [h, List.drop_eq_nil_of_le hk, fltG]
theorem fltG_zero : ∀ {r pre : List Sg}, (fltG pre r).2 = 0 → ∀ x ∈ r, sgE x = 0
  | [], pre, _, x, hx => by simp at hx
  | y :: r, pre, h, x, hx => by
    rw [fltG] at h
    split at h
    · exact absurd h (by assumption)
    · rename_i h0
      split at h
      · cases h
      · rcases List.mem_cons.1 hx with e | hx
        · subst e; simpa using h0
        · exact fltG_zero h x hx
theorem vO_name {nm : List UInt8} {L : List Sg} (h : K.nameB nm = false) : vO nm L = (-1, 2) := by unfold vO; rw [if_pos h]
theorem vO_empty {nm : List UInt8} {L : List Sg} (h : K.nameB nm = true) (h1 : L.length = 0) : vO nm L = (-1, 7) := by unfold vO; rw [if_neg (by simp [h]), if_pos h1]
theorem vO_big {nm : List UInt8} {L : List Sg} (h : K.nameB nm = true) (h1 : 120 < L.length) : vO nm L = (-1, 3) := by unfold vO; rw [if_neg (by simp [h]), if_neg (by omega), if_pos h1]
theorem vO_is {nm : List UInt8} {L : List Sg} (h : K.nameB nm = true) (h1 : ¬ L.length = 0) (h2 : ¬ 120 < L.length) : vO nm L = fltG [] L := by unfold vO; rw [if_neg (by simp [h]), if_neg h1, if_neg h2]
theorem vO_zero {nm : List UInt8} {L : List Sg} (h : (vO nm L).2 = 0) : K.nameB nm = true ∧ 0 < L.length ∧ L.length ≤ 120 ∧ ∀ x ∈ L, sgE x = 0 := by
  unfold vO at h
  split at h
  · cases h
  · rename_i h0
    split at h
    · cases h
    · split at h
      · cases h
      · exact ⟨by simpa using h0, by omega, by omega, fltG_zero h⟩
theorem vO_ok {nm : List UInt8} {L : List Sg} (h : (vO nm L).2 = 0) : vO nm L = (-1, 0) := by
  obtain ⟨h1, h2, h3, h4⟩ := vO_zero h
  have e := vO_is (L := L) h1 (by omega) (by omega)
  rw [e] at h ⊢
  have key : ∀ {r pre : List Sg}, (fltG pre r).2 = 0 → fltG pre r = (-1, 0) := by
    intro r
    induction r with
    | nil => intro pre _; rfl
    | cons y r ih =>
      intro pre h
      rw [fltG] at h ⊢
      split at h
      · exact absurd h (by assumption)
      · rename_i h0
        rw [if_neg h0]
        split at h
        · cases h
        · rename_i h1
          rw [if_neg h1]; exact ih h
  exact key h

def dg2 (c : Int) : List UInt8 := if c < 10 then [(48 + c).toNat.toUInt8] else [(48 + c / 10).toNat.toUInt8, (48 + c % 10).toNat.toUInt8]
def lnS (x : Sg) : List UInt8 := x.t ++ 32 :: (txL x.s ++ 32 :: (dg2 x.c ++ 32 :: wW x.w))
def hdO : List UInt8 := [111, 114, 116, 104, 111, 103, 114, 97, 112, 104, 121, 32]
def lnsO (L : List Sg) : List UInt8 := L.flatMap fun x => lnS x ++ [10]
def txO (nm : List UInt8) (L : List Sg) : List UInt8 := (hdO ++ nm) ++ 10 :: lnsO L
theorem lnsO_cons (x : Sg) (r : List Sg) : lnsO (x :: r) = lnS x ++ 10 :: lnsO r := by unfold lnsO; rw [List.flatMap_cons]; simp
theorem low_bd {n : Int} (h : lowI n = true) : 33 ≤ n ∧ n ≤ 126 ∧ ¬ (65 ≤ n ∧ n ≤ 90) := by
  unfold lowI T.ltr T.punL at h
  simp at h
  omega
theorem low_not {l : List UInt8} (h : l.all isLow = true) : ∀ c ∈ l, c ≠ 32 ∧ c ≠ 10 := by
  intro c hc
  have := low_bd (List.all_eq_true.1 h c hc)
  constructor <;> (intro e; subst e; simp at this)
theorem nm_bd : ∀ {l : List UInt8}, K.nmR l = l.length → ∀ c ∈ l, c ≠ 32 ∧ c ≠ 10
  | [], _, c, hc => by simp at hc
  | [c], h, d, hd => by
    have e := List.mem_singleton.1 hd
    subst e
    constructor <;> (intro e; subst e; exact absurd h (by decide))
  | c :: d :: r, h, x, hx => by
    have h1 := K.nmR_le (d :: r)
    have h2 := K.nmR_le r
    unfold K.nmR at h
    simp only [List.length_cons] at h h1
    have nm : ∀ {c : UInt8}, K.isNm c = true → c ≠ 32 ∧ c ≠ 10 := fun {c} hc => by
      constructor <;> (intro e; subst e; exact absurd hc (by decide))
    by_cases hc : K.isNm c = true
    · rw [if_pos hc] at h
      have ih := nm_bd (l := d :: r) (by simp only [List.length_cons]; omega)
      rcases List.mem_cons.1 hx with e | hx
      · subst e; exact nm hc
      · exact ih x hx
    · rw [if_neg hc] at h
      by_cases hd : (c == 45 && K.isNm d) = true
      · rw [if_pos hd] at h
        have ih := nm_bd (l := r) (by omega)
        simp only [Bool.and_eq_true, beq_iff_eq] at hd
        rcases List.mem_cons.1 hx with e | hx
        · rw [e, hd.1]; constructor <;> decide
        · rcases List.mem_cons.1 hx with e | hx
          · rw [e]; exact nm hd.2
          · exact ih x hx
      · rw [if_neg hd] at h; omega
theorem name_bd {l : List UInt8} (h : K.nameB l = true) : 0 < l.length ∧ l.length ≤ 20 ∧ ∀ c ∈ l, c ≠ 32 ∧ c ≠ 10 := by
  unfold K.nameB at h
  simp only [Bool.and_eq_true, decide_eq_true_eq, beq_iff_eq, bne_iff_ne] at h
  obtain ⟨⟨h1, h2⟩, h3⟩ := h
  refine ⟨List.length_pos_iff.2 h1, h2, ?_⟩
  cases l with
  | nil => exact absurd rfl h1
  | cons c r =>
    rw [K.nmL_cons] at h3
    by_cases hc : K.isSm c = true
    · rw [if_pos hc] at h3
      intro x hx
      rcases List.mem_cons.1 hx with e | hx
      · subst e
        constructor <;> (intro e; subst e; exact absurd hc (by decide))
      · exact nm_bd (by simpa using h3) x hx
    · rw [if_neg hc] at h3; simp at h3
theorem dg_all : ∀ m : Fin 100, K.numV (dg2 (m.val : Int)) = ((m.val : Int), true) ∧ (dg2 (m.val : Int)).all (fun c => c != 32 && c != 10) = true ∧ (dg2 (m.val : Int)).length ≤ 2 ∧ 0 < (dg2 (m.val : Int)).length := by decide +kernel
theorem dg_any {c : Int} (h : 0 ≤ c ∧ c ≤ 99) : K.numV (dg2 c) = (c, true) ∧ (∀ d ∈ dg2 c, d ≠ 32 ∧ d ≠ 10) ∧ (dg2 c).length ≤ 2 ∧ 0 < (dg2 c).length := by
  obtain ⟨m, hm⟩ := Int.eq_ofNat_of_zero_le h.1
  have := dg_all ⟨m, by omega⟩
  have hc : c = ((m : Nat) : Int) := hm
  subst hc
  dsimp only at this
  obtain ⟨a, b, d, e⟩ := this
  refine ⟨a, fun x hx => ?_, d, e⟩
  have := List.all_eq_true.1 b x hx
  simpa using this
theorem ww_cases {w : Int} (h : 0 ≤ w ∧ w ≤ 4) : w = 0 ∨ w = 1 ∨ w = 2 ∨ w = 3 ∨ w = 4 := by omega
theorem ww_not {w : Int} (h : 0 ≤ w ∧ w ≤ 4) : (∀ d ∈ wW w, d ≠ 32 ∧ d ≠ 10) ∧ (wW w).length ≤ 8 ∧ 0 < (wW w).length := by
  rcases ww_cases h with rfl | rfl | rfl | rfl | rfl <;> decide
theorem ww_out {w : Int} (h : w < 0 ∨ 4 < w) : wW w = [] := by
  unfold wW; rw [if_neg (by omega), if_neg (by omega), if_neg (by omega), if_neg (by omega), if_neg (by omega)]
theorem tx1_10 {x : Snd} (h : vS x = 0) : ∀ c ∈ tx1 x, c ≠ 10 := by
  obtain ⟨h1, h2, h3, h4, h5⟩ := vS_zero h
  intro c hc
  unfold tx1 at hc
  rcases List.mem_append.1 hc with hc | hc
  · have := List.all_eq_true.1 h5 c hc
    intro e; subst e; exact absurd this (by decide)
  · rcases List.mem_cons.1 hc with e | hc
    · subst e; decide
    · rcases List.mem_cons.1 hc with e | hc
      · subst e
        rcases kinds h1 with h | h | h | h | h | h | h | h | h <;> (rw [h]; decide)
      · by_cases hn : nuc x = true
        · rw [if_pos hn] at hc
          rw [List.mem_singleton.1 hc]
          rcases qs (qOk_nuc h2 hn) with h | h | h <;> (rw [h]; decide)
        · rw [if_neg hn] at hc; simp at hc
theorem jn_mem {α : Type} (c : α) {P : α → Prop} (hc : P c) : ∀ (L : List (List α)), (∀ u ∈ L, ∀ x ∈ u, P x) → ∀ x ∈ jn c L, P x
  | [], _, x, hx => by simp [jn] at hx
  | [a], h, x, hx => h a (by simp) x hx
  | a :: b :: r, h, x, hx => by
    rw [jn_two] at hx
    rcases List.mem_append.1 hx with hx | hx
    · exact h a (by simp) x hx
    · rcases List.mem_cons.1 hx with e | hx
      · subst e; exact hc
      · exact jn_mem c hc (b :: r) (fun u hu => h u (List.mem_cons_of_mem _ hu)) x hx
def ptS (x : Sg) : List (List UInt8) := x.t :: (x.s.map tx1 ++ [dg2 x.c, wW x.w])
theorem lnS_jn {x : Sg} (h : 0 < x.s.length) : lnS x = jn 32 (ptS x) := by
  have hne : x.s.map tx1 ≠ [] := by
    intro e; have := congrArg List.length e; rw [List.length_map] at this; simp at this; rw [this] at h; simp at h
  unfold ptS lnS
  rw [jn_cons 32 _ (by simp), jn_cat 32 _ _ hne (by simp)]
  rfl
theorem lnS_split {x : Sg} (h : sgE x = 0) : splL isSp (lnS x) = ptS x := by
  obtain ⟨h1, h2, h3, h4, h5⟩ := sgE_zero h
  rw [lnS_jn h2.1]
  refine split_jn isSp 32 rfl _ (by simp [ptS]) (fun u hu c hc => ?_)
  have key : c ≠ 32 := by
    unfold ptS at hu
    rcases List.mem_cons.1 hu with e | hu
    · subst e; exact (low_not (txE_zero h1).2.2 c hc).1
    · rcases List.mem_append.1 hu with hu | hu
      · obtain ⟨y, hy, rfl⟩ := List.mem_map.1 hu
        have := tx1_sp (h3 y hy) c hc
        unfold isSp at this; simpa using this
      · rcases List.mem_cons.1 hu with e | hu
        · subst e; exact ((dg_any h4).2.1 c hc).1
        · rw [List.mem_singleton.1 hu] at hc; exact ((ww_not h5).1 c hc).1
  unfold isSp; simpa using key
theorem lnS_10 {x : Sg} (h : sgE x = 0) : ∀ c ∈ lnS x, c ≠ 10 := by
  obtain ⟨h1, h2, h3, h4, h5⟩ := sgE_zero h
  rw [lnS_jn h2.1]
  refine jn_mem 32 (P := fun c => c ≠ 10) (by decide) _ (fun u hu c hc => ?_)
  unfold ptS at hu
  rcases List.mem_cons.1 hu with e | hu
  · subst e; exact (low_not (txE_zero h1).2.2 c hc).2
  · rcases List.mem_append.1 hu with hu | hu
    · obtain ⟨y, hy, rfl⟩ := List.mem_map.1 hu
      exact tx1_10 (h3 y hy) c hc
    · rcases List.mem_cons.1 hu with e | hu
      · subst e; exact ((dg_any h4).2.1 c hc).2
      · rw [List.mem_singleton.1 hu] at hc; exact ((ww_not h5).1 c hc).2
theorem lnS_len {x : Sg} (h : sgE x = 0) : (lnS x).length ≤ 41 ∧ 0 < (lnS x).length := by
  obtain ⟨h1, h2, h3, h4, h5⟩ := sgE_zero h
  have a := txE_zero h1
  have b := txL_len h3
  have c := (dg_any h4).2.2
  have d := (ww_not h5).2
  unfold lnS
  simp only [List.length_append, List.length_cons]
  omega
theorem hdO_len : hdO.length = 12 := rfl
theorem hd_10 {nm : List UInt8} (h : K.nameB nm = true) : ∀ c ∈ hdO ++ nm, c ≠ 10 := by
  intro c hc
  rcases List.mem_append.1 hc with hc | hc
  · have : ∀ c ∈ hdO, c ≠ 10 := by decide
    exact this c hc
  · exact ((name_bd h).2.2 c hc).2
theorem prs_sounds {x : Sg} (h : sgE x = 0) : prsV (txL x.s) = (x.s, 0) := by
  obtain ⟨h1, h2, h3, h4, h5⟩ := sgE_zero h
  exact fmt_prs (fmt_ok (by omega) h3)
end Go.Proofs.YtjamfcihjendiaaGreat
