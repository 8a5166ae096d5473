/- Plain functions and lemmas on signs, patterns and letters. Nothing here speaks of the program. -/
import Derived.WalkKit
import Derived.Shelf.Small.Strs
import Derived.Deep.AppendLies
import Derived.Lib.Replace
import Derived.Lib.SplitLaws
namespace Go.Proofs.YtlkigmlgbnlkaaaDoor
set_option linter.unusedVariables false

def sgn (n : Int) : Bool := n == 117 || n == 45 || n == 120
def isS (c : UInt8) : Bool := sgn (c.toNat : Int)
def bt (l : List UInt8) (j : Nat) : Int := ((l[j]?.getD 0).toNat : Int)
theorem bt_bd (l : List UInt8) (j : Nat) : 0 ≤ bt l j ∧ bt l j ≤ 255 := by
  unfold bt; have := (l[j]?.getD 0).toNat_lt; omega
theorem ret_int {a b : Int} {k : IntKind} (h : b = a) : Ending.returned (.int k a) = Ending.returned (.int k b) := by rw [h]
theorem ret_bool {a b : Bool} (h : a = b) : Ending.returned (.bool a) = Ending.returned (.bool b) := by rw [h]
theorem sizeB (s : ByteArray) : s.data.toList.length = s.size := rfl
theorem getB (s : ByteArray) (k : Nat) (h : k < s.size) : s[k] = s.data.toList[k]'(by simpa using h) := rfl
theorem bt_at {s : ByteArray} {k : Nat} (h : k < s.size) : bt s.data.toList k = (s[k].toNat : Int) := by
  unfold bt; rw [List.getElem?_eq_getElem (by rw [sizeB]; exact h)]; rfl
theorem takeS {s : ByteArray} {k : Nat} (h : k < s.size) : s.data.toList.take (k + 1) = s.data.toList.take k ++ [s[k]] :=
  List.take_succ_eq_append_getElem (by rw [sizeB]; exact h)
theorem takeAll {s : ByteArray} {k : Nat} (h : s.size ≤ k) : s.data.toList.take k = s.data.toList :=
  List.take_of_length_le (by rw [sizeB]; exact h)
theorem dropS {s : ByteArray} {k : Nat} (h : k < s.size) : s.data.toList.drop k = s[k] :: s.data.toList.drop (k + 1) :=
  List.drop_eq_getElem_cons (by rw [sizeB]; exact h)
theorem of_list {o : ByteArray} {l : List UInt8} (h : o.data.toList = l) : o = ⟨l.toArray⟩ := by
  subst h; rfl
theorem cat_any (o x : ByteArray) : (o ++ x).data.toList = o.data.toList ++ x.data.toList := by simp
theorem byte_eq {c d : UInt8} (h : (c.toNat : Int) = (d.toNat : Int)) : c = d := UInt8.toNat_inj.1 (by omega)
theorem byte_is {c : UInt8} {n : Nat} (h : (c.toNat : Int) = (n : Int)) (hn : n < 256) : c = n.toUInt8 := UInt8.toNat_inj.1 (by simp; omega)

/-! ### Patterns -/
def pErr (l : List UInt8) : Int := if 60 < l.length then 3 else if l.all isS then 0 else 2
theorem pErr_big {l : List UInt8} (h : 60 < l.length) : pErr l = 3 := by unfold pErr; rw [if_pos h]
theorem pErr_bad {s : ByteArray} (h : s.size ≤ 60) {k : Nat} (hk : k < s.size) (hf : sgn (s[k].toNat : Int) = false) : pErr s.data.toList = 2 := by
  unfold pErr
  rw [if_neg (by rw [sizeB]; omega), if_neg]
  intro h
  have := List.all_eq_true.1 h s[k] (by rw [getB]; exact List.getElem_mem _)
  unfold isS at this
  rw [hf] at this; cases this
theorem pErr_ok {l : List UInt8} (h : l.length ≤ 60) (hf : l.all isS = true) : pErr l = 0 := by
  unfold pErr; rw [if_neg (by omega), if_pos hf]
theorem pErr_zero {l : List UInt8} (h : pErr l = 0) : l.length ≤ 60 ∧ l.all isS = true := by
  unfold pErr at h
  split at h
  · cases h
  · split at h
    · exact ⟨by omega, by assumption⟩
    · cases h
theorem pErr_val (l : List UInt8) : pErr l = 0 ∨ pErr l = 2 ∨ pErr l = 3 := by
  unfold pErr; split
  · simp
  · split <;> simp
theorem all_step {s : ByteArray} {k : Nat} (hk : k < s.size) (h : (s.data.toList.take k).all isS = true) (hf : sgn (s[k].toNat : Int) = true) : (s.data.toList.take (k + 1)).all isS = true := by
  rw [takeS hk, List.all_append, h]; simp [isS, hf]
theorem all_end {s : ByteArray} {k : Nat} (hk : s.size ≤ k) (h : (s.data.toList.take k).all isS = true) : s.data.toList.all isS = true := by
  rw [takeAll hk] at h; exact h

/-! ### Marked patterns -/
def mokR (b : Bool) : List UInt8 → Bool
  | [] => true
  | c :: r => if isS c then mokR true r else c == 46 && b && mokR false r
def lastS (b : Bool) : List UInt8 → Bool
  | [] => b
  | c :: r => lastS (isS c) r
theorem lastS_snoc (b : Bool) (l : List UInt8) (c : UInt8) : lastS b (l ++ [c]) = isS c := by
  induction l generalizing b with
  | nil => rfl
  | cons d l ih => exact ih _
theorem mokR_snoc (b : Bool) (l : List UInt8) (c : UInt8) : mokR b (l ++ [c]) = (mokR b l && (isS c || (c == 46 && lastS b l))) := by
  induction l generalizing b with
  | nil => simp only [List.nil_append, mokR, lastS]; cases isS c <;> simp
  | cons d l ih =>
    simp only [List.cons_append, mokR, lastS]
    cases h : isS d with
    | true => simp [ih]
    | false => simp [ih, Bool.and_assoc]
def mErr (l : List UInt8) : Int := if 120 < l.length then 3 else if mokR false l then (if 60 < l.countP isS then 3 else 0) else 2
theorem mErr_big {l : List UInt8} (h : 120 < l.length) : mErr l = 3 := by unfold mErr; rw [if_pos h]
theorem mokR_pre {l m : List UInt8} {b : Bool} (h : mokR b (l ++ m) = true) : mokR b l = true := by
  induction l generalizing b with
  | nil => rfl
  | cons c l ih =>
    simp only [List.cons_append, mokR] at h ⊢
    cases hc : isS c with
    | true => rw [hc] at h; simp at h ⊢; exact ih h
    | false => rw [hc] at h; simp at h ⊢; exact ⟨h.1, ih h.2⟩
theorem mErr_bad {s : ByteArray} (h : s.size ≤ 120) {k : Nat} (hk : k < s.size) (h1 : sgn (s[k].toNat : Int) = false) (h2 : s[k].toNat ≠ 46 ∨ lastS false (s.data.toList.take k) = false) : mErr s.data.toList = 2 := by
  unfold mErr
  rw [if_neg (by rw [sizeB]; omega), if_neg]
  intro hm
  have e : s.data.toList = s.data.toList.take (k + 1) ++ s.data.toList.drop (k + 1) := (List.take_append_drop _ _).symm
  rw [e] at hm
  have := mokR_pre hm
  rw [takeS hk, mokR_snoc] at this
  have h3 : isS s[k] = false := h1
  rw [h3] at this
  simp at this
  rcases h2 with h2 | h2
  · exact h2 (by rw [this.2.1]; rfl)
  · rw [h2] at this; simp at this
theorem mErr_end {l : List UInt8} (h : l.length ≤ 120) (h1 : mokR false l = true) (h2 : l.countP isS ≤ 60) : mErr l = 0 := by
  unfold mErr; rw [if_neg (by omega), if_pos h1, if_neg (by omega)]
theorem mErr_many {l : List UInt8} (h : l.length ≤ 120) (h1 : mokR false l = true) (h2 : 60 < l.countP isS) : mErr l = 3 := by
  unfold mErr; rw [if_neg (by omega), if_pos h1, if_pos h2]
theorem mErr_zero {l : List UInt8} (h : mErr l = 0) : l.length ≤ 120 ∧ mokR false l = true ∧ l.countP isS ≤ 60 := by
  unfold mErr at h
  split at h
  · cases h
  · split at h
    · split at h
      · cases h
      · exact ⟨by omega, by assumption, by omega⟩
    · cases h
theorem mErr_val (l : List UInt8) : mErr l = 0 ∨ mErr l = 2 ∨ mErr l = 3 := by
  unfold mErr; split
  · simp
  · split
    · split <;> simp
    · simp
theorem mok_sign {s : ByteArray} {k : Nat} (hk : k < s.size) (h : mokR false (s.data.toList.take k) = true) (hs : sgn (s[k].toNat : Int) = true) :
    mokR false (s.data.toList.take (k + 1)) = true ∧ (s.data.toList.take (k + 1)).countP isS = (s.data.toList.take k).countP isS + 1 ∧ lastS false (s.data.toList.take (k + 1)) = true := by
  have hs' : isS s[k] = true := hs
  rw [takeS hk, mokR_snoc, lastS_snoc, h, hs', List.countP_append]
  simp [hs']
theorem mok_point {s : ByteArray} {k : Nat} (hk : k < s.size) (h : mokR false (s.data.toList.take k) = true) (hp : s[k].toNat = 46) (hl : lastS false (s.data.toList.take k) = true) :
    mokR false (s.data.toList.take (k + 1)) = true ∧ (s.data.toList.take (k + 1)).countP isS = (s.data.toList.take k).countP isS ∧ lastS false (s.data.toList.take (k + 1)) = false := by
  have hc : s[k] = 46 := byte_is (n := 46) (by rw [hp]) (by decide)
  have hs' : isS 46 = false := by decide
  rw [takeS hk, mokR_snoc, lastS_snoc, h, hc, hs', List.countP_append, hl]
  simp [hs']
theorem last_at {s : ByteArray} {k : Nat} (hk : k < s.size) : lastS false (s.data.toList.take (k + 1)) = sgn (s[k].toNat : Int) := by
  rw [takeS hk, lastS_snoc]; rfl
theorem last_prev {s : ByteArray} {k : Nat} (hk : k ≤ s.size) (h0 : 0 < k) : lastS false (s.data.toList.take k) = sgn (s[k - 1].toNat : Int) := by
  have := last_at (s := s) (k := k - 1) (by omega)
  rwa [show k - 1 + 1 = k from by omega] at this
theorem cnt_le {l : List UInt8} {k : Nat} : (l.take k).countP isS ≤ k := by
  have h1 := List.countP_le_length (p := isS) (l := l.take k)
  rw [List.length_take] at h1
  omega

/-! ### Without points -/
def plainL (l : List UInt8) : List UInt8 := l.filter (fun c => c != 46)
def plainVal (l : List UInt8) : List UInt8 × Int := if mErr l = 0 then (plainL l, 0) else ([], mErr l)
theorem plain_err {l : List UInt8} {x : Int} (h : mErr l = x) (h0 : x ≠ 0) : plainVal l = ([], x) := by subst h; unfold plainVal; rw [if_neg h0]
theorem plain_ok {l : List UInt8} (h : mErr l = 0) : plainVal l = (plainL l, 0) := by unfold plainVal; rw [if_pos h]
theorem plainL_len (l : List UInt8) : (plainL l).length ≤ l.length := List.length_filter_le _ _
theorem idx_one (c : UInt8) : ∀ l : List UInt8, Lib.index (c :: l) [c] = 0 := by
  intro l
  rw [Lib.index.eq_def]
  simp [List.isPrefixOf]
theorem idx_ne {b c : UInt8} (h : b ≠ c) (l : List UInt8) : Lib.index (b :: l) [c] = if Lib.index l [c] == -1 then -1 else Lib.index l [c] + 1 := by
  have hp : ([c] : List UInt8).isPrefixOf (b :: l) = false := by simp [List.isPrefixOf, Ne.symm h]
  rw [Lib.index, hp]; simp
theorem idx_miss (c : UInt8) : ∀ l : List UInt8, c ∉ l → Lib.index l [c] = -1
  | [], _ => by simp [Lib.index]
  | b :: l, h => by
    have h1 : b ≠ c := fun e => h (by simp [e])
    rw [idx_ne h1, idx_miss c l (fun hm => h (List.mem_cons_of_mem _ hm))]; simp
theorem rep_filter (c : UInt8) : ∀ (l : List UInt8), Lib.replaceK [c] [] (l.count c) l = l.filter (fun d => d != c)
  | [] => by simp [Lib.replaceK]
  | b :: l => by
    by_cases h : b = c
    · subst h
      have e : Lib.index (b :: l) [b] = ((0 : Nat) : Int) := idx_one b l
      rw [List.count_cons_self, Lib.replaceK_hit _ _ _ _ 0 e]
      simp [rep_filter b l]
    · have hc : (b :: l).count c = l.count c := List.count_cons_of_ne (by simpa using h)
      rw [hc]
      have hf : (b :: l).filter (fun d => d != c) = b :: l.filter (fun d => d != c) := by simp [h]
      rw [hf]
      cases hn : l.count c with
      | zero =>
        have : c ∉ l := List.count_eq_zero.1 hn
        have ih := rep_filter c l
        rw [hn] at ih
        rw [← ih]; rfl
      | succ n =>
        have hm : c ∈ l := List.count_pos_iff.1 (by omega)
        have ih := rep_filter c l
        rw [hn] at ih
        have hcnt : 0 < Lib.count l [c] := by rw [Lib.count_one, hn]; omega
        obtain ⟨i, hi⟩ := Lib.index_of_count hcnt
        have hi2 : Lib.index (b :: l) [c] = ((i + 1 : Nat) : Int) := by
          rw [idx_ne h, hi, if_neg (by simp)]; rfl
        rw [Lib.replaceK_hit _ _ _ _ _ hi] at ih
        rw [Lib.replaceK_hit _ _ _ _ _ hi2, ← ih]
        rw [show i + 1 + [c].length = (i + [c].length) + 1 from by omega, List.drop_succ_cons, List.take_succ_cons]
        simp
theorem rep_points (l : List UInt8) : Lib.replaceAll l [46] [] = plainL l := by
  unfold Lib.replaceAll Lib.replace
  rw [if_neg (by decide)]
  have : Lib.replaceNum l [46] (-1) = l.count 46 := by unfold Lib.replaceNum; rw [if_pos (Or.inl (by omega)), Lib.count_one]
  rw [this]; exact rep_filter 46 l

/-! ### Letters -/
def baseB (c : UInt8) : Int := if c == 45 then 1 else 0
def letR : List UInt8 → List Int
  | [] => []
  | c :: r => if isS c then (baseB c + if r.head? == some 46 then 2 else 0) :: letR r else letR r
theorem letR_len (l : List UInt8) : (letR l).length = l.countP isS := by
  induction l with
  | nil => rfl
  | cons c l ih => unfold letR; cases h : isS c <;> simp [h, ih]
theorem letR_sign (l : List UInt8) (c : UInt8) (h : isS c = true) : letR (l ++ [c]) = letR l ++ [baseB c] := by
  have h46 : c ≠ 46 := by rintro rfl; exact absurd h (by decide)
  induction l with
  | nil => simp [letR, h]
  | cons d l ih =>
    have e : (l ++ [c]).head? = some 46 ↔ l.head? = some 46 := by
      cases l with
      | nil => simp [h46]
      | cons a l => simp
    simp only [List.cons_append, letR]
    cases hd : isS d with
    | true => simp only [if_true, ih, beq_iff_eq, e]; rfl
    | false => simpa using ih
theorem letR_point (l : List UInt8) (d : UInt8) (h : isS d = true) : letR (l ++ [d] ++ [46]) = letR l ++ [baseB d + 2] := by
  induction l with
  | nil => simp [letR, h, show isS 46 = false by decide]
  | cons a l ih =>
    have e : (l ++ [d] ++ [46]).head? = some 46 ↔ l.head? = some 46 := by
      have h46 : d ≠ 46 := by rintro rfl; exact absurd h (by decide)
      cases l with
      | nil => simp [h46]
      | cons a l => simp
    have e2 : l ++ [d] ++ [46] = l ++ ([d] ++ [46]) := by simp
    simp only [List.cons_append, letR]
    cases ha : isS a with
    | true => simp only [if_true, ih, e, beq_iff_eq]; rfl
    | false => simpa using ih
def lettersVal (l : List UInt8) : List Int × Int := if mErr l = 0 then (if (120 : UInt8) ∈ l then ([], 13) else (letR l, 0)) else ([], mErr l)
theorem letters_err {l : List UInt8} {x : Int} (h : mErr l = x) (h0 : x ≠ 0) : lettersVal l = ([], x) := by subst h; unfold lettersVal; rw [if_neg h0]
theorem letters_open {l : List UInt8} (h : mErr l = 0) (h1 : (120 : UInt8) ∈ l) : lettersVal l = ([], 13) := by unfold lettersVal; rw [if_pos h, if_pos h1]
theorem letters_ok {l : List UInt8} (h : mErr l = 0) (h1 : ¬ (120 : UInt8) ∈ l) : lettersVal l = (letR l, 0) := by unfold lettersVal; rw [if_pos h, if_neg h1]
theorem plain_has {l : List UInt8} : (120 : UInt8) ∈ plainL l ↔ (120 : UInt8) ∈ l := by
  unfold plainL; simp

def pieceL (x : Int) : List UInt8 := if x = 0 then [117] else if x = 1 then [45] else if x = 2 then [117, 46] else [45, 46]
def textL (L : List Int) : List UInt8 := L.flatMap pieceL
def isLet (x : Int) : Bool := decide (0 ≤ x) && decide (x ≤ 3)
def textVal (L : List Int) : List UInt8 × Int := if 60 < L.length then ([], 3) else if L.all isLet then (textL L, 0) else ([], 6)
theorem text_big {L : List Int} (h : 60 < L.length) : textVal L = ([], 3) := by unfold textVal; rw [if_pos h]
theorem text_bad {L : List Int} (h : ¬ 60 < L.length) {k : Nat} (hk : k < L.length) (hb : isLet L[k] = false) : textVal L = ([], 6) := by
  unfold textVal; rw [if_neg h, if_neg]
  intro ha
  have := List.all_eq_true.1 ha _ (List.getElem_mem hk)
  rw [hb] at this; cases this
theorem text_ok {L : List Int} (h : ¬ 60 < L.length) (h1 : L.all isLet = true) : textVal L = (textL L, 0) := by unfold textVal; rw [if_neg h, if_pos h1]
theorem text_zero {L : List Int} (h : (textVal L).2 = 0) : L.length ≤ 60 ∧ L.all isLet = true := by
  unfold textVal at h
  split at h
  · cases h
  · split at h
    · exact ⟨by omega, by assumption⟩
    · cases h
theorem textL_snoc (L : List Int) (x : Int) : textL (L ++ [x]) = textL L ++ pieceL x := by simp [textL]
theorem textL_cons (L : List Int) (x : Int) : textL (x :: L) = pieceL x ++ textL L := by simp [textL]
theorem pieceL_len (x : Int) : (pieceL x).length ≤ 2 := by unfold pieceL; split <;> (try split) <;> (try split) <;> simp
theorem textL_len (L : List Int) : (textL L).length ≤ 2 * L.length := by
  induction L with
  | nil => simp [textL]
  | cons x L ih => rw [textL_cons, List.length_append, List.length_cons]; have := pieceL_len x; omega
theorem isLet_cases {x : Int} (h : isLet x = true) : x = 0 ∨ x = 1 ∨ x = 2 ∨ x = 3 := by
  unfold isLet at h; simp at h; omega
theorem sign_cases {c : UInt8} (h : isS c = true) : c = 117 ∨ c = 45 ∨ c = 120 := by
  unfold isS sgn at h
  simp at h
  rcases h with (h | h) | h
  · exact .inl (byte_is (n := 117) (by omega) (by decide))
  · exact .inr (.inl (byte_is (n := 45) (by omega) (by decide)))
  · exact .inr (.inr (byte_is (n := 120) (by omega) (by decide)))
theorem text_head (L : List Int) : (textL L).head? ≠ some 46 := by
  cases L with
  | nil => simp [textL]
  | cons x L => rw [textL_cons]; unfold pieceL; split <;> (try split) <;> (try split) <;> simp
theorem let_text (L : List Int) (h : L.all isLet = true) : letR (textL L) = L := by
  induction L with
  | nil => rfl
  | cons x L ih =>
    simp only [List.all_cons, Bool.and_eq_true] at h
    have ih := ih h.2
    have hh := text_head L
    rw [textL_cons]
    rcases isLet_cases h.1 with rfl | rfl | rfl | rfl
    · simp [pieceL, letR, show isS 117 = true by decide, baseB, hh, ih]
    · simp [pieceL, letR, show isS 45 = true by decide, baseB, hh, ih]
    · simp [pieceL, letR, show isS 117 = true by decide, show isS 46 = false by decide, baseB, ih]
    · simp [pieceL, letR, show isS 45 = true by decide, show isS 46 = false by decide, baseB, ih]
theorem mok_text (L : List Int) (b : Bool) (h : L.all isLet = true) : mokR b (textL L) = true := by
  induction L generalizing b with
  | nil => rfl
  | cons x L ih =>
    simp only [List.all_cons, Bool.and_eq_true] at h
    have ih1 := ih true h.2
    have ih2 := ih false h.2
    rw [textL_cons]
    rcases isLet_cases h.1 with rfl | rfl | rfl | rfl
    · simp [pieceL, mokR, show isS 117 = true by decide, ih1]
    · simp [pieceL, mokR, show isS 45 = true by decide, ih1]
    · simp [pieceL, mokR, show isS 117 = true by decide, show isS 46 = false by decide, ih2]
    · simp [pieceL, mokR, show isS 45 = true by decide, show isS 46 = false by decide, ih2]
theorem x_text (L : List Int) : (120 : UInt8) ∉ textL L := by
  unfold textL
  rw [List.mem_flatMap]
  rintro ⟨x, _, hx⟩
  unfold pieceL at hx
  split at hx
  · simp at hx
  · split at hx
    · simp at hx
    · split at hx <;> simp at hx
theorem letters_text {L : List Int} (h : (textVal L).2 = 0) : lettersVal (textVal L).1 = (L, 0) := by
  obtain ⟨h1, h2⟩ := text_zero h
  rw [text_ok (by omega) h2]
  have hl : (textL L).countP isS = L.length := by rw [← letR_len, let_text L h2]
  have hm : mErr (textL L) = 0 := mErr_end (by have := textL_len L; omega) (mok_text L false h2) (by rw [hl]; exact h1)
  rw [letters_ok hm (x_text L), let_text L h2]
theorem text_let : ∀ (l : List UInt8), mokR false l = true → (120 : UInt8) ∉ l → textL (letR l) = l
  | [], _, _ => rfl
  | c :: 46 :: r, hm, hx => by
    have hc : isS c = true := by
      cases h : isS c with
      | true => rfl
      | false => rw [mokR, h] at hm; simp at hm
    have hm2 : mokR false r = true := by
      rw [mokR, hc] at hm
      simp [mokR, show isS 46 = false by decide] at hm; exact hm
    have ih := text_let r hm2 (fun h => hx (by simp [h]))
    have e : letR (c :: 46 :: r) = (baseB c + 2) :: letR r := by simp [letR, hc, show isS 46 = false by decide]
    rw [e, textL_cons, ih]
    rcases sign_cases hc with rfl | rfl | rfl
    · rfl
    · rfl
    · simp at hx
  | [c], hm, hx => by
    have hc : isS c = true := by
      cases h : isS c with
      | true => rfl
      | false => rw [mokR, h] at hm; simp at hm
    rcases sign_cases hc with rfl | rfl | rfl
    · rfl
    · rfl
    · simp at hx
  | c :: d :: r, hm, hx => by
    by_cases hd : d = 46
    · subst hd
      have hc : isS c = true := by
        cases h : isS c with
        | true => rfl
        | false => rw [mokR, h] at hm; simp at hm
      have hm2 : mokR false r = true := by
        rw [mokR, hc] at hm
        simp [mokR, show isS 46 = false by decide] at hm; exact hm
      have ih := text_let r hm2 (fun h => hx (by simp [h]))
      have e : letR (c :: 46 :: r) = (baseB c + 2) :: letR r := by simp [letR, hc, show isS 46 = false by decide]
      rw [e, textL_cons, ih]
      rcases sign_cases hc with rfl | rfl | rfl
      · rfl
      · rfl
      · simp at hx
    · have hc : isS c = true := by
        cases h : isS c with
        | true => rfl
        | false => rw [mokR, h] at hm; simp at hm
      have hm2 : mokR false (d :: r) = true := by
        rw [mokR, hc] at hm
        simp only [mokR, if_true] at hm ⊢
        cases h : isS d with
        | true => rw [h] at hm; exact hm
        | false => rw [h] at hm; simp [hd] at hm
      have ih := text_let (d :: r) hm2 (fun h => hx (List.mem_cons_of_mem _ h))
      have e : letR (c :: d :: r) = baseB c :: letR (d :: r) := by
        rw [letR, if_pos hc]; simp [hd]
      rw [e, textL_cons, ih]
      rcases sign_cases hc with rfl | rfl | rfl
      · rfl
      · rfl
      · simp at hx
theorem letR_all (l : List UInt8) : (letR l).all isLet = true := by
  induction l with
  | nil => rfl
  | cons c l ih =>
    unfold letR
    split
    · rw [List.all_cons, ih, Bool.and_true]
      unfold baseB isLet
      split <;> split <;> decide
    · exact ih
theorem text_letters {l : List UInt8} (h : (lettersVal l).2 = 0) : textVal (lettersVal l).1 = (l, 0) := by
  unfold lettersVal at h ⊢
  by_cases hm : mErr l = 0
  · rw [if_pos hm] at h ⊢
    by_cases hx : (120 : UInt8) ∈ l
    · rw [if_pos hx] at h; cases h
    · rw [if_neg hx] at h ⊢
      obtain ⟨h1, h2, h3⟩ := mErr_zero hm
      show textVal (letR l) = _
      rw [text_ok (by rw [letR_len]; omega) (letR_all l), text_let l h2 hx]
  · rw [if_neg hm] at h; exact absurd h hm
end Go.Proofs.YtlkigmlgbnlkaaaDoor
