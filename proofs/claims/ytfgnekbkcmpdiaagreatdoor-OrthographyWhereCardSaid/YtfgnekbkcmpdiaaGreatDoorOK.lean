/- Contracts of a lower layer, in a namespace of their own. -/
import Derived.WalkKit
import Derived.Shelf.Small.Strs
import Derived.Lib.Bytealg
import Derived.Lib.Atoi
import Derived.Lib.Join
import Derived.Lib.Strings
import Derived.Test.YtfgnekbkcmpdiaaGreatDoorRows
import Derived.Test.YtfgnekbkcmpdiaaGreatDoorShelf
import Derived.WalkSpells
import Derived.WalkLawsBesides
import Derived.IntWalk
import Derived.Lib.Hide
import Derived.Outline
import Derived.Below
import Derived.Lib.AtoiErrMem
import Derived.Deep.QuietTactic
import Derived.BigQuiet
import Derived.Deep.RegionLaw
import Derived.Deep.AppendLies
import Derived.OwnWalk
import Derived.Lib.SplitLaws
/- Plain functions and lemmas on bytes, names, numbers and tokens. Nothing here speaks of the program. -/
namespace Go.Proofs.YtfgnekbkcmpdiaaGreatDoor.K
set_option linter.unusedVariables false

/-! ### Bytes -/
def smI (n : Int) : Bool := decide (97 ≤ n) && decide (n ≤ 122)
def dgI (n : Int) : Bool := decide (48 ≤ n) && decide (n ≤ 57)
def nmI (n : Int) : Bool := smI n || dgI n
def quI (n : Int) : Bool := decide (32 ≤ n) && decide (n ≤ 126) && n != 34
def wsI (n : Int) : Bool := n == 32 || n == 9 || n == 10 || n == 13
def signL : List UInt8 := [123, 125, 40, 41, 91, 93, 47, 59, 58, 126, 64, 61, 94, 44, 46, 124, 43, 42, 60, 62, 45]
def isSm (c : UInt8) : Bool := smI (c.toNat : Int)
def isDg (c : UInt8) : Bool := dgI (c.toNat : Int)
def isNm (c : UInt8) : Bool := nmI (c.toNat : Int)
def isQu (c : UInt8) : Bool := quI (c.toNat : Int)
def isWs (c : UInt8) : Bool := wsI (c.toNat : Int)
def isSg (c : UInt8) : Bool := signL.contains c
def sgI (n : Int) : Bool := isSg n.toNat.toUInt8
theorem sg_int (c : UInt8) : sgI (c.toNat : Int) = isSg c := by
  unfold sgI; rw [show ((c.toNat : Int)).toNat.toUInt8 = c from by simp]
theorem ret_int {a b : Int} {k : IntKind} (h : b = a) : Ending.returned (.int k a) = Ending.returned (.int k b) := by rw [h]
theorem ret_bool {a b : Bool} (h : a = b) : Ending.returned (.bool a) = Ending.returned (.bool b) := by rw [h]
theorem sizeB (s : ByteArray) : s.data.toList.length = s.size := rfl
theorem getB (s : ByteArray) (k : Nat) (h : k < s.size) : s[k] = s.data.toList[k]'(by simpa using h) := rfl
theorem takeS {s : ByteArray} {k : Nat} (h : k < s.size) : s.data.toList.take (k + 1) = s.data.toList.take k ++ [s[k]] :=
  List.take_succ_eq_append_getElem (by rw [sizeB]; exact h)
theorem takeAll {s : ByteArray} {k : Nat} (h : s.size ≤ k) : s.data.toList.take k = s.data.toList :=
  List.take_of_length_le (by rw [sizeB]; exact h)
theorem dropS {s : ByteArray} {k : Nat} (h : k < s.size) : s.data.toList.drop k = s[k] :: s.data.toList.drop (k + 1) :=
  List.drop_eq_getElem_cons (by rw [sizeB]; exact h)
theorem dropE {s : ByteArray} {k : Nat} (h : s.size ≤ k) : s.data.toList.drop k = [] := List.drop_eq_nil_of_le (by rw [sizeB]; exact h)
theorem of_list {o : ByteArray} {l : List UInt8} (h : o.data.toList = l) : o = ⟨l.toArray⟩ := by
  subst h; rfl
theorem cat_any (o x : ByteArray) : (o ++ x).data.toList = o.data.toList ++ x.data.toList := by simp
theorem byte_eq {c d : UInt8} (h : (c.toNat : Int) = (d.toNat : Int)) : c = d := UInt8.toNat_inj.1 (by omega)
theorem byte_is {c : UInt8} {n : Nat} (h : (c.toNat : Int) = (n : Int)) (hn : n < 256) : c = n.toUInt8 := UInt8.toNat_inj.1 (by simp; omega)
theorem byte_ne {c : UInt8} {n : Nat} (h : ¬ (c.toNat : Int) = (n : Int)) (hn : n < 256) : c ≠ n.toUInt8 := by
  rintro rfl; exact h (by simp; omega)
def bs (l : List UInt8) : ByteArray := ⟨l.toArray⟩
theorem bs_list (l : List UInt8) : (bs l).data.toList = l := rfl
theorem bs_of {o : ByteArray} {l : List UInt8} (h : o.data.toList = l) : o = bs l := of_list h
theorem bs_inj {a b : List UInt8} (h : bs a = bs b) : a = b := by rw [← bs_list a, h, bs_list]
theorem bs_size (l : List UInt8) : (bs l).size = l.length := rfl
theorem ext_drop (s : ByteArray) (k : Nat) : (s.extract k s.size).data.toList = s.data.toList.drop k := by
  rw [ByteArray.data_extract, Array.toList_extract, List.extract_eq_take_drop]
  exact List.take_of_length_le (by rw [List.length_drop, sizeB]; omega)
theorem ext_take (s : ByteArray) (k : Nat) : (s.extract 0 k).data.toList = s.data.toList.take k := by
  rw [ByteArray.data_extract, Array.toList_extract, List.extract_eq_take_drop, List.drop_zero, Nat.sub_zero]
theorem ext_mid (s : ByteArray) (a b : Nat) : (s.extract a b).data.toList = (s.data.toList.drop a).take (b - a) := by
  rw [ByteArray.data_extract, Array.toList_extract, List.extract_eq_take_drop]
theorem ext_size (s : ByteArray) (k : Nat) (h : k ≤ s.size) : (s.extract k s.size).size = s.size - k := by rw [ByteArray.size_extract]; omega

/-! ### Runs, names -/
def runL (p : UInt8 → Bool) : List UInt8 → Nat
  | [] => 0
  | c :: r => if p c then runL p r + 1 else 0
theorem runL_le (p : UInt8 → Bool) : ∀ l, runL p l ≤ l.length
  | [] => Nat.le_refl _
  | c :: r => by
    unfold runL
    have := runL_le p r
    split <;> simp <;> omega
theorem runL_all {p : UInt8 → Bool} : ∀ {l : List UInt8}, l.all p = true → runL p l = l.length
  | [], _ => rfl
  | c :: r, h => by
    simp only [List.all_cons, Bool.and_eq_true] at h
    rw [runL, if_pos h.1, runL_all h.2]; rfl
theorem runL_take {p : UInt8 → Bool} : ∀ l : List UInt8, (l.take (runL p l)).all p = true
  | [] => rfl
  | c :: r => by
    unfold runL
    by_cases h : p c = true
    · rw [if_pos h, List.take_succ_cons, List.all_cons, h, runL_take r]; rfl
    · rw [if_neg h]; rfl
theorem runL_len {p : UInt8 → Bool} {l : List UInt8} (h : runL p l = l.length) : l.all p = true := by
  have := runL_take (p := p) l
  rw [h, List.take_length] at this; exact this
theorem runL_cat {p : UInt8 → Bool} : ∀ {a b : List UInt8}, a.all p = true → runL p (a ++ b) = a.length + runL p b
  | [], b, _ => by simp
  | c :: a, b, h => by
    simp only [List.all_cons, Bool.and_eq_true] at h
    rw [List.cons_append, runL, if_pos h.1, runL_cat h.2, List.length_cons]; omega
theorem runL_end {p : UInt8 → Bool} {l : List UInt8} : ∀ c, (l.drop (runL p l)).head? = some c → p c = false := by
  induction l with
  | nil => intro c h; simp [runL] at h
  | cons d r ih =>
    intro c
    unfold runL
    by_cases h : p d = true
    · rw [if_pos h, List.drop_succ_cons]; exact ih c
    · rw [if_neg h]
      intro e
      simp at e
      subst e
      simpa using h
theorem runL_stop {p : UInt8 → Bool} {l : List UInt8} (h : ∀ c, l.head? = some c → p c = false) : runL p l = 0 := by
  cases l with
  | nil => rfl
  | cons c r => rw [runL, if_neg (by rw [h c rfl]; simp)]
def nmR : List UInt8 → Nat
  | [] => 0
  | [c] => if isNm c then 1 else 0
  | c :: d :: r => if isNm c then nmR (d :: r) + 1 else if c == 45 && isNm d then nmR r + 2 else 0
theorem nmR_nm {c : UInt8} (r : List UInt8) (h : isNm c = true) : nmR (c :: r) = nmR r + 1 := by
  cases r with
  | nil => simp [nmR, h]
  | cons d r => simp [nmR, h]
theorem nmR_minus {d : UInt8} (r : List UInt8) (h : isNm d = true) : nmR (45 :: d :: r) = nmR r + 2 := by
  rw [nmR, if_neg (by decide), if_pos (by simp [h])]
theorem nmR_none {c : UInt8} {r : List UInt8} (h : isNm c = false) (h2 : c ≠ 45 ∨ ∀ d, r.head? = some d → isNm d = false) : nmR (c :: r) = 0 := by
  cases r with
  | nil => simp [nmR, h]
  | cons d r =>
    rw [nmR, if_neg (by simp [h]), if_neg]
    rcases h2 with h2 | h2
    · simp [h2]
    · simp [h2 d rfl]
def nmL : List UInt8 → Nat
  | [] => 0
  | c :: r => if isSm c then nmR r + 1 else 0
theorem nmL_cons (c : UInt8) (r : List UInt8) : nmL (c :: r) = if isSm c then nmR r + 1 else 0 := rfl
theorem nmR_le : ∀ l, nmR l ≤ l.length
  | [] => Nat.le_refl _
  | [c] => by unfold nmR; split <;> simp
  | c :: d :: r => by
    have h1 := nmR_le (d :: r)
    have h2 := nmR_le r
    unfold nmR
    simp only [List.length_cons] at h1 ⊢
    split
    · omega
    · split <;> omega
theorem nmL_le : ∀ l, nmL l ≤ l.length
  | [] => Nat.le_refl _
  | c :: r => by
    have := nmR_le r
    rw [nmL_cons, List.length_cons]
    split <;> omega
/-- The name behind a name begins with no byte of a name. -/
theorem nmR_cat : ∀ {a b : List UInt8}, nmR a = a.length → (∀ c, b.head? = some c → isNm c = false ∧ c ≠ 45) → nmR (a ++ b) = a.length
  | [], b, _, h => by
    cases b with
    | nil => rfl
    | cons c r => exact nmR_none (h c rfl).1 (Or.inl (h c rfl).2)
  | [c], b, h0, h => by
    have hc : isNm c = true := by
      unfold nmR at h0
      split at h0
      · assumption
      · simp at h0
    rw [List.cons_append, nmR_nm _ hc, List.nil_append]
    have := nmR_cat (a := []) (b := b) rfl h
    simp at this
    rw [this]; rfl
  | c :: d :: r, b, h0, h => by
    have h1 := nmR_le (d :: r)
    have h2 := nmR_le r
    unfold nmR at h0
    simp only [List.length_cons] at h0 h1
    by_cases hc : isNm c = true
    · rw [if_pos hc] at h0
      have := nmR_cat (a := d :: r) (b := b) (by simp only [List.length_cons]; omega) h
      rw [List.cons_append, nmR_nm _ hc, this]; rfl
    · rw [if_neg hc] at h0
      by_cases hd : (c == 45 && isNm d) = true
      · rw [if_pos hd] at h0
        have := nmR_cat (a := r) (b := b) (by omega) h
        simp only [Bool.and_eq_true, beq_iff_eq] at hd
        rw [hd.1, List.cons_append, List.cons_append, nmR_minus _ hd.2, this]; rfl
      · rw [if_neg hd] at h0; omega
theorem nmR_take : ∀ l : List UInt8, nmR (l.take (nmR l)) = nmR l
  | [] => rfl
  | [c] => by
    by_cases hc : isNm c = true
    · rw [nmR_nm _ hc]; simp [nmR, hc]
    · rw [nmR_none (by simpa using hc) (Or.inr (by simp))]; rfl
  | c :: d :: r => by
    by_cases hc : isNm c = true
    · rw [nmR_nm _ hc, List.take_succ_cons, nmR_nm _ hc, nmR_take (d :: r)]
    · by_cases hd : (c == 45 && isNm d) = true
      · simp only [Bool.and_eq_true, beq_iff_eq] at hd
        rw [hd.1, nmR_minus _ hd.2, List.take_succ_cons, List.take_succ_cons, nmR_minus _ hd.2, nmR_take r]
      · have : nmR (c :: d :: r) = 0 := by
          unfold nmR; rw [if_neg hc, if_neg hd]
        rw [this]; rfl

/-! ### White space -/
def noLF (c : UInt8) : Bool := c != 10
def blL : List UInt8 → Nat
  | [] => 0
  | c :: r => if isWs c then 1 else if c == 35 then runL noLF r + 1 else 0
theorem blL_cons (c : UInt8) (r : List UInt8) : blL (c :: r) = if isWs c then 1 else if c == 35 then runL noLF r + 1 else 0 := rfl
def feeds (l : List UInt8) : Nat := l.count 10
theorem blL_le : ∀ l, blL l ≤ l.length
  | [] => Nat.le_refl _
  | c :: r => by
    have := runL_le noLF r
    rw [blL_cons, List.length_cons]
    split
    · omega
    · split <;> omega

/-! ### Numbers -/
def numB (l : List UInt8) : Bool := l != [] && decide (l.length ≤ 6) && runL isDg l == l.length && !(l.head? == some 48 && decide (1 < l.length))
def decF (a : Nat) (l : List UInt8) : Nat := l.foldl (fun a c => a * 10 + (c.toNat - 48)) a
theorem decF_nil (a : Nat) : decF a [] = a := rfl
theorem decF_cons (a : Nat) (c : UInt8) (r : List UInt8) : decF a (c :: r) = decF (a * 10 + (c.toNat - 48)) r := by unfold decF; rw [List.foldl_cons]
theorem decFrom_is : ∀ (l : List UInt8) (a : Nat), l.all isDg = true → Lib.decFrom a l = some (decF a l)
  | [], a, _ => rfl
  | c :: r, a, h => by
    simp only [List.all_cons, Bool.and_eq_true] at h
    have hc := h.1
    unfold isDg dgI at hc
    simp only [Bool.and_eq_true, decide_eq_true_eq] at hc
    have hd : Lib.digitVal c = some (c.toNat - 48) := by unfold Lib.digitVal; rw [if_pos (by omega)]
    unfold Lib.decFrom
    rw [hd, decF_cons]
    exact decFrom_is r _ h.2
theorem decF_lt {l : List UInt8} {a : Nat} (h : l.all isDg = true) : decF a l < (a + 1) * 10 ^ l.length := Lib.decFrom_lt l a _ (decFrom_is l a h)
theorem pw_le {n : Nat} (h : n ≤ 6) : 10 ^ n ≤ 1000000 := by
  have : 10 ^ n ≤ 10 ^ 6 := Nat.pow_le_pow_right (by decide) h
  omega
theorem decF_small {l : List UInt8} (h : l.all isDg = true) (hl : l.length ≤ 6) : decF 0 l < 1000000 := by
  have h1 := decF_lt (a := 0) h
  have h2 := pw_le hl
  omega
theorem atoi_is {l : List UInt8} (hne : l ≠ []) (h : l.all isDg = true) : Lib.atoi l = some (decF 0 l : Int) := by
  cases l with
  | nil => exact absurd rfl hne
  | cons c r =>
    have hc : isDg c = true := by simp only [List.all_cons, Bool.and_eq_true] at h; exact h.1
    have h1 : (c == 45) = false := by
      rw [beq_eq_false_iff_ne]; rintro rfl; exact absurd hc (by decide)
    have h2 : (c == 43) = false := by
      rw [beq_eq_false_iff_ne]; rintro rfl; exact absurd hc (by decide)
    simp only [Lib.atoi, h1, h2, Bool.false_eq_true, if_false, Lib.decNat, List.isEmpty_cons, decFrom_is _ _ h]; rfl
theorem decF_snoc (l : List UInt8) (c : UInt8) (a : Nat) : decF a (l ++ [c]) = decF a l * 10 + (c.toNat - 48) := by
  unfold decF; rw [List.foldl_append]; rfl
def numV (l : List UInt8) : Int × Bool := if numB l then ((decF 0 l : Int), true) else (0, false)
theorem num_all {l : List UInt8} (h : numB l = true) : l ≠ [] ∧ l.length ≤ 6 ∧ l.all isDg = true ∧ ¬ (l.head? = some 48 ∧ 1 < l.length) := by
  unfold numB at h
  simp only [Bool.and_eq_true, bne_iff_ne, decide_eq_true_eq, beq_iff_eq, Bool.not_eq_true', Bool.and_eq_false_imp, beq_iff_eq, decide_eq_false_iff_not] at h
  obtain ⟨⟨⟨h1, h2⟩, h3⟩, h4⟩ := h
  exact ⟨h1, h2, runL_len h3, fun ⟨a, b⟩ => h4 a b⟩
theorem numB_mk {l : List UInt8} (h1 : l ≠ []) (h2 : l.length ≤ 6) (h3 : runL isDg l = l.length) (h4 : l.head? = some 48 → l.length ≤ 1) : numB l = true := by
  unfold numB
  simp only [Bool.and_eq_true, bne_iff_ne, decide_eq_true_eq, beq_iff_eq, Bool.not_eq_true', Bool.and_eq_false_imp, decide_eq_false_iff_not]
  exact ⟨⟨⟨h1, h2⟩, h3⟩, fun h => by have := h4 h; omega⟩

/-! ### Tokens -/
structure Tok where
  k : Int
  t : List UInt8
  l : Int
def nameB (l : List UInt8) : Bool := l != [] && decide (l.length ≤ 20) && nmL l == l.length
def quoB (l : List UInt8) : Bool := decide (l.length ≤ 60) && l.all isQu
def sigB : List UInt8 → Bool
  | [c] => isSg c
  | _ => false
def rightT (k : Int) (t : List UInt8) : Bool := if k = 1 then nameB t else if k = 2 then numB t else if k = 3 then quoB t else if k = 4 then sigB t else false
def wrT (k : Int) (t : List UInt8) : List UInt8 := if k = 3 then 34 :: (t ++ [34]) else t
/-- The kind, the text, the size and the error of the first token. -/
def nxV : List UInt8 → Int × List UInt8 × Nat × Int
  | [] => (0, [], 0, 2)
  | c :: r =>
    if isSm c then (if 20 < nmL (c :: r) then (0, [], 0, 3) else (1, (c :: r).take (nmL (c :: r)), nmL (c :: r), 0))
    else if isDg c then (if 6 < runL isDg (c :: r) then (0, [], 0, 3) else if c = 48 ∧ 1 < runL isDg (c :: r) then (0, [], 0, 2) else (2, (c :: r).take (runL isDg (c :: r)), runL isDg (c :: r), 0))
    else if c = 34 then (if (r.drop (runL isQu r)).head? = some 34 then (if 60 < runL isQu r then (0, [], 0, 3) else (3, r.take (runL isQu r), runL isQu r + 2, 0)) else (0, [], 0, 2))
    else if isSg c then (4, [c], 1, 0) else (0, [], 0, 2)
theorem nxV_cons (c : UInt8) (r : List UInt8) : nxV (c :: r) =
    if isSm c then (if 20 < nmL (c :: r) then (0, [], 0, 3) else (1, (c :: r).take (nmL (c :: r)), nmL (c :: r), 0))
    else if isDg c then (if 6 < runL isDg (c :: r) then (0, [], 0, 3) else if c = 48 ∧ 1 < runL isDg (c :: r) then (0, [], 0, 2) else (2, (c :: r).take (runL isDg (c :: r)), runL isDg (c :: r), 0))
    else if c = 34 then (if (r.drop (runL isQu r)).head? = some 34 then (if 60 < runL isQu r then (0, [], 0, 3) else (3, r.take (runL isQu r), runL isQu r + 2, 0)) else (0, [], 0, 2))
    else if isSg c then (4, [c], 1, 0) else (0, [], 0, 2) := rfl
def consT (t : Tok) (x : List Tok × Int × Int) : List Tok × Int × Int := if x.2.2 = 0 then (t :: x.1, x.2) else x
def catT (a : List Tok) (x : List Tok × Int × Int) : List Tok × Int × Int := if x.2.2 = 0 then (a ++ x.1, x.2) else x
theorem catT_cons (a : List Tok) (t : Tok) (x : List Tok × Int × Int) : catT a (consT t x) = catT (a ++ [t]) x := by
  unfold catT consT
  by_cases h : x.2.2 = 0
  · rw [if_pos h, if_pos h, if_pos h]; simp
  · rw [if_neg h, if_neg h, if_neg h]
theorem catT_nil (x : List Tok × Int × Int) : catT [] x = x := by
  unfold catT; split <;> simp
def lexR (l : List UInt8) (ln : Int) : List Tok × Int × Int :=
  match l with
  | [] => ([], 0, 0)
  | c :: r =>
    if blL (c :: r) = 0 then
      if (nxV (c :: r)).2.2.2 = 0 then consT ⟨(nxV (c :: r)).1, (nxV (c :: r)).2.1, ln⟩ (lexR (r.drop ((nxV (c :: r)).2.2.1 - 1)) ln)
      else ([], ln, (nxV (c :: r)).2.2.2)
    else lexR (r.drop (blL (c :: r) - 1)) (ln + (feeds ((c :: r).take (blL (c :: r))) : Int))
termination_by l.length
decreasing_by all_goals (simp only [List.length_drop, List.length_cons]; omega)
theorem lex_nil (ln : Int) : lexR [] ln = ([], 0, 0) := by rw [lexR]
theorem lex_blank {l : List UInt8} {b : Nat} (ln : Int) (h : blL l = b) (h0 : 0 < b) : lexR l ln = lexR (l.drop b) (ln + (feeds (l.take b) : Int)) := by
  subst h
  cases l with
  | nil => simp [blL] at h0
  | cons c r =>
    rw [lexR, if_neg (by omega)]
    congr 1
    obtain ⟨m, hm⟩ : ∃ m, blL (c :: r) = m + 1 := ⟨blL (c :: r) - 1, by omega⟩
    rw [hm, List.drop_succ_cons]; rfl
theorem lex_bad {l : List UInt8} {e : Int} (ln : Int) (h0 : l ≠ []) (h : blL l = 0) (h1 : (nxV l).2.2.2 = e) (h2 : e ≠ 0) : lexR l ln = ([], ln, e) := by
  cases l with
  | nil => exact absurd rfl h0
  | cons c r => rw [lexR, if_pos h, if_neg (by rw [h1]; exact h2), h1]
theorem lex_tok {l : List UInt8} {k : Int} {t : List UInt8} {n : Nat} (ln : Int) (h : blL l = 0) (h1 : nxV l = (k, t, n, 0)) (h2 : 0 < n) : lexR l ln = consT ⟨k, t, ln⟩ (lexR (l.drop n) ln) := by
  cases l with
  | nil => simp [nxV] at h1
  | cons c r =>
    rw [lexR, if_pos h, if_pos (by rw [h1]), h1]
    obtain ⟨m, hm⟩ : ∃ m, n = m + 1 := ⟨n - 1, by omega⟩
    subst hm
    rfl
theorem isSm_nm {c : UInt8} (h : isSm c = true) : isNm c = true := by unfold isNm nmI; unfold isSm at h; rw [h]; rfl
theorem isDg_nm {c : UInt8} (h : isDg c = true) : isNm c = true := by unfold isNm nmI; unfold isDg at h; rw [h]; simp
theorem sm_dg {c : UInt8} (h : isSm c = true) : isDg c = false := by
  unfold isSm smI at h
  unfold isDg dgI
  simp only [Bool.and_eq_true, decide_eq_true_eq] at h
  simp; omega
theorem nx_nm {c : UInt8} {r : List UInt8} {n : Nat} (h : isSm c = true) (hn : nmL (c :: r) = n) (h1 : ¬ 20 < n) : nxV (c :: r) = (1, (c :: r).take n, n, 0) := by
  subst hn; rw [nxV_cons, if_pos h, if_neg h1]
theorem nx_nm_big {c : UInt8} {r : List UInt8} {n : Nat} (h : isSm c = true) (hn : nmL (c :: r) = n) (h1 : 20 < n) : nxV (c :: r) = (0, [], 0, 3) := by
  subst hn; rw [nxV_cons, if_pos h, if_pos h1]
theorem nx_dg_big {c : UInt8} {r : List UInt8} {n : Nat} (h : isSm c = false) (h1 : isDg c = true) (hn : runL isDg (c :: r) = n) (h2 : 6 < n) : nxV (c :: r) = (0, [], 0, 3) := by
  subst hn; rw [nxV_cons, if_neg (by simp [h]), if_pos h1, if_pos h2]
theorem nx_dg_zero {c : UInt8} {r : List UInt8} {n : Nat} (h : isSm c = false) (h1 : isDg c = true) (hn : runL isDg (c :: r) = n) (h2 : ¬ 6 < n) (h3 : c = 48) (h4 : 1 < n) : nxV (c :: r) = (0, [], 0, 2) := by
  subst hn; rw [nxV_cons, if_neg (by simp [h]), if_pos h1, if_neg h2, if_pos ⟨h3, h4⟩]
theorem nx_dg {c : UInt8} {r : List UInt8} {n : Nat} (h : isSm c = false) (h1 : isDg c = true) (hn : runL isDg (c :: r) = n) (h2 : ¬ 6 < n) (h3 : ¬ (c = 48 ∧ 1 < n)) : nxV (c :: r) = (2, (c :: r).take n, n, 0) := by
  subst hn; rw [nxV_cons, if_neg (by simp [h]), if_pos h1, if_neg h2, if_neg h3]
theorem nx_qu_bad {c : UInt8} {r : List UInt8} {n : Nat} (h : c = 34) (hn : runL isQu r = n) (h1 : (r.drop n).head? ≠ some 34) : nxV (c :: r) = (0, [], 0, 2) := by
  subst hn; subst h; rw [nxV_cons, if_neg (by decide), if_neg (by decide), if_pos rfl, if_neg h1]
theorem nx_qu_big {c : UInt8} {r : List UInt8} {n : Nat} (h : c = 34) (hn : runL isQu r = n) (h1 : (r.drop n).head? = some 34) (h2 : 60 < n) : nxV (c :: r) = (0, [], 0, 3) := by
  subst hn; subst h; rw [nxV_cons, if_neg (by decide), if_neg (by decide), if_pos rfl, if_pos h1, if_pos h2]
theorem nx_qu {c : UInt8} {r : List UInt8} {n : Nat} (h : c = 34) (hn : runL isQu r = n) (h1 : (r.drop n).head? = some 34) (h2 : ¬ 60 < n) : nxV (c :: r) = (3, r.take n, n + 2, 0) := by
  subst hn; subst h; rw [nxV_cons, if_neg (by decide), if_neg (by decide), if_pos rfl, if_pos h1, if_neg h2]
theorem nx_sg {c : UInt8} {r : List UInt8} (h : isSm c = false) (h1 : isDg c = false) (h2 : c ≠ 34) (h3 : isSg c = true) : nxV (c :: r) = (4, [c], 1, 0) := by
  rw [nxV_cons, if_neg (by simp [h]), if_neg (by simp [h1]), if_neg h2, if_pos h3]
theorem nx_no {c : UInt8} {r : List UInt8} (h : isSm c = false) (h1 : isDg c = false) (h2 : c ≠ 34) (h3 : isSg c = false) : nxV (c :: r) = (0, [], 0, 2) := by
  rw [nxV_cons, if_neg (by simp [h]), if_neg (by simp [h1]), if_neg h2, if_neg (by simp [h3])]
/-- What the first token is, if there is one: right, and what stands there. -/
theorem nx_right {l : List UInt8} {k : Int} {t : List UInt8} {n : Nat} (h : nxV l = (k, t, n, 0)) : rightT k t = true ∧ wrT k t = l.take n ∧ 0 < n ∧ n ≤ l.length := by
  cases l with
  | nil => simp [nxV] at h
  | cons c r =>
    rw [nxV_cons] at h
    by_cases h1 : isSm c = true
    · rw [if_pos h1] at h
      split at h
      · simp at h
      · rename_i h2
        injection h with ha hb
        injection hb with hb hc
        injection hc with hc _
        subst ha; subst hb; subst hc
        have hle := nmL_le (c :: r)
        have e : nmL (c :: r) = nmR r + 1 := by rw [nmL_cons, if_pos h1]
        refine ⟨?_, rfl, by omega, hle⟩
        show nameB _ = true
        have hl : ((c :: r).take (nmL (c :: r))).length = nmL (c :: r) := by rw [List.length_take]; omega
        unfold nameB
        rw [hl]
        simp only [Bool.and_eq_true, bne_iff_ne, decide_eq_true_eq, beq_iff_eq]
        refine ⟨⟨?_, by omega⟩, ?_⟩
        · rw [e]; simp
        · rw [e, List.take_succ_cons, nmL_cons, if_pos h1, nmR_take]
    · rw [if_neg h1] at h
      by_cases h2 : isDg c = true
      · rw [if_pos h2] at h
        split at h
        · simp at h
        · rename_i h3
          split at h
          · simp at h
          · rename_i h4
            injection h with ha hb
            injection hb with hb hc
            injection hc with hc _
            subst ha; subst hb; subst hc
            have hle := runL_le isDg (c :: r)
            have e : runL isDg (c :: r) = runL isDg r + 1 := by rw [runL, if_pos h2]
            have hl : ((c :: r).take (runL isDg (c :: r))).length = runL isDg (c :: r) := by rw [List.length_take]; omega
            refine ⟨?_, rfl, by omega, hle⟩
            show numB _ = true
            refine numB_mk ?_ (by rw [hl]; omega) ?_ ?_
            · rw [e]; simp
            · exact runL_all (runL_take _)
            · rw [hl, e]
              intro hh
              simp at hh
              subst hh
              rw [e] at h4
              simp at h4; omega
      · rw [if_neg h2] at h
        by_cases h3 : c = 34
        · rw [if_pos h3] at h
          split at h
          · rename_i h4
            split at h
            · simp at h
            · rename_i h5
              injection h with ha hb
              injection hb with hb hc
              injection hc with hc _
              subst ha; subst hb; subst hc
              have hle := runL_le isQu r
              have hlt : runL isQu r < r.length := by
                rcases Nat.lt_or_ge (runL isQu r) r.length with e | e
                · exact e
                · rw [List.drop_eq_nil_of_le e] at h4; simp at h4
              have hl : (r.take (runL isQu r)).length = runL isQu r := by rw [List.length_take]; omega
              refine ⟨?_, ?_, by omega, by simp; omega⟩
              · show quoB _ = true
                unfold quoB
                rw [hl, runL_take]
                simp; omega
              · show 34 :: (r.take (runL isQu r) ++ [34]) = _
                rw [h3, List.take_succ_cons, List.take_succ_eq_append_getElem hlt]
                have : r[runL isQu r] = 34 := by
                  rw [List.drop_eq_getElem_cons hlt] at h4
                  exact Option.some.inj h4
                rw [this]
          · simp at h
        · rw [if_neg h3] at h
          split at h
          · rename_i h4
            injection h with ha hb
            injection hb with hb hc
            injection hc with hc _
            subst ha; subst hb; subst hc
            exact ⟨h4, rfl, by omega, by simp⟩
          · simp at h
end Go.Proofs.YtfgnekbkcmpdiaaGreatDoor.K
/- Writing tokens leads back to them; what stands between tokens. Nothing here speaks of the program. -/
namespace Go.Proofs.YtfgnekbkcmpdiaaGreatDoor.K
set_option linter.unusedVariables false

/-! ### What is written is found again -/
def wsHead (r : List UInt8) : Prop := ∀ c, r.head? = some c → isWs c = true
theorem ws_cases {c : UInt8} (h : isWs c = true) : c = 32 ∨ c = 9 ∨ c = 10 ∨ c = 13 := by
  unfold isWs wsI at h
  simp only [Bool.or_eq_true, beq_iff_eq] at h
  rcases h with ((h | h) | h) | h
  · exact .inl (byte_is (n := 32) (by omega) (by decide))
  · exact .inr (.inl (byte_is (n := 9) (by omega) (by decide)))
  · exact .inr (.inr (.inl (byte_is (n := 10) (by omega) (by decide))))
  · exact .inr (.inr (.inr (byte_is (n := 13) (by omega) (by decide))))
theorem bl_zero {c : UInt8} (r : List UInt8) (h : isWs c = false) (h1 : c ≠ 35) : blL (c :: r) = 0 := by
  rw [blL_cons, if_neg (by simp [h]), if_neg (by simp [h1])]
theorem bl_ws {c : UInt8} (r : List UInt8) (h : isWs c = true) : blL (c :: r) = 1 := by
  rw [blL_cons, if_pos h]
theorem bl_com (r : List UInt8) : blL (35 :: r) = runL noLF r + 1 := by
  rw [blL_cons, if_neg (by decide), if_pos (by decide)]
theorem sm_no {c : UInt8} (h : isSm c = true) : isWs c = false ∧ c ≠ 35 := by
  constructor
  · cases hw : isWs c with
    | false => rfl
    | true => rcases ws_cases hw with rfl | rfl | rfl | rfl <;> exact absurd h (by decide)
  · rintro rfl; exact absurd h (by decide)
theorem dg_no {c : UInt8} (h : isDg c = true) : isWs c = false ∧ c ≠ 35 ∧ isSm c = false := by
  refine ⟨?_, ?_, ?_⟩
  · cases hw : isWs c with
    | false => rfl
    | true => rcases ws_cases hw with rfl | rfl | rfl | rfl <;> exact absurd h (by decide)
  · rintro rfl; exact absurd h (by decide)
  · cases hs : isSm c with
    | false => rfl
    | true => rw [sm_dg hs] at h; cases h
theorem sg_no {c : UInt8} (h : isSg c = true) : isWs c = false ∧ c ≠ 35 ∧ isSm c = false ∧ isDg c = false ∧ c ≠ 34 := by
  have hm : c ∈ signL := by unfold isSg at h; simpa using h
  have := (show ∀ c ∈ signL, isWs c = false ∧ c ≠ 35 ∧ isSm c = false ∧ isDg c = false ∧ c ≠ 34 by decide) c hm
  exact this
theorem nx_back {k : Int} {t r : List UInt8} (h : rightT k t = true) (hr : wsHead r) : nxV (wrT k t ++ r) = (k, t, (wrT k t).length, 0) ∧ blL (wrT k t ++ r) = 0 ∧ 0 < (wrT k t).length := by
  unfold rightT at h
  by_cases h1 : k = 1
  · subst h1
    rw [if_pos rfl] at h
    have e : wrT 1 t = t := rfl
    rw [e]
    unfold nameB at h
    simp only [Bool.and_eq_true, bne_iff_ne, decide_eq_true_eq, beq_iff_eq] at h
    obtain ⟨⟨h1, h2⟩, h3⟩ := h
    cases t with
    | nil => exact absurd rfl h1
    | cons c t =>
      have hc : isSm c = true := by
        cases hc : isSm c with
        | true => rfl
        | false => rw [nmL_cons, hc] at h3; simp at h3
      have h4 : nmR t = t.length := by rw [nmL_cons, if_pos hc] at h3; simpa using h3
      have h5 := nmR_cat (b := r) h4 (fun d hd => by
        rcases ws_cases (hr d hd) with rfl | rfl | rfl | rfl <;> decide)
      have h6 : nmL (c :: (t ++ r)) = (c :: t).length := by rw [nmL_cons, if_pos hc, h5]; rfl
      refine ⟨?_, ?_, by simp⟩
      · rw [List.cons_append, nx_nm hc h6 (by omega), List.length_cons, List.take_succ_cons, List.take_left]
      · rw [List.cons_append]; exact bl_zero _ (sm_no hc).1 (sm_no hc).2
  · rw [if_neg h1] at h
    by_cases h2 : k = 2
    · subst h2
      rw [if_pos rfl] at h
      have e : wrT 2 t = t := rfl
      rw [e]
      obtain ⟨h1, h2, h3, h4⟩ := num_all h
      have h5 : runL isDg (t ++ r) = t.length := by
        rw [runL_cat h3, runL_stop (fun c hc => by rcases ws_cases (hr c hc) with rfl | rfl | rfl | rfl <;> decide)]; rfl
      cases t with
      | nil => exact absurd rfl h1
      | cons c t =>
        have hc : isDg c = true := by simp only [List.all_cons, Bool.and_eq_true] at h3; exact h3.1
        refine ⟨?_, ?_, by simp⟩
        · rw [List.cons_append] at h5 ⊢
          rw [nx_dg (dg_no hc).2.2 hc h5 (by omega) (fun ⟨a, b⟩ => h4 ⟨by rw [a]; rfl, b⟩), List.length_cons, List.take_succ_cons, List.take_left]
        · rw [List.cons_append]; exact bl_zero _ (dg_no hc).1 (dg_no hc).2.1
    · rw [if_neg h2] at h
      by_cases h3 : k = 3
      · subst h3
        rw [if_pos rfl] at h
        unfold quoB at h
        simp only [Bool.and_eq_true, decide_eq_true_eq] at h
        have e : wrT 3 t ++ r = 34 :: (t ++ 34 :: r) := by unfold wrT; rw [if_pos rfl]; simp
        have el : (wrT 3 t).length = t.length + 2 := by unfold wrT; rw [if_pos rfl]; simp
        have h5 : runL isQu (t ++ 34 :: r) = t.length := by
          rw [runL_cat h.2, runL, if_neg (by decide)]; rfl
        rw [e, el]
        refine ⟨?_, bl_zero _ (by decide) (by decide), by omega⟩
        rw [nx_qu rfl h5 (by simp) (by omega), List.take_left]
      · rw [if_neg h3] at h
        by_cases h4 : k = 4
        · subst h4
          rw [if_pos rfl] at h
          have e : wrT 4 t = t := rfl
          rw [e]
          match t, h with
          | [c], h =>
            obtain ⟨a1, a2, a3, a4, a5⟩ := sg_no (c := c) h
            exact ⟨nx_sg a3 a4 a5 h, bl_zero _ a1 a2, by simp⟩
        · rw [if_neg h4] at h; cases h
theorem lex_back {k : Int} {t r : List UInt8} (ln : Int) (h : rightT k t = true) (hr : wsHead r) : lexR (wrT k t ++ r) ln = consT ⟨k, t, ln⟩ (lexR r ln) := by
  obtain ⟨h1, h2, h3⟩ := nx_back h hr
  rw [lex_tok ln h2 h1 h3, List.drop_left]

/-! ### Writing -/
def tokR (x : Tok) : Bool := rightT x.k x.t
def wrK (x : Tok) : List UInt8 := wrT x.k x.t
def joinW (L : List Tok) : List UInt8 := Lib.join (L.map wrK) [32]
def writeV (L : List Tok) : List UInt8 × Int := if L.all tokR then (if 20000 < (joinW L).length then ([], 3) else (joinW L, 0)) else ([], 1)
theorem join_two (x y : List UInt8) (r : List (List UInt8)) : Lib.join (x :: y :: r) [32] = x ++ 32 :: Lib.join (y :: r) [32] := by
  rw [Lib.join_cons, Lib.join_cons]; simp [Lib.joinTail]
theorem joinW_two (x y : Tok) (r : List Tok) : joinW (x :: y :: r) = wrK x ++ 32 :: joinW (y :: r) := join_two _ _ _
theorem joinW_one (x : Tok) : joinW [x] = wrK x := Lib.join_one _ _
theorem ws_space (r : List UInt8) : wsHead (32 :: r) := by
  intro c h; simp at h; subst h; decide
theorem ws_nil : wsHead [] := by intro c h; simp at h
theorem lex_ws {c : UInt8} (r : List UInt8) (ln : Int) (h : isWs c = true) : lexR (c :: r) ln = lexR r (ln + (feeds [c] : Int)) := by
  rw [lex_blank ln (bl_ws r h) (by omega)]; rfl
theorem lex_space (r : List UInt8) (ln : Int) : lexR (32 :: r) ln = lexR r ln := by
  rw [lex_ws r ln (by decide)]; simp [feeds]
def setL (ln : Int) (x : Tok) : Tok := ⟨x.k, x.t, ln⟩
theorem lex_join (ln : Int) : ∀ L : List Tok, L.all tokR = true → lexR (joinW L) ln = (L.map (setL ln), 0, 0)
  | [], _ => lex_nil ln
  | [x], h => by
    simp only [List.all_cons, List.all_nil, Bool.and_true] at h
    have := lex_back (r := []) ln h ws_nil
    rw [List.append_nil] at this
    rw [joinW_one]
    show lexR (wrT x.k x.t) ln = _
    rw [this, lex_nil]; rfl
  | x :: y :: r, h => by
    simp only [List.all_cons, Bool.and_eq_true] at h
    have ih := lex_join ln (y :: r) (by simp [h.2])
    rw [joinW_two]
    show lexR (wrT x.k x.t ++ 32 :: joinW (y :: r)) ln = _
    rw [lex_back ln h.1 (ws_space _), lex_space, ih]; rfl
theorem write_bad {L : List Tok} (h : L.all tokR = false) : writeV L = ([], 1) := by unfold writeV; rw [if_neg (by simp [h])]
theorem write_big {L : List Tok} (h : L.all tokR = true) (h1 : 20000 < (joinW L).length) : writeV L = ([], 3) := by unfold writeV; rw [if_pos h, if_pos h1]
theorem write_ok {L : List Tok} (h : L.all tokR = true) (h1 : ¬ 20000 < (joinW L).length) : writeV L = (joinW L, 0) := by unfold writeV; rw [if_pos h, if_neg h1]
theorem write_zero {L : List Tok} (h : (writeV L).2 = 0) : L.all tokR = true ∧ (joinW L).length ≤ 20000 := by
  unfold writeV at h
  by_cases h1 : L.all tokR = true
  · rw [if_pos h1] at h
    split at h
    · cases h
    · exact ⟨h1, by omega⟩
  · rw [if_neg h1] at h; cases h
def tokV (l : List UInt8) : List Tok × Int × Int := if 20000 < l.length then ([], 0, 3) else lexR l 1
theorem tok_big {l : List UInt8} (h : 20000 < l.length) : tokV l = ([], 0, 3) := by unfold tokV; rw [if_pos h]
theorem tok_ok {l : List UInt8} (h : ¬ 20000 < l.length) : tokV l = lexR l 1 := by unfold tokV; rw [if_neg h]
theorem tok_write {L : List Tok} (h : (writeV L).2 = 0) : tokV (writeV L).1 = (L.map (setL 1), 0, 0) := by
  obtain ⟨h1, h2⟩ := write_zero h
  rw [write_ok h1 (by omega), tok_ok (by show ¬ 20000 < (joinW L).length; omega)]
  exact lex_join 1 L h1
/-- Lengths. -/
def lenW (L : List Tok) : Nat := (L.map (fun x => (wrK x).length + 1)).sum
theorem joinW_len : ∀ L : List Tok, (joinW L).length ≤ lenW L
  | [] => by simp [joinW, Lib.join]
  | [x] => by rw [joinW_one]; simp [lenW]
  | x :: y :: r => by
    have ih := joinW_len (y :: r)
    rw [joinW_two]
    simp only [lenW, List.map_cons, List.sum_cons, List.length_append, List.length_cons] at ih ⊢
    omega
theorem wr_size {k : Int} {t : List UInt8} (h : rightT k t = true) : (wrT k t).length ≤ 62 ∧ t.length ≤ 60 := by
  unfold rightT at h
  unfold wrT
  by_cases h1 : k = 1
  · subst h1; rw [if_pos rfl] at h
    unfold nameB at h
    simp only [Bool.and_eq_true, decide_eq_true_eq] at h
    rw [if_neg (by decide)]; omega
  · rw [if_neg h1] at h
    by_cases h2 : k = 2
    · subst h2; rw [if_pos rfl] at h
      have := (num_all h).2.1
      rw [if_neg (by decide)]; omega
    · rw [if_neg h2] at h
      by_cases h3 : k = 3
      · subst h3; rw [if_pos rfl] at h
        unfold quoB at h
        simp only [Bool.and_eq_true, decide_eq_true_eq] at h
        rw [if_pos rfl]; simp; omega
      · rw [if_neg h3] at h
        by_cases h4 : k = 4
        · subst h4; rw [if_pos rfl] at h
          match t, h with
          | [c], h => simp
        · rw [if_neg h4] at h; cases h
/-- What the tokens of a text are: right, no more than the text has bytes, and short again when written. -/
theorem lex_right : ∀ (n : Nat) (l : List UInt8) (ln : Int), l.length ≤ n → (lexR l ln).2.2 = 0 → (lexR l ln).1.all tokR = true ∧ lenW (lexR l ln).1 ≤ 2 * l.length ∧ (lexR l ln).1.length ≤ l.length ∧ (lexR l ln).2.1 = 0
  | n, [], ln, _, _ => by rw [lex_nil]; simp [lenW]
  | 0, c :: r, ln, h, _ => by simp at h
  | n + 1, c :: r, ln, h, h0 => by
    by_cases hb : blL (c :: r) = 0
    · obtain ⟨k, t, m, e, hx⟩ : ∃ k t m e, nxV (c :: r) = (k, t, m, e) := ⟨_, _, _, _, rfl⟩
      by_cases he : e = 0
      · subst he
        obtain ⟨h1, h2, h3, h4⟩ := nx_right hx
        rw [lex_tok ln hb hx h3] at h0 ⊢
        have hl : ((c :: r).drop m).length ≤ n := by rw [List.length_drop]; omega
        have hz : (lexR ((c :: r).drop m) ln).2.2 = 0 := by
          unfold consT at h0
          split at h0
          · assumption
          · exact h0
        obtain ⟨i1, i2, i3, i4⟩ := lex_right n _ ln hl hz
        have hw : (wrT k t).length = m := by rw [h2, List.length_take]; omega
        unfold consT
        rw [if_pos hz]
        rw [List.length_drop] at i2 i3
        refine ⟨?_, ?_, ?_, i4⟩
        · simp only [List.all_cons, Bool.and_eq_true]; exact ⟨h1, i1⟩
        · simp only [lenW, List.map_cons, List.sum_cons] at i2 ⊢
          show (wrT k t).length + 1 + _ ≤ _
          omega
        · simp only [List.length_cons] at i3 ⊢; omega
      · rw [lex_bad ln (by simp) hb (by rw [hx]) he] at h0
        exact absurd h0 he
    · have hle := blL_le (c :: r)
      rw [lex_blank ln rfl (by omega)] at h0 ⊢
      have hl : ((c :: r).drop (blL (c :: r))).length ≤ n := by rw [List.length_drop]; omega
      obtain ⟨i1, i2, i3, i4⟩ := lex_right n _ _ hl h0
      rw [List.length_drop] at i2 i3
      exact ⟨i1, by omega, by omega, i4⟩
theorem lex_none : ∀ (n : Nat) (l : List UInt8) (ln : Int), l.length ≤ n → (lexR l ln).2.2 ≠ 0 → (lexR l ln).1 = []
  | n, [], ln, _, h => by rw [lex_nil] at h; exact absurd rfl h
  | 0, c :: r, ln, h, _ => by simp at h
  | n + 1, c :: r, ln, h, h0 => by
    by_cases hb : blL (c :: r) = 0
    · obtain ⟨k, t, m, e, hx⟩ : ∃ k t m e, nxV (c :: r) = (k, t, m, e) := ⟨_, _, _, _, rfl⟩
      by_cases he : e = 0
      · subst he
        obtain ⟨h1, h2, h3, h4⟩ := nx_right hx
        rw [lex_tok ln hb hx h3] at h0 ⊢
        have hl : ((c :: r).drop m).length ≤ n := by rw [List.length_drop]; omega
        unfold consT at h0 ⊢
        by_cases hz : (lexR ((c :: r).drop m) ln).2.2 = 0
        · rw [if_pos hz] at h0; exact absurd hz h0
        · rw [if_neg hz]; exact lex_none n _ ln hl hz
      · rw [lex_bad ln (by simp) hb (by rw [hx]) he]
    · rw [lex_blank ln rfl (by omega)] at h0 ⊢
      have hl : ((c :: r).drop (blL (c :: r))).length ≤ n := by rw [List.length_drop]; omega
      exact lex_none n _ _ hl h0
theorem tok_right {l : List UInt8} (h : (tokV l).2.2 = 0) : (tokV l).1.all tokR = true ∧ (joinW (tokV l).1).length ≤ 2 * l.length ∧ (tokV l).1.length ≤ l.length ∧ (tokV l).2.1 = 0 := by
  unfold tokV at h ⊢
  by_cases hb : 20000 < l.length
  · rw [if_pos hb] at h; cases h
  · rw [if_neg hb] at h ⊢
    obtain ⟨h1, h2, h3, h4⟩ := lex_right _ l 1 (Nat.le_refl _) h
    exact ⟨h1, Nat.le_trans (joinW_len _) h2, h3, h4⟩
theorem tok_none {l : List UInt8} (h : (tokV l).2.2 ≠ 0) : (tokV l).1 = [] := by
  unfold tokV at h ⊢
  by_cases hb : 20000 < l.length
  · rw [if_pos hb]
  · rw [if_neg hb] at h ⊢
    exact lex_none _ l 1 (Nat.le_refl _) h
theorem tok_len (l : List UInt8) : (tokV l).1.length ≤ l.length := by
  by_cases h : (tokV l).2.2 = 0
  · exact (tok_right h).2.2.1
  · rw [tok_none h]; simp

/-! ### What stands between tokens -/
def btw (i : Nat) : List UInt8 := if i = 0 then [32] else if i = 1 then [10] else if i = 2 then [9, 35, 32, 97, 32, 34, 99, 111, 109, 109, 101, 110, 116, 10] else [32, 13, 10, 10, 32]
theorem btw_head (i : Nat) (r : List UInt8) : wsHead (btw i ++ r) := by
  intro c h
  unfold btw at h
  split at h
  · simp at h; subst h; decide
  · split at h
    · simp at h; subst h; decide
    · split at h
      · simp at h; subst h; decide
      · simp at h; subst h; decide
theorem btw_len (i : Nat) : (btw i).length ≤ 14 ∧ feeds (btw i) ≤ 2 := by
  unfold btw
  split
  · decide
  · split
    · decide
    · split <;> decide
theorem lex_btw (i : Nat) (r : List UInt8) (ln : Int) : lexR (btw i ++ r) ln = lexR r (ln + (feeds (btw i) : Int)) := by
  unfold btw
  split
  · rw [List.cons_append, lex_ws _ _ (by decide)]; rfl
  · split
    · rw [List.cons_append, lex_ws _ _ (by decide)]; rfl
    · split
      · rw [List.cons_append, lex_ws _ _ (by decide), List.cons_append]
        have hb : blL (35 :: ([32, 97, 32, 34, 99, 111, 109, 109, 101, 110, 116, 10] ++ r)) = 12 := by
          rw [bl_com]
          have e : ([32, 97, 32, 34, 99, 111, 109, 109, 101, 110, 116, 10] ++ r : List UInt8) = [32, 97, 32, 34, 99, 111, 109, 109, 101, 110, 116] ++ 10 :: r := rfl
          rw [e, runL_cat (by decide), runL, if_neg (by decide)]; rfl
        rw [lex_blank _ hb (by omega)]
        show lexR (10 :: r) _ = _
        rw [lex_ws _ _ (by decide)]
        congr 1
        show ln + ((feeds [9] : Nat) : Int) + ((feeds [35, 32, 97, 32, 34, 99, 111, 109, 109, 101, 110, 116] : Nat) : Int) + ((feeds [10] : Nat) : Int) = _
        rw [show feeds [9] = 0 from by decide, show feeds [35, 32, 97, 32, 34, 99, 111, 109, 109, 101, 110, 116] = 0 from by decide, show feeds [10] = 1 from by decide, show feeds [9, 35, 32, 97, 32, 34, 99, 111, 109, 109, 101, 110, 116, 10] = 1 from by decide]
        omega
      · rw [List.cons_append, lex_ws _ _ (by decide), List.cons_append, lex_ws _ _ (by decide), List.cons_append, lex_ws _ _ (by decide), List.cons_append, lex_ws _ _ (by decide), List.cons_append, lex_ws _ _ (by decide)]
        show lexR r _ = _
        congr 1
        rw [show feeds [32] = 0 from by decide, show feeds [13] = 0 from by decide, show feeds [10] = 1 from by decide, show feeds [32, 13, 10, 10, 32] = 2 from by decide]
        omega
/-- The line behind n tokens, the text of n tokens, and the tokens with their lines. -/
def lnN (f : Nat → Nat) : Nat → Int
  | 0 => 1
  | n + 1 => lnN f n + (feeds (btw (f n)) : Int)
def spN (f : Nat → Nat) (L : List Tok) : Nat → List UInt8
  | 0 => []
  | n + 1 => spN f L n ++ (btw (f n) ++ (L[n]?.elim [] wrK))
def tkN (f : Nat → Nat) (L : List Tok) : Nat → List Tok
  | 0 => []
  | n + 1 => tkN f L n ++ (L[n]?.elim [] fun x => [setL (lnN f (n + 1)) x])
theorem lex_sp (f : Nat → Nat) (L : List Tok) (hL : L.all tokR = true) : ∀ (n : Nat), n ≤ L.length → ∀ r, wsHead r → lexR (spN f L n ++ r) 1 = catT (tkN f L n) (lexR r (lnN f n))
  | 0, _, r, _ => by
    show lexR r 1 = catT [] _
    rw [catT_nil]; rfl
  | n + 1, h, r, hr => by
    have hn : n < L.length := by omega
    have hx : L[n]? = some L[n] := List.getElem?_eq_getElem hn
    have hr2 : rightT L[n].k L[n].t = true := List.all_eq_true.1 hL _ (List.getElem_mem hn)
    unfold spN tkN
    rw [hx]
    show lexR (spN f L n ++ (btw (f n) ++ wrT L[n].k L[n].t) ++ r) 1 = catT (tkN f L n ++ [setL (lnN f (n + 1)) L[n]]) _
    rw [List.append_assoc, List.append_assoc, lex_sp f L hL n (by omega) _ (btw_head _ _), lex_btw, lex_back _ hr2 hr, catT_cons]
    rfl
theorem sp_lex (f : Nat → Nat) {L : List Tok} (hL : L.all tokR = true) : lexR (spN f L L.length) 1 = (tkN f L L.length, 0, 0) := by
  have := lex_sp f L hL _ (Nat.le_refl _) [] ws_nil
  rw [List.append_nil, lex_nil] at this
  rw [this]; simp [catT]
theorem tkN_len (f : Nat → Nat) (L : List Tok) : ∀ n, n ≤ L.length → (tkN f L n).length = n
  | 0, _ => rfl
  | n + 1, h => by
    unfold tkN
    rw [List.getElem?_eq_getElem (show n < L.length by omega)]
    simp [tkN_len f L n (by omega)]
theorem tkN_at (f : Nat → Nat) (L : List Tok) : ∀ n, n ≤ L.length → ∀ j (hj : j < n) (h2 : j < L.length), (tkN f L n)[j]? = some (setL (lnN f (j + 1)) L[j])
  | 0, _, j, hj, _ => by omega
  | n + 1, h, j, hj, h2 => by
    have hl := tkN_len f L n (by omega)
    unfold tkN
    rw [List.getElem?_eq_getElem (show n < L.length by omega)]
    by_cases e : j = n
    · subst e
      rw [List.getElem?_append_right (by omega), hl]; simp
    · rw [List.getElem?_append_left (by omega)]
      exact tkN_at f L n (by omega) j (by omega) h2
theorem lnN_le (f : Nat → Nat) : ∀ n, 0 ≤ lnN f n ∧ lnN f n ≤ 2 * (n : Int) + 1
  | 0 => by simp [lnN]
  | n + 1 => by
    have := lnN_le f n
    have h2 := (btw_len (f n)).2
    unfold lnN
    omega
theorem spN_len (f : Nat → Nat) (L : List Tok) (hL : L.all tokR = true) : ∀ n, n ≤ L.length → (spN f L n).length ≤ 76 * n
  | 0, _ => by simp [spN]
  | n + 1, h => by
    have ih := spN_len f L hL n (by omega)
    have hn : n < L.length := by omega
    have h1 := (btw_len (f n)).1
    have h2 := (wr_size (List.all_eq_true.1 hL _ (List.getElem_mem hn))).1
    unfold spN
    rw [List.getElem?_eq_getElem hn]
    simp only [Option.elim, List.length_append]
    show _ + (_ + (wrT L[n].k L[n].t).length) ≤ _
    omega
end Go.Proofs.YtfgnekbkcmpdiaaGreatDoor.K
/- Contracts of the small functions of both sides: bytes, runs of bytes, names, quotes. -/
namespace Go.Proofs.YtfgnekbkcmpdiaaGreatDoor.K
open Go.RowKit
set_option linter.unusedVariables false

set_option maxHeartbeats 400000 in
theorem small_any (n : Int) (w : World) (h0 : 0 ≤ n) (h1 : n ≤ 255) :
    Calls Tryz.prog 69 #[.int .u8 n] w fun e w' => e = .returned (.bool (smI n)) ∧ w = w' := by
  by_cases a : 97 ≤ n
  · by_cases b : n ≤ 122
    · have HP := Lib.hid (show smI n = true by simp [smI, a, b])
      go_enter Tryz.func69, Tryz.ntmps69
      go_wp2
      go_ret
      exact ⟨ret_bool (by rw [HP.out]), rfl⟩
    · have HP := Lib.hid (show smI n = false by simp [smI]; omega)
      go_enter Tryz.func69, Tryz.ntmps69
      go_wp2
      go_ret
      exact ⟨ret_bool (by rw [HP.out]), rfl⟩
  · have HP := Lib.hid (show smI n = false by simp [smI]; omega)
    go_enter Tryz.func69, Tryz.ntmps69
    go_wp2
    go_ret
    exact ⟨ret_bool (by rw [HP.out]), rfl⟩

set_option maxHeartbeats 400000 in
theorem digit_any (n : Int) (w : World) (h0 : 0 ≤ n) (h1 : n ≤ 255) :
    Calls Tryz.prog 89 #[.int .u8 n] w fun e w' => e = .returned (.bool (dgI n)) ∧ w = w' := by
  by_cases a : 48 ≤ n
  · by_cases b : n ≤ 57
    · have HP := Lib.hid (show dgI n = true by simp [dgI, a, b])
      go_enter Tryz.func89, Tryz.ntmps89
      go_wp2
      go_ret
      exact ⟨ret_bool (by rw [HP.out]), rfl⟩
    · have HP := Lib.hid (show dgI n = false by simp [dgI]; omega)
      go_enter Tryz.func89, Tryz.ntmps89
      go_wp2
      go_ret
      exact ⟨ret_bool (by rw [HP.out]), rfl⟩
  · have HP := Lib.hid (show dgI n = false by simp [dgI]; omega)
    go_enter Tryz.func89, Tryz.ntmps89
    go_wp2
    go_ret
    exact ⟨ret_bool (by rw [HP.out]), rfl⟩

set_option maxHeartbeats 400000 in
theorem rsmall_any (n : Int) (w : World) (h0 : 0 ≤ n) (h1 : n ≤ 255) :
    Calls Tryz.prog 75 #[.int .u8 n] w fun e w' => e = .returned (.bool (smI n)) ∧ w = w' := by
  by_cases a : 97 ≤ n
  · by_cases b : n ≤ 122
    · have HP := Lib.hid (show smI n = true by simp [smI, a, b])
      go_enter Tryz.func75, Tryz.ntmps75
      go_wp2
      go_ret
      exact ⟨ret_bool (by rw [HP.out]), rfl⟩
    · have HP := Lib.hid (show smI n = false by simp [smI]; omega)
      go_enter Tryz.func75, Tryz.ntmps75
      go_wp2
      go_ret
      exact ⟨ret_bool (by rw [HP.out]), rfl⟩
  · have HP := Lib.hid (show smI n = false by simp [smI]; omega)
    go_enter Tryz.func75, Tryz.ntmps75
    go_wp2
    go_ret
    exact ⟨ret_bool (by rw [HP.out]), rfl⟩

set_option maxHeartbeats 400000 in
theorem rdigit_any (n : Int) (w : World) (h0 : 0 ≤ n) (h1 : n ≤ 255) :
    Calls Tryz.prog 76 #[.int .u8 n] w fun e w' => e = .returned (.bool (dgI n)) ∧ w = w' := by
  by_cases a : 48 ≤ n
  · by_cases b : n ≤ 57
    · have HP := Lib.hid (show dgI n = true by simp [dgI, a, b])
      go_enter Tryz.func76, Tryz.ntmps76
      go_wp2
      go_ret
      exact ⟨ret_bool (by rw [HP.out]), rfl⟩
    · have HP := Lib.hid (show dgI n = false by simp [dgI]; omega)
      go_enter Tryz.func76, Tryz.ntmps76
      go_wp2
      go_ret
      exact ⟨ret_bool (by rw [HP.out]), rfl⟩
  · have HP := Lib.hid (show dgI n = false by simp [dgI]; omega)
    go_enter Tryz.func76, Tryz.ntmps76
    go_wp2
    go_ret
    exact ⟨ret_bool (by rw [HP.out]), rfl⟩

set_option maxHeartbeats 400000 in
theorem named_any (n : Int) (w : World) (h0 : 0 ≤ n) (h1 : n ≤ 255) :
    Calls Tryz.prog 70 #[.int .u8 n] w fun e w' => e = .returned (.bool (nmI n)) ∧ w = w' := by
  cases a : smI n with
  | true =>
    have HA := Lib.hid a
    have HP := Lib.hid (show nmI n = true by unfold nmI; rw [a]; rfl)
    clear a
    go_enter Tryz.func70, Tryz.ntmps70
    go_wp2_with fail
    refine (small_any _ _ (by omega) (by omega)).mono ?_
    rintro e w' ⟨rfl, rfl⟩
    rw [HA.out]
    go_wp2_with fail
    go_ret
    exact ⟨ret_bool (by rw [HP.out]), rfl⟩
  | false =>
    have HA := Lib.hid a
    have HP := Lib.hid (show nmI n = dgI n by unfold nmI; rw [a]; rfl)
    clear a
    go_enter Tryz.func70, Tryz.ntmps70
    go_wp2_with fail
    refine (small_any _ _ (by omega) (by omega)).mono ?_
    rintro e w' ⟨rfl, rfl⟩
    rw [HA.out]
    go_wp2_with fail
    refine (digit_any _ _ (by omega) (by omega)).mono ?_
    rintro e w' ⟨rfl, rfl⟩
    go_wp2_with fail
    go_ret
    exact ⟨ret_bool (by rw [HP.out]), rfl⟩

theorem idx_none {l : List UInt8} {c : UInt8} (h : c ∉ l) : Lib.indexByte l c = -1 := by
  induction l with
  | nil => rfl
  | cons b l ih =>
    have h1 : b ≠ c := fun e => h (by simp [e])
    have h2 := ih (fun hm => h (List.mem_cons_of_mem _ hm))
    unfold Lib.indexByte
    simp [h1, h2]
theorem idx_some {l : List UInt8} {c : UInt8} (h : c ∈ l) : 0 ≤ Lib.indexByte l c := by
  induction l with
  | nil => cases h
  | cons b l ih =>
    unfold Lib.indexByte
    by_cases h1 : b = c
    · simp [h1]
    · have h2 := ih (by rcases List.mem_cons.1 h with e | e; exact absurd e.symm h1; exact e)
      rw [if_neg (by simpa using h1), if_neg (by simp; omega)]; omega
theorem idxb_any (s : ByteArray) (c : Int) (w : World) : Calls Tryz.prog 99 #[.string s, .int .u8 c] w fun e w' => e = .returned (.int .i64 (Lib.indexByte s.data.toList c.toNat.toUInt8)) ∧ w = w' :=
  (Tryz.strings_IndexByte s c w).mono fun _ _ ⟨a, b⟩ => ⟨a, b.symm⟩
theorem sg_idx (n : Int) : sgI n = decide (0 ≤ Lib.indexByte signL n.toNat.toUInt8) := by
  unfold sgI isSg
  rw [Bool.eq_iff_iff, List.contains_iff_mem, decide_eq_true_eq]
  constructor
  · exact idx_some
  · intro h
    rcases Classical.em (n.toNat.toUInt8 ∈ signL) with h1 | h1
    · exact h1
    · rw [idx_none h1] at h; omega
def SG : ByteArray := ⟨#[123, 125, 40, 41, 91, 93, 47, 59, 58, 126, 64, 61, 94, 44, 46, 124, 43, 42, 60, 62, 45]⟩
theorem SG_at {k : Nat} (h : k < 21) : (SG[k]'h) = signL[k]'h := rfl
theorem sg_yes {k : Nat} {n : Int} (h : k < 21) (hq : (((SG[k]'h).toNat : Int) == n) = true) : sgI n = true := by
  have e : ((SG[k]'h).toNat : Int) = n := by simpa using hq
  rw [← e, sg_int, SG_at h]
  unfold isSg
  exact List.contains_iff_mem.2 (List.getElem_mem h)
theorem sg_not {n : Int} (hn : ∀ j, (hj : j < 21) → ((SG[j]'hj).toNat : Int) ≠ n) (h0 : 0 ≤ n) (h1 : n ≤ 255) : sgI n = false := by
  unfold sgI isSg
  rw [Bool.eq_false_iff]
  intro h
  have hm := List.contains_iff_mem.1 h
  obtain ⟨j, hj, e⟩ := List.mem_iff_getElem.1 hm
  have hj' : j < 21 := hj
  apply hn j hj'
  have e2 : (SG[j]'hj').toNat = (n.toNat.toUInt8).toNat := congrArg UInt8.toNat ((SG_at hj').trans e)
  rw [e2]
  simp
  omega
end Go.Proofs.YtfgnekbkcmpdiaaGreatDoor.K
/- Contracts of both sides: runs of digits and of bytes that may stand in quotes, names, line feeds. -/
namespace Go.Proofs.YtfgnekbkcmpdiaaGreatDoor.K
open Go.RowKit
set_option linter.unusedVariables false

theorem run_stop {p : UInt8 → Bool} {s : ByteArray} {k : Nat} (hk : k < s.size) (h : (s.data.toList.take k).all p = true) (h1 : p s[k] = false) : runL p s.data.toList = k := by
  have e : s.data.toList = s.data.toList.take k ++ s.data.toList.drop k := (List.take_append_drop _ _).symm
  rw [e, runL_cat h, dropS hk, runL, if_neg (by simp [h1]), List.length_take, sizeB]
  omega
theorem run_end {p : UInt8 → Bool} {s : ByteArray} {k : Nat} (hk : s.size ≤ k) (h : (s.data.toList.take k).all p = true) : runL p s.data.toList = s.size := by
  rw [takeAll hk] at h
  rw [runL_all h, sizeB]
theorem run_step {p : UInt8 → Bool} {s : ByteArray} {k : Nat} (hk : k < s.size) (h : (s.data.toList.take k).all p = true) (h1 : p s[k] = true) : (s.data.toList.take (k + 1)).all p = true := by
  rw [takeS hk, List.all_append, h]; simp [h1]

set_option maxHeartbeats 400000 in
theorem dsize_any (s : ByteArray) (w : World) (hs : s.size ≤ maxLen) :
    Calls Tryz.prog 87 #[.string s] w fun e w' => e = .returned (.int .i64 (runL isDg s.data.toList : Nat)) ∧ w = w' := by
  unfold maxLen at hs
  go_enter Tryz.func87, Tryz.ntmps87
  go_wp2
  go_loop [3] (fun i => ∃ k : Nat, k ≤ s.size ∧ i = .int .i64 k ∧ (s.data.toList.take k).all isDg = true) (fun i => s.size - (intOf i).toNat)
  case atStart => exact ⟨0, Nat.zero_le _, rfl, rfl⟩
  case round =>
    obtain ⟨k, hk, rfl, hok⟩ := hrel
    have HOK := Lib.hid hok
    clear hok
    by_cases hlt : k < s.size
    · have hb : (s[k].toNat : Int) ≤ 255 := by have := s[k].toNat_lt; omega
      cases hi : dgI (s[k].toNat : Int) with
      | true =>
        have HI := Lib.hid hi
        clear hi
        go_wp2_with (go_at_call 89; refine (digit_any _ _ (by omega) (by omega)).mono ?_; rintro e w' ⟨rfl, rfl⟩; rw [HI.out])
        go_round
        case rel => exact ⟨k + 1, by omega, by go_num, run_step hlt HOK.out HI.out⟩
        case measure => simp [intOf]; omega
      | false =>
        have HI := Lib.hid hi
        clear hi
        go_wp2_with (go_at_call 89; refine (digit_any _ _ (by omega) (by omega)).mono ?_; rintro e w' ⟨rfl, rfl⟩; rw [HI.out])
        go_ret
        exact ⟨ret_int (by rw [run_stop hlt HOK.out HI.out]), rfl⟩
    · go_wp2
      go_ret
      exact ⟨ret_int (by rw [run_end (by omega) HOK.out]; omega), rfl⟩

set_option maxHeartbeats 400000 in
theorem rdigits_any (s : ByteArray) (w : World) (hs : s.size ≤ maxLen) :
    Calls Tryz.prog 68 #[.string s] w fun e w' => e = .returned (.int .i64 (runL isDg s.data.toList : Nat)) ∧ w = w' := by
  unfold maxLen at hs
  go_enter Tryz.func68, Tryz.ntmps68
  go_wp2
  go_loop [3] (fun i => ∃ k : Nat, k ≤ s.size ∧ i = .int .i64 k ∧ (s.data.toList.take k).all isDg = true) (fun i => s.size - (intOf i).toNat)
  case atStart => exact ⟨0, Nat.zero_le _, rfl, rfl⟩
  case round =>
    obtain ⟨k, hk, rfl, hok⟩ := hrel
    have HOK := Lib.hid hok
    clear hok
    by_cases hlt : k < s.size
    · have hb : (s[k].toNat : Int) ≤ 255 := by have := s[k].toNat_lt; omega
      cases hi : dgI (s[k].toNat : Int) with
      | true =>
        have HI := Lib.hid hi
        clear hi
        go_wp2_with (go_at_call 76; refine (rdigit_any _ _ (by omega) (by omega)).mono ?_; rintro e w' ⟨rfl, rfl⟩; rw [HI.out])
        go_round
        case rel => exact ⟨k + 1, by omega, by go_num, run_step hlt HOK.out HI.out⟩
        case measure => simp [intOf]; omega
      | false =>
        have HI := Lib.hid hi
        clear hi
        go_wp2_with (go_at_call 76; refine (rdigit_any _ _ (by omega) (by omega)).mono ?_; rintro e w' ⟨rfl, rfl⟩; rw [HI.out])
        go_ret
        exact ⟨ret_int (by rw [run_stop hlt HOK.out HI.out]), rfl⟩
    · go_wp2
      go_ret
      exact ⟨ret_int (by rw [run_end (by omega) HOK.out]; omega), rfl⟩

theorem feeds_step {s : ByteArray} {k : Nat} (hk : k < s.size) : feeds (s.data.toList.take (k + 1)) = feeds (s.data.toList.take k) + (if (s[k].toNat : Int) = 10 then 1 else 0) := by
  unfold feeds
  rw [takeS hk, List.count_append]
  by_cases h : (s[k].toNat : Int) = 10
  · have e : s[k] = 10 := byte_is (n := 10) (by omega) (by decide)
    rw [if_pos h, e]; rfl
  · rw [if_neg h]
    have : s[k] ≠ 10 := byte_ne (n := 10) h (by decide)
    simp [this]
theorem feeds_le {s : ByteArray} {k : Nat} : feeds (s.data.toList.take k) ≤ k := by
  unfold feeds
  have := List.count_le_length (a := (10 : UInt8)) (l := s.data.toList.take k)
  rw [List.length_take] at this; omega
/-- Behind k bytes of a name that begins: nothing is lost. -/
def NmAt (s : ByteArray) (k : Nat) : Prop := nmL s.data.toList = k + nmR (s.data.toList.drop k)
theorem nm_start {s : ByteArray} (h : 0 < s.size) (h1 : isSm s[0] = true) : NmAt s 1 := by
  unfold NmAt
  have := dropS h
  rw [List.drop_zero] at this
  rw [this, nmL_cons, if_pos h1, List.drop_succ_cons, List.drop_zero]; omega
theorem nm_none {s : ByteArray} (h : 0 < s.size) (h1 : isSm s[0] = false) : nmL s.data.toList = 0 := by
  have := dropS h
  rw [List.drop_zero] at this
  rw [this, nmL_cons, if_neg (by simp [h1])]
theorem nm_step {s : ByteArray} {k : Nat} (hk : k < s.size) (h : NmAt s k) (h1 : isNm s[k] = true) : NmAt s (k + 1) := by
  unfold NmAt at *
  rw [h, dropS hk, nmR_nm _ h1]; omega
theorem nm_step2 {s : ByteArray} {k : Nat} (hk : k + 1 < s.size) (h : NmAt s k) (h1 : (s[k].toNat : Int) = 45) (h2 : isNm s[k + 1] = true) : NmAt s (k + 2) := by
  unfold NmAt at *
  have e : s[k] = 45 := byte_is (n := 45) (by omega) (by decide)
  rw [h, dropS (show k < s.size by omega), dropS hk, e, nmR_minus _ h2]
  show k + (nmR (s.data.toList.drop (k + 1 + 1)) + 2) = k + 2 + nmR (s.data.toList.drop (k + 1 + 1))
  omega
theorem nm_stop {s : ByteArray} {k : Nat} (hk : k < s.size) (h : NmAt s k) (h1 : isNm s[k] = false) (h2 : (s[k].toNat : Int) ≠ 45) : nmL s.data.toList = k := by
  unfold NmAt at h
  rw [h, dropS hk, nmR_none h1 (Or.inl (byte_ne (n := 45) h2 (by decide)))]; omega
theorem nm_stop2 {s : ByteArray} {k : Nat} (hk : k < s.size) (h : NmAt s k) (h1 : isNm s[k] = false) (h2 : s.size ≤ k + 1) : nmL s.data.toList = k := by
  unfold NmAt at h
  rw [h, dropS hk, nmR_none h1 (Or.inr (by rw [dropE h2]; simp))]; omega
theorem nm_stop3 {s : ByteArray} {k : Nat} (hk : k + 1 < s.size) (h : NmAt s k) (h1 : isNm s[k] = false) (h2 : isNm s[k + 1] = false) : nmL s.data.toList = k := by
  unfold NmAt at h
  rw [h, dropS (show k < s.size by omega), nmR_none h1 (Or.inr (by rw [dropS hk]; intro d hd; simp at hd; subst hd; exact h2))]; omega
theorem nm_end {s : ByteArray} {k : Nat} (hk : s.size ≤ k) (h : NmAt s k) : nmL s.data.toList = k := by
  unfold NmAt at h
  rw [h, dropE hk]; rfl
theorem nm_empty {s : ByteArray} (h : s.size = 0) : nmL s.data.toList = 0 := by
  rw [List.eq_nil_of_length_eq_zero (show s.data.toList.length = 0 from h)]; rfl
theorem empty_list {s : ByteArray} (h : s.size = 0) : s.toList = [] ∧ s.toList.isEmpty = true := by
  have h1 : s.toList = [] := by
    rw [ByteArray.toList_eq]
    exact List.eq_nil_of_length_eq_zero h
  exact ⟨h1, by rw [h1]; rfl⟩
theorem full_list {s : ByteArray} (h : ¬ s.size = 0) : s.toList.isEmpty = false := by
  rw [ByteArray.toList_eq]
  cases e : s.data.toList with
  | nil => exact absurd (show s.data.toList.length = 0 by rw [e]; rfl) h
  | cons => rfl

set_option maxHeartbeats 1000000 in
theorem nsize_any (s : ByteArray) (w : World) (hs : s.size ≤ maxLen) :
    Calls Tryz.prog 49 #[.string s] w fun e w' => e = .returned (.int .i64 (nmL s.data.toList : Nat)) ∧ w = w' := by
  unfold maxLen at hs
  by_cases h0 : s.size = 0
  · have HE := Lib.hid (nm_empty h0)
    have hx := (empty_list h0).2
    clear h0
    go_enter Tryz.func49, Tryz.ntmps49
    go_wp2
    go_ret
    exact ⟨ret_int (by rw [HE.out]; rfl), rfl⟩
  · have hx := full_list h0
    have hlt0 : 0 < s.size := by omega
    have hb0 : (s[0].toNat : Int) ≤ 255 := by have := s[0].toNat_lt; omega
    cases hsm : smI (s[0].toNat : Int) with
    | false =>
      have HSM := Lib.hid hsm
      have HE := Lib.hid (nm_none hlt0 hsm)
      clear h0 hsm
      go_enter Tryz.func49, Tryz.ntmps49
      go_wp2_with (go_at_call 69; refine (small_any _ _ (by omega) (by omega)).mono ?_; rintro e w' ⟨rfl, rfl⟩; rw [HSM.out])
      go_ret
      exact ⟨ret_int (by rw [HE.out]; rfl), rfl⟩
    | true =>
      have HSM := Lib.hid hsm
      have HS := Lib.hid (nm_start hlt0 hsm)
      clear h0 hsm
      go_enter Tryz.func49, Tryz.ntmps49
      go_wp2_with (go_at_call 69; refine (small_any _ _ (by omega) (by omega)).mono ?_; rintro e w' ⟨rfl, rfl⟩; rw [HSM.out])
      go_loop [3] (fun i => ∃ k : Nat, k ≤ s.size ∧ i = .int .i64 k ∧ NmAt s k) (fun i => s.size - (intOf i).toNat)
      case atStart => exact ⟨1, by omega, rfl, HS.out⟩
      case round =>
        obtain ⟨k, hk, rfl, hat⟩ := hrel
        have HAT := Lib.hid hat
        clear hat
        by_cases hlt : k < s.size
        · have hb : (s[k].toNat : Int) ≤ 255 := by have := s[k].toNat_lt; omega
          cases hi : nmI (s[k].toNat : Int) with
          | true =>
            have HI := Lib.hid hi
            clear hi
            go_wp2_with (go_at_call 70; refine (named_any _ _ (by omega) (by omega)).mono ?_; rintro e w' ⟨rfl, rfl⟩; rw [HI.out])
            go_round
            case rel => exact ⟨k + 1, by omega, by go_num, nm_step hlt HAT.out HI.out⟩
            case measure => simp [intOf]; omega
          | false =>
            have HI := Lib.hid hi
            clear hi
            by_cases h45 : (s[k].toNat : Int) = 45
            · by_cases hl2 : k + 1 < s.size
              · have hb2 : (s[k + 1].toNat : Int) ≤ 255 := by have := s[k + 1].toNat_lt; omega
                cases hi2 : nmI (s[k + 1].toNat : Int) with
                | true =>
                  have HI2 := Lib.hid hi2
                  have H45 := Lib.hid h45
                  clear hi2
                  go_wp2_with fail
                  refine (named_any _ _ (by omega) (by omega)).mono ?_
                  rintro e w' ⟨rfl, rfl⟩
                  rw [show nmI 45 = false from rfl]
                  go_wp2_with fail
                  refine (named_any _ _ (by omega) (by omega)).mono ?_
                  rintro e w' ⟨rfl, rfl⟩
                  rw [HI2.out]
                  go_wp2_with fail
                  go_round
                  case rel => exact ⟨k + 2, by omega, by go_num, nm_step2 hl2 HAT.out H45.out HI2.out⟩
                  case measure => simp [intOf]; omega
                | false =>
                  have HI2 := Lib.hid hi2
                  clear hi2
                  go_wp2_with fail
                  refine (named_any _ _ (by omega) (by omega)).mono ?_
                  rintro e w' ⟨rfl, rfl⟩
                  rw [show nmI 45 = false from rfl]
                  go_wp2_with fail
                  refine (named_any _ _ (by omega) (by omega)).mono ?_
                  rintro e w' ⟨rfl, rfl⟩
                  rw [HI2.out]
                  go_wp2_with fail
                  go_ret
                  exact ⟨ret_int (by rw [nm_stop3 hl2 HAT.out HI.out HI2.out]), rfl⟩
              · go_wp2_with fail
                refine (named_any _ _ (by omega) (by omega)).mono ?_
                rintro e w' ⟨rfl, rfl⟩
                rw [show nmI 45 = false from rfl]
                go_wp2_with fail
                go_ret
                exact ⟨ret_int (by rw [nm_stop2 hlt HAT.out HI.out (by omega)]), rfl⟩
            · have H45 := Lib.hid h45
              go_wp2_with fail
              refine (named_any _ _ (by omega) (by omega)).mono ?_
              rintro e w' ⟨rfl, rfl⟩
              rw [HI.out]
              go_wp2_with fail
              go_ret
              exact ⟨ret_int (by rw [nm_stop hlt HAT.out HI.out H45.out]), rfl⟩
        · go_wp2
          go_ret
          exact ⟨ret_int (by rw [nm_end (by omega) HAT.out]), rfl⟩

theorem nm_no {n : Int} (h : nmI n = false) : smI n = false ∧ dgI n = false := by
  unfold nmI at h
  simpa using h
theorem nm_yes {n : Int} (h : nmI n = true) : smI n = true ∨ (smI n = false ∧ dgI n = true) := by
  unfold nmI at h
  cases hs : smI n with
  | true => exact .inl rfl
  | false => rw [hs] at h; exact .inr ⟨rfl, by simpa using h⟩
set_option maxHeartbeats 1000000 in
theorem rname_any (s : ByteArray) (w : World) (hs : s.size ≤ maxLen) :
    Calls Tryz.prog 55 #[.string s] w fun e w' => e = .returned (.int .i64 (nmL s.data.toList : Nat)) ∧ w = w' := by
  unfold maxLen at hs
  by_cases h0 : s.size = 0
  · have HE := Lib.hid (nm_empty h0)
    have hx := (empty_list h0).2
    clear h0
    go_enter Tryz.func55, Tryz.ntmps55
    go_wp2
    go_ret
    exact ⟨ret_int (by rw [HE.out]; rfl), rfl⟩
  · have hx := full_list h0
    have hlt0 : 0 < s.size := by omega
    have hb0 : (s[0].toNat : Int) ≤ 255 := by have := s[0].toNat_lt; omega
    cases hsm : smI (s[0].toNat : Int) with
    | false =>
      have HSM := Lib.hid hsm
      have HE := Lib.hid (nm_none hlt0 hsm)
      clear h0 hsm
      go_enter Tryz.func55, Tryz.ntmps55
      go_wp2_with (go_at_call 75; refine (rsmall_any _ _ (by omega) (by omega)).mono ?_; rintro e w' ⟨rfl, rfl⟩; rw [HSM.out])
      go_ret
      exact ⟨ret_int (by rw [HE.out]; rfl), rfl⟩
    | true =>
      have HSM := Lib.hid hsm
      have HS := Lib.hid (nm_start hlt0 hsm)
      clear h0 hsm
      go_enter Tryz.func55, Tryz.ntmps55
      go_wp2_with (go_at_call 75; refine (rsmall_any _ _ (by omega) (by omega)).mono ?_; rintro e w' ⟨rfl, rfl⟩; rw [HSM.out])
      go_loop [3] (fun i => ∃ k : Nat, k ≤ s.size ∧ i = .int .i64 k ∧ NmAt s k) (fun i => s.size - (intOf i).toNat)
      case atStart => exact ⟨1, by omega, rfl, HS.out⟩
      case round =>
        obtain ⟨k, hk, rfl, hat⟩ := hrel
        have HAT := Lib.hid hat
        clear hat
        by_cases hlt : k < s.size
        · have hb : (s[k].toNat : Int) ≤ 255 := by have := s[k].toNat_lt; omega
          cases hi : nmI (s[k].toNat : Int) with
          | true =>
            have HNM := Lib.hid hi
            rcases nm_yes hi with h1 | ⟨h1, h2⟩
            · have H1 := Lib.hid h1
              clear hi h1
              go_wp2_with fail
              refine (rsmall_any _ _ (by omega) (by omega)).mono ?_
              rintro e w' ⟨rfl, rfl⟩
              rw [H1.out]
              go_wp2_with fail
              go_round
              case rel => exact ⟨k + 1, by omega, by go_num, nm_step hlt HAT.out HNM.out⟩
              case measure => simp [intOf]; omega
            · have H1 := Lib.hid h1
              have H2 := Lib.hid h2
              clear hi h1 h2
              go_wp2_with fail
              refine (rsmall_any _ _ (by omega) (by omega)).mono ?_
              rintro e w' ⟨rfl, rfl⟩
              rw [H1.out]
              go_wp2_with fail
              refine (rdigit_any _ _ (by omega) (by omega)).mono ?_
              rintro e w' ⟨rfl, rfl⟩
              rw [H2.out]
              go_wp2_with fail
              go_round
              case rel => exact ⟨k + 1, by omega, by go_num, nm_step hlt HAT.out HNM.out⟩
              case measure => simp [intOf]; omega
          | false =>
            have HNM := Lib.hid hi
            have HI := Lib.hid (nm_no hi)
            clear hi
            by_cases h45 : (s[k].toNat : Int) = 45
            · by_cases hl2 : k + 1 < s.size
              · have hb2 : (s[k + 1].toNat : Int) ≤ 255 := by have := s[k + 1].toNat_lt; omega
                have e1 : (((k : Int) + 1) == (s.size : Int)) = false := by simp; omega
                have H45 := Lib.hid h45
                cases hi2 : nmI (s[k + 1].toNat : Int) with
                | true =>
                  have HI2 := Lib.hid hi2
                  rcases nm_yes hi2 with h1 | ⟨h1, h2⟩
                  · have H1 := Lib.hid h1
                    clear hi2 h1
                    go_wp2_with fail
                    refine (rsmall_any _ _ (by omega) (by omega)).mono ?_
                    rintro e w' ⟨rfl, rfl⟩
                    rw [show smI 45 = false from rfl]
                    go_wp2_with fail
                    refine (rdigit_any _ _ (by omega) (by omega)).mono ?_
                    rintro e w' ⟨rfl, rfl⟩
                    rw [show dgI 45 = false from rfl]
                    go_wp2_with fail
                    refine (rsmall_any _ _ (by omega) (by omega)).mono ?_
                    rintro e w' ⟨rfl, rfl⟩
                    rw [H1.out]
                    go_wp2_with fail
                    go_round
                    case rel => exact ⟨k + 2, by omega, by go_num, nm_step2 hl2 HAT.out H45.out HI2.out⟩
                    case measure => simp [intOf]; omega
                  · have H1 := Lib.hid h1
                    have H2 := Lib.hid h2
                    clear hi2 h1 h2
                    go_wp2_with fail
                    refine (rsmall_any _ _ (by omega) (by omega)).mono ?_
                    rintro e w' ⟨rfl, rfl⟩
                    rw [show smI 45 = false from rfl]
                    go_wp2_with fail
                    refine (rdigit_any _ _ (by omega) (by omega)).mono ?_
                    rintro e w' ⟨rfl, rfl⟩
                    rw [show dgI 45 = false from rfl]
                    go_wp2_with fail
                    refine (rsmall_any _ _ (by omega) (by omega)).mono ?_
                    rintro e w' ⟨rfl, rfl⟩
                    rw [H1.out]
                    go_wp2_with fail
                    refine (rdigit_any _ _ (by omega) (by omega)).mono ?_
                    rintro e w' ⟨rfl, rfl⟩
                    rw [H2.out]
                    go_wp2_with fail
                    go_round
                    case rel => exact ⟨k + 2, by omega, by go_num, nm_step2 hl2 HAT.out H45.out HI2.out⟩
                    case measure => simp [intOf]; omega
                | false =>
                  have HI2 := Lib.hid hi2
                  have HI3 := Lib.hid (nm_no hi2)
                  clear hi2
                  go_wp2_with fail
                  refine (rsmall_any _ _ (by omega) (by omega)).mono ?_
                  rintro e w' ⟨rfl, rfl⟩
                  rw [show smI 45 = false from rfl]
                  go_wp2_with fail
                  refine (rdigit_any _ _ (by omega) (by omega)).mono ?_
                  rintro e w' ⟨rfl, rfl⟩
                  rw [show dgI 45 = false from rfl]
                  go_wp2_with fail
                  refine (rsmall_any _ _ (by omega) (by omega)).mono ?_
                  rintro e w' ⟨rfl, rfl⟩
                  rw [HI3.out.1]
                  go_wp2_with fail
                  refine (rdigit_any _ _ (by omega) (by omega)).mono ?_
                  rintro e w' ⟨rfl, rfl⟩
                  rw [HI3.out.2]
                  go_wp2_with fail
                  go_ret
                  exact ⟨ret_int (by rw [nm_stop3 hl2 HAT.out HNM.out HI2.out]), rfl⟩
              · have e1 : (((k : Int) + 1) == (s.size : Int)) = true := by simp; omega
                go_wp2_with fail
                refine (rsmall_any _ _ (by omega) (by omega)).mono ?_
                rintro e w' ⟨rfl, rfl⟩
                rw [show smI 45 = false from rfl]
                go_wp2_with fail
                refine (rdigit_any _ _ (by omega) (by omega)).mono ?_
                rintro e w' ⟨rfl, rfl⟩
                rw [show dgI 45 = false from rfl]
                go_wp2_with fail
                go_ret
                exact ⟨ret_int (by rw [nm_stop2 hlt HAT.out HNM.out (by omega)]), rfl⟩
            · have H45 := Lib.hid h45
              have e1 : ((s[k].toNat : Int) != 45) = true := by simpa using h45
              go_wp2_with fail
              refine (rsmall_any _ _ (by omega) (by omega)).mono ?_
              rintro e w' ⟨rfl, rfl⟩
              rw [HI.out.1]
              go_wp2_with fail
              refine (rdigit_any _ _ (by omega) (by omega)).mono ?_
              rintro e w' ⟨rfl, rfl⟩
              rw [HI.out.2]
              go_wp2_with fail
              go_ret
              exact ⟨ret_int (by rw [nm_stop hlt HAT.out HNM.out H45.out]), rfl⟩
        · go_wp2
          go_ret
          exact ⟨ret_int (by rw [nm_end (by omega) HAT.out]), rfl⟩
end Go.Proofs.YtfgnekbkcmpdiaaGreatDoor.K
/- Contracts of both sides: names, numbers, strings in quotes, white space. -/
namespace Go.Proofs.YtfgnekbkcmpdiaaGreatDoor.K
open Go.RowKit
set_option linter.unusedVariables false

theorem btwo {w w1 w2 : World} (h1 : Below w.heap.size w w1) (h2 : Below w1.heap.size w1 w2) : Below w.heap.size w w2 := h1.trans (h2.mono h1.size)
theorem nameB_empty {s : ByteArray} (h : s.size = 0) : nameB s.data.toList = false := by
  rw [List.eq_nil_of_length_eq_zero (show s.data.toList.length = 0 from h)]; rfl
theorem nameB_big {s : ByteArray} (h : 20 < s.size) : nameB s.data.toList = false := by
  unfold nameB; rw [sizeB, decide_eq_false (by omega)]; simp
theorem ne_nil {s : ByteArray} (h : ¬ s.size = 0) : s.data.toList ≠ [] := fun e => h (by rw [← sizeB, e]; rfl)
theorem nameB_is {s : ByteArray} (h : ¬ s.size = 0) (h1 : ¬ 20 < s.size) : nameB s.data.toList = decide (nmL s.data.toList = s.size) := by
  unfold nameB
  have e : (s.data.toList != []) = true := by simpa using ne_nil h
  rw [e, sizeB, decide_eq_true (show s.size ≤ 20 by omega), Bool.eq_iff_iff]; simp

set_option maxHeartbeats 400000 in
theorem isname_any (s : ByteArray) (w : World) (hs : s.size ≤ maxLen) :
    Calls Tryz.prog 34 #[.string s] w fun e w' => e = .returned (.bool (nameB s.data.toList)) ∧ w = w' := by
  by_cases h0 : s.size = 0
  · have HE := Lib.hid (nameB_empty h0)
    have hx := (empty_list h0).2
    clear h0
    go_enter Tryz.func34, Tryz.ntmps34
    go_wp2
    go_ret
    exact ⟨ret_bool (by rw [HE.out]), rfl⟩
  · have hx := full_list h0
    by_cases h20 : 20 < s.size
    · have HE := Lib.hid (nameB_big h20)
      clear h0
      go_enter Tryz.func34, Tryz.ntmps34
      go_wp2
      go_ret
      exact ⟨ret_bool (by rw [HE.out]), rfl⟩
    · have HE := Lib.hid (nameB_is h0 h20)
      clear h0
      go_enter Tryz.func34, Tryz.ntmps34
      go_wp2_with fail
      refine (nsize_any _ _ (by assumption)).mono ?_
      rintro e w' ⟨rfl, rfl⟩
      go_wp2_with fail
      go_ret
      exact ⟨ret_bool (by rw [HE.out, Bool.eq_iff_iff]; simp; omega), rfl⟩

set_option maxHeartbeats 400000 in
theorem risname_any (s : ByteArray) (w : World) (hs : s.size ≤ maxLen) :
    Calls Tryz.prog 39 #[.string s] w fun e w' => e = .returned (.bool (nameB s.data.toList)) ∧ w = w' := by
  by_cases h0 : s.size = 0
  · have HE := Lib.hid (nameB_empty h0)
    have hx := (empty_list h0).2
    clear h0
    go_enter Tryz.func39, Tryz.ntmps39
    go_wp2
    go_ret
    exact ⟨ret_bool (by rw [HE.out]), rfl⟩
  · have hx := full_list h0
    by_cases h20 : 20 < s.size
    · have HE := Lib.hid (nameB_big h20)
      clear h0
      go_enter Tryz.func39, Tryz.ntmps39
      go_wp2
      go_ret
      exact ⟨ret_bool (by rw [HE.out]), rfl⟩
    · have HE := Lib.hid (nameB_is h0 h20)
      clear h0
      go_enter Tryz.func39, Tryz.ntmps39
      go_wp2_with fail
      refine (rname_any _ _ (by assumption)).mono ?_
      rintro e w' ⟨rfl, rfl⟩
      go_wp2_with fail
      go_ret
      exact ⟨ret_bool (by rw [HE.out, Bool.eq_iff_iff]; simp; omega), rfl⟩

/-- Why a string is no number: empty, too long, with a byte that is no digit, or with a first digit 0. -/
theorem num_empty {s : ByteArray} (h : s.size = 0) : numV s.data.toList = (0, false) := by
  rw [List.eq_nil_of_length_eq_zero (show s.data.toList.length = 0 from h)]; rfl
theorem num_long {s : ByteArray} (h : 6 < s.size) : numV s.data.toList = (0, false) := by
  have : numB s.data.toList = false := by unfold numB; rw [sizeB, decide_eq_false (show ¬ s.size ≤ 6 by omega)]; simp
  unfold numV; rw [this]; rfl
theorem num_other {s : ByteArray} (h : runL isDg s.data.toList ≠ s.size) : numV s.data.toList = (0, false) := by
  have : numB s.data.toList = false := by unfold numB; rw [sizeB, show (runL isDg s.data.toList == s.size) = false by simpa using h]; simp
  unfold numV; rw [this]; rfl
theorem head_at {s : ByteArray} (h : 0 < s.size) : s.data.toList.head? = some s[0] := by
  have := dropS h
  rw [List.drop_zero] at this
  rw [this]; rfl
theorem num_zero {s : ByteArray} (h : 0 < s.size) (h0 : (s[0].toNat : Int) = 48) (h1 : 1 < s.size) : numV s.data.toList = (0, false) := by
  have e : s[0] = 48 := byte_is (n := 48) (by omega) (by decide)
  have : numB s.data.toList = false := by unfold numB; rw [sizeB, head_at h, e, decide_eq_true h1]; simp
  unfold numV; rw [this]; rfl
theorem num_good {s : ByteArray} (h : 0 < s.size) (h6 : ¬ 6 < s.size) (hr : runL isDg s.data.toList = s.size) (h0 : (s[0].toNat : Int) = 48 → ¬ 1 < s.size) : numV s.data.toList = ((decF 0 s.data.toList : Int), true) ∧ s.data.toList.all isDg = true := by
  have ha : s.data.toList.all isDg = true := runL_len (by rw [hr, sizeB])
  have : numB s.data.toList = true := numB_mk (ne_nil (by omega)) (by rw [sizeB]; omega) (by rw [hr, sizeB]) (fun hh => by
    rw [head_at h] at hh
    have e : s[0] = 48 := Option.some.inj hh
    have := h0 (by rw [e]; rfl)
    rw [sizeB]; omega)
  unfold numV; rw [this]; exact ⟨rfl, ha⟩
def NumPost (l : List UInt8) (w : World) (e : Ending) (w' : World) : Prop := e = .returned (.tuple #[.int .i64 (numV l).1, .bool (numV l).2]) ∧ Below w.heap.size w w'
theorem num_post {l : List UInt8} {w w' : World} {x : Int} {b : Bool} (h : numV l = (x, b)) (hb : Below w.heap.size w w') : NumPost l w (.returned (.tuple #[.int .i64 x, .bool b])) w' := ⟨by rw [h], hb⟩

set_option maxHeartbeats 1000000 in
theorem number_any (s : ByteArray) (w : World) (hs : s.size ≤ maxLen) :
    Calls Tryz.prog 66 #[.string s] w (NumPost s.data.toList w) := by
  by_cases h0 : s.size = 0
  · have HE := Lib.hid (num_empty h0)
    have hx := (empty_list h0).2
    clear h0
    go_enter Tryz.func66, Tryz.ntmps66
    go_wp2
    go_ret2
    exact num_post HE.out (Below.refl _ _)
  · have hx := full_list h0
    have hpos : 0 < s.size := by omega
    have hb0 : (s[0].toNat : Int) ≤ 255 := by have := s[0].toNat_lt; omega
    by_cases h6 : 6 < s.size
    · have HE := Lib.hid (num_long h6)
      clear h0
      go_enter Tryz.func66, Tryz.ntmps66
      go_wp2
      go_ret2
      exact num_post HE.out (Below.refl _ _)
    · obtain ⟨r, hr⟩ : ∃ r, r = runL isDg s.data.toList := ⟨_, rfl⟩
      have HR := Lib.hid hr
      have hrle : r ≤ s.size := by rw [hr]; exact runL_le _ _
      by_cases hrs : r = s.size
      · by_cases h48 : (s[0].toNat : Int) = 48
        · by_cases h1 : 1 < s.size
          · have HE := Lib.hid (num_zero hpos h48 h1)
            have e1 : ((r : Int) != (s.size : Int)) = false := by simp; omega
            have e2 : decide ((r : Int) < (s.size : Int)) = false := by simp; omega
            have e3 : decide (r < s.size) = false := by simp; omega
            clear h0 hr hrs
            go_enter Tryz.func66, Tryz.ntmps66
            go_wp2_with fail
            refine (dsize_any _ _ (by assumption)).mono ?_
            rintro e w' ⟨rfl, rfl⟩
            rw [← HR.out]
            go_wp2_with fail
            go_ret2
            exact num_post HE.out (Below.refl _ _)
          · have HG := Lib.hid (num_good hpos h6 (by omega) (fun _ => h1))
            have e1 : ((r : Int) != (s.size : Int)) = false := by simp; omega
            have e2 : decide ((r : Int) < (s.size : Int)) = false := by simp; omega
            have e3 : decide (r < s.size) = false := by simp; omega
            clear hr hrs
            go_enter Tryz.func66, Tryz.ntmps66
            go_wp2_with fail
            refine (dsize_any _ _ (by assumption)).mono ?_
            rintro e w' ⟨rfl, rfl⟩
            rw [← HR.out]
            go_wp2_with fail
            have HAT := Lib.hid (atoi_is (ne_nil h0) HG.out.2)
            refine (Tryz.strconv_Atoi s _ (by omega) HAT.out _).mono ?_
            rintro e w' ⟨rfl, t, rfl⟩
            go_wp2_with fail
            go_quiet (fail)
            go_wp2
            go_ret2
            exact num_post HG.out.1 (below_drewN (Lib.bytesWorld_below _ _ _) _)
        · have HG := Lib.hid (num_good hpos h6 (by omega) (fun h => absurd h h48))
          have e4 : ((s[0].toNat : Int) == 48) = false := by simpa using h48
          have e1 : ((r : Int) != (s.size : Int)) = false := by simp; omega
          have e2 : decide ((r : Int) < (s.size : Int)) = false := by simp; omega
          have e3 : decide (r < s.size) = false := by simp; omega
          clear hr hrs h48
          go_enter Tryz.func66, Tryz.ntmps66
          go_wp2_with fail
          refine (dsize_any _ _ (by assumption)).mono ?_
          rintro e w' ⟨rfl, rfl⟩
          rw [← HR.out]
          go_wp2_with fail
          have HAT := Lib.hid (atoi_is (ne_nil h0) HG.out.2)
          refine (Tryz.strconv_Atoi s _ (by omega) HAT.out _).mono ?_
          rintro e w' ⟨rfl, t, rfl⟩
          go_wp2_with fail
          go_quiet (fail)
          go_wp2
          go_ret2
          exact num_post HG.out.1 (below_drewN (Lib.bytesWorld_below _ _ _) _)
      · have HE := Lib.hid (num_other (by rw [← hr]; exact hrs))
        have e1 : ((r : Int) != (s.size : Int)) = true := by simp; omega
        have e2 : decide ((r : Int) < (s.size : Int)) = true := by simp; omega
        have e3 : decide (r < s.size) = true := by simp; omega
        clear h0 hr hrs
        go_enter Tryz.func66, Tryz.ntmps66
        go_wp2_with fail
        refine (dsize_any _ _ (by assumption)).mono ?_
        rintro e w' ⟨rfl, rfl⟩
        rw [← HR.out]
        go_wp2_with fail
        go_ret2
        exact num_post HE.out (Below.refl _ _)

theorem dec_step {s : ByteArray} {k : Nat} (hk : k < s.size) : decF 0 (s.data.toList.take (k + 1)) = decF 0 (s.data.toList.take k) * 10 + (s[k].toNat - 48) := by rw [takeS hk, decF_snoc]
theorem dig_bd {s : ByteArray} (h : s.data.toList.all isDg = true) {k : Nat} (hk : k < s.size) : 48 ≤ s[k].toNat ∧ s[k].toNat ≤ 57 := by
  have := List.all_eq_true.1 h s[k] (by rw [getB]; exact List.getElem_mem _)
  unfold isDg dgI at this
  simp only [Bool.and_eq_true, decide_eq_true_eq] at this
  omega
theorem dec_take {s : ByteArray} (h : s.data.toList.all isDg = true) (h6 : ¬ 6 < s.size) (k : Nat) : decF 0 (s.data.toList.take k) < 1000000 :=
  decF_small (List.all_eq_true.2 fun x hx => List.all_eq_true.1 h x (List.mem_of_mem_take hx)) (by rw [List.length_take, sizeB]; omega)

set_option maxHeartbeats 1000000 in
theorem rnumber_any (s : ByteArray) (w : World) (hs : s.size ≤ maxLen) :
    Calls Tryz.prog 47 #[.string s] w (NumPost s.data.toList w) := by
  by_cases h0 : s.size = 0
  · have HE := Lib.hid (num_empty h0)
    have hx := (empty_list h0).2
    clear h0
    go_enter Tryz.func47, Tryz.ntmps47
    go_wp2
    go_ret2
    exact num_post HE.out (Below.refl _ _)
  · have hx := full_list h0
    have hpos : 0 < s.size := by omega
    have hb0 : (s[0].toNat : Int) ≤ 255 := by have := s[0].toNat_lt; omega
    by_cases h6 : 6 < s.size
    · have HE := Lib.hid (num_long h6)
      clear h0
      go_enter Tryz.func47, Tryz.ntmps47
      go_wp2
      go_ret2
      exact num_post HE.out (Below.refl _ _)
    · obtain ⟨r, hr⟩ : ∃ r, r = runL isDg s.data.toList := ⟨_, rfl⟩
      have HR := Lib.hid hr
      have hrle : r ≤ s.size := by rw [hr]; exact runL_le _ _
      by_cases hrs : r = s.size
      · by_cases h48 : (s[0].toNat : Int) = 48
        · by_cases h1 : 1 < s.size
          · have HE := Lib.hid (num_zero hpos h48 h1)
            have e1 : ((r : Int) != (s.size : Int)) = false := by simp; omega
            have e2 : decide ((r : Int) < (s.size : Int)) = false := by simp; omega
            have e3 : decide (r < s.size) = false := by simp; omega
            clear h0 hr hrs
            go_enter Tryz.func47, Tryz.ntmps47
            go_wp2_with fail
            refine (rdigits_any _ _ (by assumption)).mono ?_
            rintro e w' ⟨rfl, rfl⟩
            rw [← HR.out]
            go_wp2_with fail
            go_ret2
            exact num_post HE.out (Below.refl _ _)
          · have HG := Lib.hid (num_good hpos h6 (by omega) (fun _ => h1))
            have e1 : ((r : Int) != (s.size : Int)) = false := by simp; omega
            have e2 : decide ((r : Int) < (s.size : Int)) = false := by simp; omega
            have e3 : decide (r < s.size) = false := by simp; omega
            clear hr hrs
            go_enter Tryz.func47, Tryz.ntmps47
            go_wp2_with fail
            refine (rdigits_any _ _ (by assumption)).mono ?_
            rintro e w' ⟨rfl, rfl⟩
            rw [← HR.out]
            go_wp2_with fail
            clear h0
            go_loop [4, 5] (fun v i => ∃ k n : Nat, k ≤ s.size ∧ n < 1000000 ∧ i = .int .i64 k ∧ v = .int .i64 n ∧ decF 0 (s.data.toList.take k) = n) (fun _ i => s.size - (intOf i).toNat)
            case atStart => exact ⟨0, 0, Nat.zero_le _, by omega, rfl, rfl, rfl⟩
            case round =>
              obtain ⟨k, n, hk, hn, rfl, rfl, hok⟩ := hrel
              have HOK := Lib.hid hok
              clear hok
              by_cases hlt : k < s.size
              · obtain ⟨hd1, hd2⟩ := dig_bd HG.out.2 hlt
                obtain ⟨m, hm⟩ : ∃ m : Nat, m = n * 10 + (s[k].toNat - 48) := ⟨_, rfl⟩
                have HN := Lib.hid (show decF 0 (s.data.toList.take (k + 1)) = m by rw [dec_step hlt, HOK.out, hm])
                have HMI := Lib.hid (show (m : Int) = 10 * (n : Int) + ((s[k].toNat : Int) - 48) by omega)
                have hm6 : m < 1000000 := by have := dec_take HG.out.2 h6 (k + 1); rw [HN.out] at this; exact this
                clear hm
                go_wp2
                go_round
                case rel => exact ⟨k + 1, m, by omega, hm6, by go_num, by rw [HMI.out], HN.out⟩
                case measure => simp [intOf]; omega
              · go_wp2
                go_ret2
                have HT := Lib.hid (show numV s.data.toList = ((n : Int), true) by rw [HG.out.1, ← HOK.out, takeAll (by omega)])
                exact num_post HT.out (Below.refl _ _)
        · have HG := Lib.hid (num_good hpos h6 (by omega) (fun h => absurd h h48))
          have e4 : ((s[0].toNat : Int) == 48) = false := by simpa using h48
          have e1 : ((r : Int) != (s.size : Int)) = false := by simp; omega
          have e2 : decide ((r : Int) < (s.size : Int)) = false := by simp; omega
          have e3 : decide (r < s.size) = false := by simp; omega
          clear hr hrs h48
          go_enter Tryz.func47, Tryz.ntmps47
          go_wp2_with fail
          refine (rdigits_any _ _ (by assumption)).mono ?_
          rintro e w' ⟨rfl, rfl⟩
          rw [← HR.out]
          go_wp2_with fail
          clear h0
          go_loop [4, 5] (fun v i => ∃ k n : Nat, k ≤ s.size ∧ n < 1000000 ∧ i = .int .i64 k ∧ v = .int .i64 n ∧ decF 0 (s.data.toList.take k) = n) (fun _ i => s.size - (intOf i).toNat)
          case atStart => exact ⟨0, 0, Nat.zero_le _, by omega, rfl, rfl, rfl⟩
          case round =>
            obtain ⟨k, n, hk, hn, rfl, rfl, hok⟩ := hrel
            have HOK := Lib.hid hok
            clear hok
            by_cases hlt : k < s.size
            · obtain ⟨hd1, hd2⟩ := dig_bd HG.out.2 hlt
              obtain ⟨m, hm⟩ : ∃ m : Nat, m = n * 10 + (s[k].toNat - 48) := ⟨_, rfl⟩
              have HN := Lib.hid (show decF 0 (s.data.toList.take (k + 1)) = m by rw [dec_step hlt, HOK.out, hm])
              have HMI := Lib.hid (show (m : Int) = 10 * (n : Int) + ((s[k].toNat : Int) - 48) by omega)
              have hm6 : m < 1000000 := by have := dec_take HG.out.2 h6 (k + 1); rw [HN.out] at this; exact this
              clear hm
              go_wp2
              go_round
              case rel => exact ⟨k + 1, m, by omega, hm6, by go_num, by rw [HMI.out], HN.out⟩
              case measure => simp [intOf]; omega
            · go_wp2
              go_ret2
              have HT := Lib.hid (show numV s.data.toList = ((n : Int), true) by rw [HG.out.1, ← HOK.out, takeAll (by omega)])
              exact num_post HT.out (Below.refl _ _)
      · have HE := Lib.hid (num_other (by rw [← hr]; exact hrs))
        have e1 : ((r : Int) != (s.size : Int)) = true := by simp; omega
        have e2 : decide ((r : Int) < (s.size : Int)) = true := by simp; omega
        have e3 : decide (r < s.size) = true := by simp; omega
        clear h0 hr hrs
        go_enter Tryz.func47, Tryz.ntmps47
        go_wp2_with fail
        refine (rdigits_any _ _ (by assumption)).mono ?_
        rintro e w' ⟨rfl, rfl⟩
        rw [← HR.out]
        go_wp2_with fail
        go_ret2
        exact num_post HE.out (Below.refl _ _)
end Go.Proofs.YtfgnekbkcmpdiaaGreatDoor.K
/- Contracts of both sides: strings in quotes, white space. -/
namespace Go.Proofs.YtfgnekbkcmpdiaaGreatDoor.K
open Go.RowKit
set_option linter.unusedVariables false

def quoV (l : List UInt8) : List UInt8 × Int := if 60 < l.length then ([], 3) else if l.all isQu then (34 :: (l ++ [34]), 0) else ([], 2)
theorem quo_big {s : ByteArray} (h : 60 < s.size) : quoV s.data.toList = ([], 3) := by unfold quoV; rw [if_pos (by rw [sizeB]; exact h)]
theorem quo_bad {s : ByteArray} (h : ¬ 60 < s.size) (h1 : s.data.toList.all isQu = false) : quoV s.data.toList = ([], 2) := by unfold quoV; rw [if_neg (by rw [sizeB]; exact h), if_neg (by simp [h1])]
theorem quo_ok {s : ByteArray} (h : ¬ 60 < s.size) (h1 : s.data.toList.all isQu = true) : quoV s.data.toList = (34 :: (s.data.toList ++ [34]), 0) := by unfold quoV; rw [if_neg (by rw [sizeB]; exact h), if_pos h1]
theorem quo_not {s : ByteArray} {k : Nat} (hk : k < s.size) (h : isQu s[k] = false) : s.data.toList.all isQu = false := by
  rw [Bool.eq_false_iff]
  intro ha
  have := List.all_eq_true.1 ha s[k] (by rw [getB]; exact List.getElem_mem _)
  rw [h] at this; cases this
theorem quo_short {s : ByteArray} (h : runL isQu s.data.toList < s.size) : s.data.toList.all isQu = false := by
  rw [Bool.eq_false_iff]
  intro ha
  have := runL_all ha
  rw [sizeB] at this; omega
def QuoPost (l : List UInt8) (w : World) (e : Ending) (w' : World) : Prop := e = .returned (.tuple #[.string (bs (quoV l).1), .int .i64 (quoV l).2]) ∧ w = w'
theorem quo_post {l p : List UInt8} {w : World} {x : Int} {b : ByteArray} (h : quoV l = (p, x)) (hb : b.data.toList = p) : QuoPost l w (.returned (.tuple #[.string b, .int .i64 x])) w := ⟨by rw [h, ← hb]; rfl, rfl⟩
theorem quo_cat (s : ByteArray) : (((⟨#[34]⟩ : ByteArray) ++ s) ++ (⟨#[34]⟩ : ByteArray)).data.toList = 34 :: (s.data.toList ++ [34]) := by
  rw [cat_any, cat_any]; rfl

theorem run_index : ∀ l : List UInt8, (Lib.indexByte l 10 = -1 → runL noLF l = l.length) ∧ (0 ≤ Lib.indexByte l 10 → (runL noLF l : Int) = Lib.indexByte l 10)
  | [] => ⟨fun _ => rfl, fun h => by simp [Lib.indexByte] at h⟩
  | c :: r => by
    obtain ⟨i1, i2⟩ := run_index r
    have hge := Lib.indexByte_ge r 10
    by_cases hc : c = 10
    · subst hc
      constructor
      · intro h; simp [Lib.indexByte] at h
      · intro _; rw [runL, if_neg (by decide)]; simp [Lib.indexByte]
    · have hn : noLF c = true := by unfold noLF; simpa using hc
      have e : Lib.indexByte (c :: r) 10 = if Lib.indexByte r 10 == -1 then -1 else Lib.indexByte r 10 + 1 := by
        rw [Lib.indexByte, if_neg (by simpa using hc)]
      rw [e, runL, if_pos hn]
      by_cases h1 : Lib.indexByte r 10 = -1
      · rw [if_pos (by simp [h1])]
        exact ⟨fun _ => by rw [i1 h1]; rfl, fun h => by omega⟩
      · rw [if_neg (by simpa using h1)]
        exact ⟨fun h => by omega, fun h => by have := i2 (by omega); omega⟩
def wsL : List UInt8 := [32, 9, 10, 13]
theorem ws_idx (n : Int) (h0 : 0 ≤ n) (h1 : n ≤ 255) : wsI n = decide (0 ≤ Lib.indexByte wsL n.toNat.toUInt8) := by
  have e : (wsI n = true) ↔ n.toNat.toUInt8 ∈ wsL := by
    unfold wsI wsL
    simp only [Bool.or_eq_true, beq_iff_eq, List.mem_cons, List.not_mem_nil, or_false]
    have hh : ∀ m : Nat, m < 256 → (n.toNat.toUInt8 = m.toUInt8 ↔ n = m) := by
      intro m hm
      constructor
      · intro h
        have := congrArg UInt8.toNat h
        simp at this
        omega
      · rintro rfl; simp
    have a := hh 32 (by decide)
    have b := hh 9 (by decide)
    have c := hh 10 (by decide)
    have d := hh 13 (by decide)
    have a' : (n.toNat.toUInt8 = 32 ↔ n = 32) := a
    have b' : (n.toNat.toUInt8 = 9 ↔ n = 9) := b
    have c' : (n.toNat.toUInt8 = 10 ↔ n = 10) := c
    have d' : (n.toNat.toUInt8 = 13 ↔ n = 13) := d
    rw [a', b', c', d']
    constructor
    · rintro (((h | h) | h) | h)
      · exact .inl h
      · exact .inr (.inl h)
      · exact .inr (.inr (.inl h))
      · exact .inr (.inr (.inr h))
    · rintro (h | h | h | h)
      · exact .inl (.inl (.inl h))
      · exact .inl (.inl (.inr h))
      · exact .inl (.inr h)
      · exact .inr h
  rw [Bool.eq_iff_iff, e, decide_eq_true_eq]
  constructor
  · exact idx_some
  · intro h
    rcases Classical.em (n.toNat.toUInt8 ∈ wsL) with h1 | h1
    · exact h1
    · rw [idx_none h1] at h; omega
theorem idx1_any (s : ByteArray) (c : UInt8) (w : World) : Calls Tryz.prog 81 #[.string s, .string ⟨#[c]⟩] w fun e w' => e = .returned (.int .i64 (Lib.indexByte s.data.toList c)) ∧ w = w' :=
  (Tryz.strings_Index_one s c w).mono fun _ _ ⟨a, b⟩ => ⟨a, b.symm⟩
theorem bl_at {s : ByteArray} (h : 0 < s.size) : blL s.data.toList = if isWs s[0] then 1 else if s[0] == 35 then runL noLF s.data.toList else 0 := by
  have e := dropS h
  rw [List.drop_zero] at e
  rw [e, blL_cons]
  by_cases h1 : isWs s[0] = true
  · rw [if_pos h1, if_pos h1]
  · rw [if_neg h1, if_neg h1]
    by_cases h2 : (s[0] == 35) = true
    · rw [if_pos h2, if_pos h2, runL, if_pos]
      have : s[0] = 35 := by simpa using h2
      rw [this]; decide
    · rw [if_neg h2, if_neg h2]
/-- n bytes of white space and comments, and behind them none. -/
def SpOk (l : List UInt8) (n : Nat) : Prop := n ≤ l.length ∧ blL (l.drop n) = 0 ∧ ∀ ln, lexR l ln = lexR (l.drop n) (ln + (feeds (l.take n) : Int))
def SpAt (l : List UInt8) (n : Nat) : Prop := ∀ ln, lexR l ln = lexR (l.drop n) (ln + (feeds (l.take n) : Int))
theorem sp_start (l : List UInt8) : SpAt l 0 := by
  intro ln; rw [List.drop_zero, List.take_zero]; simp [feeds]
theorem feeds_cat (a b : List UInt8) : feeds (a ++ b) = feeds a + feeds b := by unfold feeds; rw [List.count_append]
theorem sp_more {l : List UInt8} {k b : Nat} (h : SpAt l k) (hb : blL (l.drop k) = b) (h0 : 0 < b) : SpAt l (k + b) := by
  intro ln
  rw [h ln, lex_blank _ hb h0, List.drop_drop, List.take_add, feeds_cat]
  congr 1
  omega
theorem sp_ok {l : List UInt8} {k : Nat} (h : SpAt l k) (hk : k ≤ l.length) (hb : blL (l.drop k) = 0) : SpOk l k := ⟨hk, hb, h⟩
theorem ws_int {n : Int} (h : wsI n = true) : n = 32 ∨ n = 9 ∨ n = 10 ∨ n = 13 := by
  unfold wsI at h
  simp only [Bool.or_eq_true, beq_iff_eq] at h
  rcases h with ((h | h) | h) | h
  · exact .inl h
  · exact .inr (.inl h)
  · exact .inr (.inr (.inl h))
  · exact .inr (.inr (.inr h))
theorem bl_drop_ws {s : ByteArray} {k : Nat} (hk : k < s.size) (h : wsI (s[k].toNat : Int) = true) : blL (s.data.toList.drop k) = 1 := by
  rw [dropS hk, bl_ws _ h]
theorem bl_drop_no {s : ByteArray} {k : Nat} (hk : k < s.size) (h : wsI (s[k].toNat : Int) = false) (h1 : ¬ (s[k].toNat : Int) = 35) : blL (s.data.toList.drop k) = 0 := by
  rw [dropS hk, bl_zero _ h (byte_ne (n := 35) h1 (by decide))]
/-- j bytes of a comment that begins behind k. -/
def ComAt (s : ByteArray) (k j : Nat) : Prop := k ≤ j ∧ ((s.data.toList.drop k).take (j - k)).all noLF = true
theorem com_start (s : ByteArray) (k : Nat) : ComAt s k k := ⟨Nat.le_refl _, by rw [Nat.sub_self]; rfl⟩
theorem com_step {s : ByteArray} {k j : Nat} (h : ComAt s k j) (hj : j < s.size) (h1 : ¬ (s[j].toNat : Int) = 10) : ComAt s k (j + 1) := by
  refine ⟨by have := h.1; omega, ?_⟩
  have hkj := h.1
  have e : j + 1 - k = (j - k) + 1 := by omega
  have hl : j - k < (s.data.toList.drop k).length := by rw [List.length_drop, sizeB]; omega
  rw [e, List.take_succ_eq_append_getElem hl, List.all_append, h.2]
  have : (s.data.toList.drop k)[j - k] = s[j] := by
    rw [List.getElem_drop, getB]
    congr 1
    omega
  rw [this]
  have h2 := byte_ne (n := 10) h1 (by decide)
  simp only [List.all_cons, List.all_nil, Bool.and_true, Bool.true_and]
  unfold noLF
  simpa using h2
theorem com_run {s : ByteArray} {k j : Nat} (h : ComAt s k j) (hj : j ≤ s.size) (h1 : j < s.size → ∃ hh : j < s.size, (s[j].toNat : Int) = 10) : runL noLF (s.data.toList.drop k) = j - k := by
  have e : s.data.toList.drop k = (s.data.toList.drop k).take (j - k) ++ s.data.toList.drop j := by
    conv => lhs; rw [← List.take_append_drop (j - k) (s.data.toList.drop k)]
    rw [List.drop_drop, show k + (j - k) = j by have := h.1; omega]
  rw [e, runL_cat h.2, List.length_take, List.length_drop, sizeB]
  have : runL noLF (s.data.toList.drop j) = 0 := by
    by_cases hlt : j < s.size
    · obtain ⟨_, h10⟩ := h1 hlt
      rw [dropS hlt, runL, if_neg]
      rw [byte_is (c := s[j]) (n := 10) (by omega) (by decide)]; decide
    · rw [dropE (by omega)]; rfl
  rw [this]
  have := h.1
  omega
theorem com_bl {s : ByteArray} {k j : Nat} (hk : k < s.size) (hc : (s[k].toNat : Int) = 35) (h : runL noLF (s.data.toList.drop k) = j - k) : blL (s.data.toList.drop k) = j - k ∧ k < j := by
  have e : s[k] = 35 := byte_is (n := 35) (by omega) (by decide)
  rw [dropS hk, e] at h ⊢
  rw [runL, if_pos (by decide)] at h
  rw [bl_com]
  exact ⟨h, by omega⟩
end Go.Proofs.YtfgnekbkcmpdiaaGreatDoor.K
/- Contracts of both sides: the first token. -/
namespace Go.Proofs.YtfgnekbkcmpdiaaGreatDoor.K
open Go.RowKit
set_option linter.unusedVariables false

def NxPost (l : List UInt8) (w : World) (e : Ending) (w' : World) : Prop :=
  e = .returned (.tuple #[.agg #[.int .i64 (nxV l).1, .string (bs (nxV l).2.1), .int .i64 0], .int .i64 ((nxV l).2.2.1 : Nat), .int .i64 (nxV l).2.2.2]) ∧ Below w.heap.size w w'
theorem nx_post {l t : List UInt8} {k er : Int} {n : Nat} {w w' : World} {b : ByteArray} {m : Int} (h : nxV l = (k, t, n, er)) (hb : b.data.toList = t) (hm : m = (n : Int)) (hB : Below w.heap.size w w') :
    NxPost l w (.returned (.tuple #[.agg #[.int .i64 k, .string b, .int .i64 0], .int .i64 m, .int .i64 er])) w' := by
  subst hm
  refine ⟨?_, hB⟩
  rw [h, ← hb]; rfl
theorem bnew (w : World) (o : Obj) : Below w.heap.size w (w.alloc o) := (Below.refl _ _).alloc (Nat.le_refl _) _
theorem bset {w v : World} (h : Below w.heap.size w v) (i : Nat) (a : Value) : Below w.heap.size w (v.setCell ⟨w.heap.size, i, none⟩ a) := h.setCell (p := ⟨w.heap.size, i, none⟩) (Nat.le_refl _) a

theorem split0 {s : ByteArray} (h : 0 < s.size) : s.data.toList = s[0] :: s.data.toList.drop 1 := by have := dropS h; rwa [List.drop_zero] at this
theorem bset3 {w v : World} (h : Below w.heap.size w v) (a b c : Value) : Below w.heap.size w (((v.setCell ⟨w.heap.size, 0, none⟩ a).setCell ⟨w.heap.size, 1, none⟩ b).setCell ⟨w.heap.size, 2, none⟩ c) := bset (bset (bset h 0 a) 1 b) 2 c
theorem num_take {s : ByteArray} {n : Nat} (h0 : 0 < s.size) (hn : runL isDg s.data.toList = n) (hpos : 0 < n) (h6 : ¬ 6 < n) : (numV (s.data.toList.take n)).2 = !(decide (s[0] = 48) && decide (1 < n)) := by
  have hle : n ≤ s.size := by rw [← hn]; exact runL_le _ _
  have hl : (s.data.toList.take n).length = n := by rw [List.length_take, sizeB]; omega
  have hr : runL isDg (s.data.toList.take n) = n := by rw [runL_all (by rw [← hn]; exact runL_take _), hl]
  have hh : (s.data.toList.take n).head? = some s[0] := by
    obtain ⟨m, rfl⟩ : ∃ m, n = m + 1 := ⟨n - 1, by omega⟩
    rw [split0 h0, List.take_succ_cons]; rfl
  have hne : s.data.toList.take n ≠ [] := by intro e; rw [e] at hl; simp at hl; omega
  have hb : numB (s.data.toList.take n) = !(decide (s[0] = 48) && decide (1 < n)) := by
    unfold numB
    rw [hl, hr, hh, show (s.data.toList.take n != []) = true by simpa using hne, decide_eq_true (show n ≤ 6 by omega), Bool.eq_iff_iff]
    simp
  unfold numV
  rw [← hb]
  cases numB (s.data.toList.take n) <;> rfl

theorem pre_one (l : List UInt8) (c : UInt8) : Lib.hasPrefix l [c] = decide (l.head? = some c) := by
  unfold Lib.hasPrefix
  cases l with
  | nil => simp [List.isPrefixOf]
  | cons d r =>
    simp [List.isPrefixOf]
    by_cases h : d = c
    · subst h; simp
    · rw [decide_eq_false h]; simpa using fun e => h e.symm
end Go.Proofs.YtfgnekbkcmpdiaaGreatDoor.K
/- Contracts: firstToken, and the reference's inQuotes and next. -/
namespace Go.Proofs.YtfgnekbkcmpdiaaGreatDoor.K
open Go.RowKit
set_option linter.unusedVariables false

theorem nx_eta (l : List UInt8) : nxV l = ((nxV l).1, (nxV l).2.1, (nxV l).2.2.1, (nxV l).2.2.2) := rfl
/-- The first byte alone. -/
theorem one_size {s : ByteArray} (h : 0 < s.size) : (s.extract 0 1).size = 1 := by rw [ByteArray.size_extract]; omega
theorem one_list {s : ByteArray} (h : 0 < s.size) : (s.extract 0 1).data.toList = [s[0]] := by
  rw [ext_take]
  have := takeS (s := s) (k := 0) h
  simpa using this
theorem one_is {s : ByteArray} (h : 0 < s.size) (h1 : s[0] = 34) : s.extract 0 1 = (⟨#[34]⟩ : ByteArray) := by
  have := of_list (one_list h)
  rw [this, h1]
theorem one_no {s : ByteArray} (h : 0 < s.size) (h1 : s[0] ≠ 34) : ((s.extract 0 1).toList == [34]) = false := by
  rw [ByteArray.toList_eq, one_list h]
  simpa using h1
theorem one_not {s : ByteArray} (h : 0 < s.size) (h1 : s[0] ≠ 34) : s.extract 0 1 ≠ (⟨#[34]⟩ : ByteArray) := by
  intro e
  have := one_list h
  rw [e] at this
  simp at this
  exact h1 this.symm

def RunAt (p : UInt8 → Bool) (s : ByteArray) (a j : Nat) : Prop := a ≤ j ∧ ((s.data.toList.drop a).take (j - a)).all p = true
theorem runat_start (p : UInt8 → Bool) (s : ByteArray) (a : Nat) : RunAt p s a a := ⟨Nat.le_refl _, by rw [Nat.sub_self]; rfl⟩
theorem runat_step {p : UInt8 → Bool} {s : ByteArray} {a j : Nat} (h : RunAt p s a j) (hj : j < s.size) (h1 : p s[j] = true) : RunAt p s a (j + 1) := by
  have haj := h.1
  refine ⟨by omega, ?_⟩
  have e : j + 1 - a = (j - a) + 1 := by omega
  have hl : j - a < (s.data.toList.drop a).length := by rw [List.length_drop, sizeB]; omega
  rw [e, List.take_succ_eq_append_getElem hl, List.all_append, h.2]
  have : (s.data.toList.drop a)[j - a] = s[j] := by
    rw [List.getElem_drop, getB]
    congr 1
    omega
  rw [this]
  simp [h1]
theorem runat_end {p : UInt8 → Bool} {s : ByteArray} {a j : Nat} (h : RunAt p s a j) (hj : j ≤ s.size) (h1 : (hlt : j < s.size) → p s[j] = false) : runL p (s.data.toList.drop a) = j - a := by
  have haj := h.1
  have e : s.data.toList.drop a = (s.data.toList.drop a).take (j - a) ++ s.data.toList.drop j := by
    conv => lhs; rw [← List.take_append_drop (j - a) (s.data.toList.drop a)]
    rw [List.drop_drop, show a + (j - a) = j by omega]
  rw [e, runL_cat h.2, List.length_take, List.length_drop, sizeB]
  have : runL p (s.data.toList.drop j) = 0 := by
    by_cases hlt : j < s.size
    · rw [dropS hlt, runL, if_neg (by simp [h1 hlt])]
    · rw [dropE (by omega)]; rfl
  rw [this]
  omega
theorem head_drop {s : ByteArray} {k : Nat} (h : 1 ≤ k) (hk : k < s.size) : ((s.data.toList.drop 1).drop (k - 1)).head? = some s[k] := by
  rw [List.drop_drop, show 1 + (k - 1) = k by omega, dropS hk]; rfl
theorem head_drop_none {s : ByteArray} {k : Nat} (h : 1 ≤ k) (hk : s.size ≤ k) : ((s.data.toList.drop 1).drop (k - 1)).head? = none := by
  rw [List.drop_drop, show 1 + (k - 1) = k by omega, dropE hk]; rfl
theorem ext_one (s : ByteArray) (k : Nat) : (s.extract 1 k).data.toList = (s.data.toList.drop 1).take (k - 1) := ext_mid s 1 k

end Go.Proofs.YtfgnekbkcmpdiaaGreatDoor.K
/- Contract of the program's Tokens. -/
namespace Go.Proofs.YtfgnekbkcmpdiaaGreatDoor.K
open Go.RowKit
set_option linter.unusedVariables false
set_option maxRecDepth 100000

def tokCells (x : Tok) : List Value := [.int .i64 x.k, .string (bs x.t), .int .i64 x.l]
def toksCells (L : List Tok) : List Value := L.flatMap tokCells
theorem toks_len : ∀ L : List Tok, (toksCells L).length = L.length * 3
  | [] => rfl
  | x :: r => by
    have := toks_len r
    unfold toksCells at *
    rw [List.flatMap_cons, List.length_append, this, List.length_cons]
    show 3 + _ = _
    omega
theorem toks_snoc (L : List Tok) (x : Tok) : toksCells (L ++ [x]) = toksCells L ++ tokCells x := by
  unfold toksCells; rw [List.flatMap_append]; simp
theorem toks_at : ∀ (L : List Tok) (j : Nat) (x : Tok), L[j]? = some x → (toksCells L)[j * 3]? = some (.int .i64 x.k) ∧ (toksCells L)[j * 3 + 1]? = some (.string (bs x.t)) ∧ (toksCells L)[j * 3 + 2]? = some (.int .i64 x.l)
  | [], j, x, h => by simp at h
  | y :: r, 0, x, h => by
    simp at h; subst h
    exact ⟨rfl, rfl, rfl⟩
  | y :: r, j + 1, x, h => by
    have ih := toks_at r j x (by simpa using h)
    have e : toksCells (y :: r) = tokCells y ++ toksCells r := by unfold toksCells; rw [List.flatMap_cons]
    have hl : (tokCells y).length = 3 := rfl
    rw [e]
    refine ⟨?_, ?_, ?_⟩
    · rw [List.getElem?_append_right (by omega), hl, show (j + 1) * 3 - 3 = j * 3 by omega]; exact ih.1
    · rw [List.getElem?_append_right (by omega), hl, show (j + 1) * 3 + 1 - 3 = j * 3 + 1 by omega]; exact ih.2.1
    · rw [List.getElem?_append_right (by omega), hl, show (j + 1) * 3 + 2 - 3 = j * 3 + 2 by omega]; exact ih.2.2
/-- A slice that reads as tokens. -/
def ToksIn (w : World) (A : Option Addr) (L : List Tok) : Prop :=
  0 < L.length → ∃ b off, A = some ⟨b, off, none⟩ ∧ b < w.heap.size ∧ ∀ (j : Nat) (x : Tok), L[j]? = some x →
    w.cell? ⟨b, off + j * 3, none⟩ = some (.int .i64 x.k) ∧ w.cell? ⟨b, off + j * 3 + 1, none⟩ = some (.string (bs x.t)) ∧ w.cell? ⟨b, off + j * 3 + 2, none⟩ = some (.int .i64 x.l)
theorem ToksIn.below {w w' : World} {A : Option Addr} {L : List Tok} (h : ToksIn w A L) (hb : Below w.heap.size w w') : ToksIn w' A L := by
  intro h0
  obtain ⟨b, off, rfl, hlt, hc⟩ := h h0
  refine ⟨b, off, rfl, Nat.lt_of_lt_of_le hlt hb.size, fun j x hx => ?_⟩
  obtain ⟨h1, h2, h3⟩ := hc j x hx
  exact ⟨(hb.cell (p := ⟨b, _, none⟩) hlt).trans h1, (hb.cell (p := ⟨b, _, none⟩) hlt).trans h2, (hb.cell (p := ⟨b, _, none⟩) hlt).trans h3⟩
theorem toks_nil (w : World) (A : Option Addr) : ToksIn w A [] := fun h => by simp at h
theorem toks_own {w : World} {base n c : Nat} {e : TypeId} {A : Option Addr} {L : List Tok} (h : w.ownsRow base e 3 (.slice A n c) n (toksCells L)) (hn : n = L.length) : ToksIn w A L := by
  intro h0
  obtain ⟨g, cap, hv, hb, hlt⟩ := h.form (by omega)
  have hA : A = some ⟨g, 0, none⟩ := by injection hv
  subst hA
  refine ⟨g, 0, rfl, hlt, fun j x hx => ?_⟩
  obtain ⟨h1, h2, h3⟩ := toks_at L j x hx
  have hc := h.cells (g := g) rfl
  have ea : ∀ i, (⟨g, 0, none⟩ : Addr).add i = ⟨g, 0 + i, none⟩ := fun i => by unfold Addr.add; split <;> simp_all
  refine ⟨?_, ?_, ?_⟩
  · have := hc _ _ h1; rw [ea] at this; exact this
  · have := hc _ _ h2; rw [ea] at this; exact this
  · have := hc _ _ h3; rw [ea] at this; exact this
/-- A call that returns tokens, a line and an error. -/
def TokPost (L : List Tok) (ln er : Int) (w : World) (e : Ending) (w' : World) : Prop :=
  ∃ A n c, e = .returned (.tuple #[.slice A n c, .int .i64 ln, .int .i64 er]) ∧ n = L.length ∧ n ≤ c ∧ ToksIn w' A L ∧ Below w.heap.size w w'
theorem tok_fail {x : List Tok × Int × Int} {w w' : World} {ln er : Int} (h : x = ([], ln, er)) (hB : Below w.heap.size w w') : TokPost x.1 x.2.1 x.2.2 w (.returned (.tuple #[.slice none 0 0, .int .i64 ln, .int .i64 er])) w' := by
  subst h
  exact ⟨none, 0, 0, rfl, rfl, Nat.le_refl _, toks_nil _ _, hB⟩
theorem own_slice {w : World} {base n : Nat} {e : TypeId} {sz : Nat} {v : Value} {xs : List Value} (h : w.ownsRow base e sz v n xs) : ∃ A c, v = .slice A n c ∧ n ≤ c := by
  rcases h.2 with ⟨rfl, rfl⟩ | ⟨g, cap, cur, rfl, _, _, hnc, _⟩
  · exact ⟨none, 0, rfl, Nat.le_refl _⟩
  · exact ⟨_, _, rfl, hnc⟩
theorem grown_of {w w' : World} (h : Below w.heap.size w w') : w.grownBy w' none := ⟨h.os, h.tape, h.output, h.size, fun i hi _ => h.block i hi⟩
theorem own_go {w w' : World} {base n sz : Nat} {e : TypeId} {v : Value} {xs : List Value} (h : w.ownsRow base e sz v n xs) (hb : Below w.heap.size w w') : w'.ownsRow base e sz v n xs :=
  h.kept (grown_of hb) (by cases v.ownBlock <;> simp)
theorem new_three (w : World) (t : TypeId) (a b c : Value) : ∀ (j : Nat) (u : Value), [a, b, c][j]? = some u → (w.alloc (.cells #[a, b, c] t)).cell? ((⟨w.heap.size, 0, none⟩ : Addr).add j) = some u := by
  intro j u h
  rw [show (⟨w.heap.size, 0, none⟩ : Addr).add j = ⟨w.heap.size, j, none⟩ from by unfold Addr.add; split <;> simp_all, World.cell?_alloc_mark]
  simpa using h
theorem new_three' {w : World} {g : Nat} (hg : w.heap.size = g) (t : TypeId) (a b c : Value) : ∀ (j : Nat) (u : Value), [a, b, c][j]? = some u → (w.alloc (.cells #[a, b, c] t)).cell? ((⟨g, 0, none⟩ : Addr).add j) = some u := by
  subst hg; exact new_three w t a b c
theorem tok_one (x : Tok) : ∀ u ∈ tokCells x, u.oneCell' = true := by
  intro u hu
  unfold tokCells at hu
  simp at hu
  rcases hu with rfl | rfl | rfl <;> rfl
end Go.Proofs.YtfgnekbkcmpdiaaGreatDoor.K
/- Contract of the reference's Tokens. -/
namespace Go.Proofs.YtfgnekbkcmpdiaaGreatDoor.K
open Go.RowKit
set_option linter.unusedVariables false
set_option maxRecDepth 100000

/-- Behind n bytes of white space. -/
theorem trel_space {s : ByteArray} {k c : Nat} {acc : List Tok} {l0 : Int} {p : Nat} (heq : catT acc (lexR (s.data.toList.drop k) l0) = tokV s.data.toList)
    (hsp : SpOk (s.data.toList.drop k) p) (hc : feeds ((s.data.toList.drop k).take p) = c) : catT acc (lexR (s.data.toList.drop (k + p)) (l0 + (c : Int))) = tokV s.data.toList ∧ blL (s.data.toList.drop (k + p)) = 0 ∧ p + k ≤ s.size ∨ k > s.size := by
  by_cases hk : k ≤ s.size
  · left
    refine ⟨?_, ?_, ?_⟩
    · rw [← heq, hsp.2.2 l0, List.drop_drop, hc]
    · have := hsp.2.1; rwa [List.drop_drop] at this
    · have := hsp.1; rw [List.length_drop, sizeB] at this; omega
  · right; omega

end Go.Proofs.YtfgnekbkcmpdiaaGreatDoor.K
/- Contracts on one token: isToken, written, and the reference's Right. -/
namespace Go.Proofs.YtfgnekbkcmpdiaaGreatDoor.K
open Go.RowKit
set_option linter.unusedVariables false
set_option maxRecDepth 100000

theorem right_1 (t : List UInt8) : rightT 1 t = nameB t := rfl
theorem right_2 (t : List UInt8) : rightT 2 t = numB t := rfl
theorem right_3 (t : List UInt8) : rightT 3 t = quoB t := rfl
theorem right_4 (t : List UInt8) : rightT 4 t = sigB t := rfl
theorem right_no {k : Int} (t : List UInt8) (h1 : k ≠ 1) (h2 : k ≠ 2) (h3 : k ≠ 3) (h4 : k ≠ 4) : rightT k t = false := by
  unfold rightT; rw [if_neg h1, if_neg h2, if_neg h3, if_neg h4]
theorem numV_snd (l : List UInt8) : (numV l).2 = numB l := by unfold numV; split <;> simp_all
theorem quoV_snd (l : List UInt8) : decide ((quoV l).2 = 0) = quoB l := by
  unfold quoV quoB
  by_cases h : 60 < l.length
  · rw [if_pos h, decide_eq_false (show ¬ l.length ≤ 60 by omega)]; rfl
  · rw [if_neg h, decide_eq_true (show l.length ≤ 60 by omega)]
    cases l.all isQu <;> rfl
theorem sig_one {s : ByteArray} (h0 : 0 < s.size) (h : s.size = 1) : sigB s.data.toList = sgI (s[0].toNat : Int) := by
  have e : s.data.toList = [s[0]] := by
    rw [split0 h0, dropE (by omega)]
  rw [sg_int]
  conv => lhs; rw [e]
  rfl
theorem sig_not {s : ByteArray} (h : ¬ s.size = 1) : sigB s.data.toList = false := by
  have hl : s.data.toList.length ≠ 1 := by rw [sizeB]; exact h
  match e : s.data.toList, hl with
  | [], _ => rfl
  | [c], hl => simp at hl
  | c :: d :: r, _ => rfl

end Go.Proofs.YtfgnekbkcmpdiaaGreatDoor.K
/- Contracts on lists of tokens: Same of both sides, slices.Equal, the reference's Few. -/
namespace Go.Proofs.YtfgnekbkcmpdiaaGreatDoor.K
open Go.RowKit
set_option linter.unusedVariables false
set_option maxRecDepth 100000

def sameT (x y : Tok) : Bool := x.k == y.k && x.t == y.t
def sameL : List Tok → List Tok → Bool
  | [], [] => true
  | x :: r, y :: s => sameT x y && sameL r s
  | _, _ => false
theorem sameT_is {x y : Tok} : sameT x y = true ↔ x.k = y.k ∧ x.t = y.t := by unfold sameT; simp
theorem sameL_is : ∀ {a b : List Tok}, sameL a b = true ↔ a.length = b.length ∧ ∀ (j : Nat) (x y : Tok), a[j]? = some x → b[j]? = some y → sameT x y = true
  | [], [] => by simp [sameL]
  | [], y :: s => by simp [sameL]
  | x :: r, [] => by simp [sameL]
  | x :: r, y :: s => by
    have ih := @sameL_is r s
    simp only [sameL, Bool.and_eq_true, ih, List.length_cons]
    constructor
    · rintro ⟨h1, h2, h3⟩
      refine ⟨by omega, fun j u v hu hv => ?_⟩
      cases j with
      | zero => simp at hu hv; subst hu; subst hv; exact h1
      | succ j => exact h3 j u v (by simpa using hu) (by simpa using hv)
    · rintro ⟨h1, h2⟩
      exact ⟨h2 0 x y rfl rfl, by omega, fun j u v hu hv => h2 (j + 1) u v (by simpa using hu) (by simpa using hv)⟩
theorem sameL_no {a b : List Tok} {k : Nat} {x y : Tok} (hx : a[k]? = some x) (hy : b[k]? = some y) (h : sameT x y = false) : sameL a b = false := by
  rw [Bool.eq_false_iff]
  intro hs
  have := (sameL_is.1 hs).2 k x y hx hy
  rw [h] at this; cases this
theorem sameL_len {a b : List Tok} (h : a.length ≠ b.length) : sameL a b = false := by
  rw [Bool.eq_false_iff]
  intro hs
  exact h (sameL_is.1 hs).1
theorem sameL_refl (a : List Tok) : sameL a a = true :=
  sameL_is.2 ⟨rfl, fun j x y hx hy => by rw [hx] at hy; rw [Option.some.inj hy]; exact sameT_is.2 ⟨rfl, rfl⟩⟩
theorem sameL_symm (a b : List Tok) : sameL a b = sameL b a := by
  rw [Bool.eq_iff_iff, sameL_is, sameL_is]
  constructor
  · rintro ⟨h1, h2⟩
    refine ⟨h1.symm, fun j x y hx hy => ?_⟩
    have := sameT_is.1 (h2 j y x hy hx)
    exact sameT_is.2 ⟨this.1.symm, this.2.symm⟩
  · rintro ⟨h1, h2⟩
    refine ⟨h1.symm, fun j x y hx hy => ?_⟩
    have := sameT_is.1 (h2 j y x hy hx)
    exact sameT_is.2 ⟨this.1.symm, this.2.symm⟩
theorem sameL_trans {a b c : List Tok} (h1 : sameL a b = true) (h2 : sameL b c = true) : sameL a c = true := by
  obtain ⟨l1, e1⟩ := sameL_is.1 h1
  obtain ⟨l2, e2⟩ := sameL_is.1 h2
  refine sameL_is.2 ⟨l1.trans l2, fun j x z hx hz => ?_⟩
  have hj : j < b.length := by
    have := (List.getElem?_eq_some_iff.1 hx).1
    omega
  have hy : b[j]? = some b[j] := List.getElem?_eq_getElem hj
  have p := sameT_is.1 (e1 j x _ hx hy)
  have q := sameT_is.1 (e2 j _ z hy hz)
  exact sameT_is.2 ⟨p.1.trans q.1, p.2.trans q.2⟩
theorem sameL_set (ln : Int) : ∀ L : List Tok, sameL L (L.map (setL ln)) = true
  | [] => rfl
  | x :: r => by
    rw [List.map_cons, sameL, sameL_set ln r, Bool.and_true]
    exact sameT_is.2 ⟨rfl, rfl⟩
theorem toList_bs (l : List UInt8) : (bs l).toList = l := by rw [ByteArray.toList_eq]; rfl

def sumT (L : List Tok) : Nat := (L.map (fun x => x.t.length)).sum
def fewB (L : List Tok) : Bool := decide (L.length ≤ 400) && decide (sumT L ≤ 3000)
theorem sum_take {L : List Tok} {k : Nat} {x : Tok} (h : L[k]? = some x) : sumT (L.take (k + 1)) = sumT (L.take k) + x.t.length := by
  obtain ⟨hk, e⟩ := List.getElem?_eq_some_iff.1 h
  unfold sumT
  rw [List.take_succ_eq_append_getElem hk, e]; simp
theorem sum_le (L : List Tok) (k : Nat) : sumT (L.take k) ≤ sumT L := by
  have e : L = L.take k ++ L.drop k := (List.take_append_drop _ _).symm
  have : sumT L = sumT (L.take k) + sumT (L.drop k) := by
    conv => lhs; rw [e]
    unfold sumT; rw [List.map_append, List.sum_append]
  omega
theorem sum_mem {L : List Tok} {x : Tok} (h : x ∈ L) : x.t.length ≤ sumT L := by
  obtain ⟨k, hk, e⟩ := List.mem_iff_getElem.1 h
  have h1 : L[k]? = some x := by rw [List.getElem?_eq_getElem hk, e]
  have h2 := sum_take h1
  have h3 := sum_le L (k + 1)
  omega
theorem few_yes {L : List Tok} (h : fewB L = true) : L.length ≤ 400 ∧ sumT L ≤ 3000 := by
  unfold fewB at h; simpa using h
end Go.Proofs.YtfgnekbkcmpdiaaGreatDoor.K
/- Contracts of Write, both sides. -/
namespace Go.Proofs.YtfgnekbkcmpdiaaGreatDoor.K
open Go.RowKit
set_option linter.unusedVariables false
set_option maxRecDepth 100000

theorem joinW_nil : joinW [] = [] := rfl
theorem joinW_snoc : ∀ (L : List Tok) (x : Tok), L ≠ [] → joinW (L ++ [x]) = joinW L ++ 32 :: wrK x
  | [], _, h => absurd rfl h
  | [a], x, _ => by rw [List.singleton_append, joinW_two, joinW_one, joinW_one]
  | a :: b :: r, x, _ => by
    have ih := joinW_snoc (b :: r) x (by simp)
    rw [List.cons_append, List.cons_append, joinW_two, joinW_two, ← List.cons_append, ih]; simp
theorem take_snoc {L : List Tok} {k : Nat} {x : Tok} (h : L[k]? = some x) : L.take (k + 1) = L.take k ++ [x] := by
  obtain ⟨hk, e⟩ := List.getElem?_eq_some_iff.1 h
  rw [List.take_succ_eq_append_getElem hk, e]
theorem joinW_take {L : List Tok} {k : Nat} {x : Tok} (h : L[k]? = some x) (h0 : 0 < k) : joinW (L.take (k + 1)) = joinW (L.take k) ++ 32 :: wrK x := by
  rw [take_snoc h, joinW_snoc]
  intro e
  obtain ⟨hk, _⟩ := List.getElem?_eq_some_iff.1 h
  have := congrArg List.length e
  rw [List.length_take] at this
  have h2 : min k L.length = 0 := this
  omega
theorem joinW_first {L : List Tok} {x : Tok} (h : L[0]? = some x) : joinW (L.take 1) = wrK x := by
  rw [take_snoc h]; exact joinW_one x
theorem all_snoc {L : List Tok} {k : Nat} {x : Tok} (h : L[k]? = some x) (h1 : (L.take k).all tokR = true) (h2 : tokR x = true) : (L.take (k + 1)).all tokR = true := by
  rw [take_snoc h, List.all_append, h1]; simp [h2]
theorem all_bad {L : List Tok} {k : Nat} {x : Tok} (h : L[k]? = some x) (h2 : tokR x = false) : L.all tokR = false := by
  rw [Bool.eq_false_iff]
  intro ha
  have := List.all_eq_true.1 ha x (List.mem_of_getElem? h)
  rw [h2] at this; cases this
theorem joinW_mono {L : List Tok} (k : Nat) : (joinW (L.take k)).length ≤ (joinW L).length := by
  have hs : ∀ k, k < L.length → (joinW (L.take k)).length ≤ (joinW (L.take (k + 1))).length := by
    intro k hk
    have hx : L[k]? = some L[k] := List.getElem?_eq_getElem hk
    by_cases h0 : 0 < k
    · rw [joinW_take hx h0]; simp
    · obtain rfl : k = 0 := by omega
      rw [List.take_zero, joinW_nil]; simp
  have ht : ∀ d k, k + d = L.length → (joinW (L.take k)).length ≤ (joinW L).length := by
    intro d
    induction d with
    | zero => intro k hk; rw [List.take_of_length_le (by omega)]; exact Nat.le_refl _
    | succ d ih => intro k hk; exact Nat.le_trans (hs k (by omega)) (ih (k + 1) (by omega))
  by_cases hk : k ≤ L.length
  · exact ht (L.length - k) k (by omega)
  · rw [List.take_of_length_le (by omega)]; exact Nat.le_refl _
def TwPost (L : List Tok) (w : World) (e : Ending) (w' : World) : Prop :=
  e = .returned (.tuple #[.string (bs (writeV L).1), .int .i64 (writeV L).2]) ∧ Below w.heap.size w w'
theorem tw_post {L : List Tok} {l : List UInt8} {x : Int} {b : ByteArray} {w w' : World} (h : writeV L = (l, x)) (hb : b = bs l) (hB : Below w.heap.size w w') : TwPost L w (.returned (.tuple #[.string b, .int .i64 x])) w' := by
  subst hb; exact ⟨by rw [h], hB⟩
/-- A row of strings of the call's own. -/
def StRow (f : Nat → ByteArray) (n g : Nat) (w wr : World) : Prop :=
  Below w.heap.size w wr ∧ w.heap.size ≤ g ∧ g < wr.heap.size ∧ (∀ j, j < n → wr.cell? ⟨g, j, none⟩ = some (.string (f j))) ∧ ∀ j, j < n → wr.frozen? ⟨g, j, none⟩ = false
theorem StRow.go {f : Nat → ByteArray} {n g : Nat} {w wr w1 : World} (h : StRow f n g w wr) (hb : Below wr.heap.size wr w1) : StRow f n g w w1 :=
  ⟨btwo h.1 (hb.mono (Nat.le_refl _)), h.2.1, Nat.lt_of_lt_of_le h.2.2.1 hb.size, fun j hj => (hb.cell (p := ⟨g, j, none⟩) h.2.2.1).trans (h.2.2.2.1 j hj), fun j hj => (hb.frozen (p := ⟨g, j, none⟩) h.2.2.1).trans (h.2.2.2.2 j hj)⟩
theorem StRow.set {f f' : Nat → ByteArray} {n g k : Nat} {w wr : World} {x : ByteArray} (h : StRow f n g w wr) (hk : k < n) (he : ∀ j, j ≠ k → f' j = f j) (hx : f' k = x) : StRow f' n g w (wr.setCell ⟨g, k, none⟩ (.string x)) := by
  refine ⟨h.1.setCell (p := ⟨g, k, none⟩) h.2.1 _, h.2.1, by simpa using h.2.2.1, fun j hj => ?_, fun j hj => (World.frozen?_setCell _ _ _ _).trans (h.2.2.2.2 j hj)⟩
  by_cases e : j = k
  · subst e; rw [World.cell?_setCell_same _ _ _ (h.2.2.2.1 j hj), hx]
  · rw [World.cell?_setCell_other _ _ _ _ (by first | (simp; done) | (simp; omega)), h.2.2.2.1 j hj, he j e]
theorem string_info : (Tryz.prog.info? 9).map (fun i => (i.zero, i.size, i.bytes)) = some (some (.string ⟨#[]⟩), 1, 16) := by kernel_rfl
theorem made_strs (n : Nat) : madeCells (Value.string ⟨#[]⟩).cells (n * 1) = (List.replicate n (Value.string ⟨#[]⟩)).toArray := by
  apply Array.ext
  · simp [size_madeCells]
  · intro i h1 h2
    simp [madeCells, Value.cells, Nat.mod_one]
theorem make_str (N : Int) (n : Nat) (h : N = (n : Int)) (hn : n ≤ 1000000) (w : World) :
    (Instr.makeSlice 65 (.int .i64 N) (.int .i64 N)).run Tryz.prog w = .ok (.slice (some ⟨w.heap.size, 0, none⟩) n n) (w.alloc (.cells (List.replicate n (Value.string ⟨#[]⟩)).toArray 9)) := by
  obtain ⟨i0, hi, hz0, hz1, hz2⟩ := info_parts string_info
  have := run_make (P := Tryz.prog) w 65 9 i0 (.string ⟨#[]⟩) Tryz.underlying65 hi hz0 .i64 .i64 N N (by omega) (Int.le_refl _) (by rw [hz2]; omega) (by omega)
  rw [this, hz1, h, ← made_strs]
  simp
theorem strow_new (n : Nat) (w : World) : StRow (fun _ => ⟨#[]⟩) n w.heap.size w (w.alloc (.cells (List.replicate n (Value.string ⟨#[]⟩)).toArray 9)) := by
  refine ⟨bnew _ _, Nat.le_refl _, by simp, fun j hj => ?_, fun j hj => ?_⟩
  · rw [World.cell?_alloc_mark]; simp [hj]
  · rw [World.frozen?_alloc_mark]; simp

theorem tok_load {w : World} {b off k : Nat} {x : Tok} (h : w.cell? ⟨b, off + k * 3, none⟩ = some (.int .i64 x.k) ∧ w.cell? ⟨b, off + k * 3 + 1, none⟩ = some (.string (bs x.t)) ∧ w.cell? ⟨b, off + k * 3 + 2, none⟩ = some (.int .i64 x.l)) {w' : World} (hb : Below w.heap.size w w') (hlt : b < w.heap.size) :
    w'.cell? ⟨b, off + k * 3, none⟩ = some (.int .i64 x.k) ∧ w'.cell? ⟨b, off + k * 3 + 1, none⟩ = some (.string (bs x.t)) ∧ w'.cell? ⟨b, off + k * 3 + 2, none⟩ = some (.int .i64 x.l) :=
  ⟨(hb.cell (p := ⟨b, _, none⟩) hlt).trans h.1, (hb.cell (p := ⟨b, _, none⟩) hlt).trans h.2.1, (hb.cell (p := ⟨b, _, none⟩) hlt).trans h.2.2⟩
end Go.Proofs.YtfgnekbkcmpdiaaGreatDoor.K
/- Contract of the program's Write. -/
namespace Go.Proofs.YtfgnekbkcmpdiaaGreatDoor.K
open Go.RowKit
set_option linter.unusedVariables false
set_option maxRecDepth 100000

def fW (L : List Tok) (k j : Nat) : ByteArray := if j < k then bs (L[j]?.elim [] wrK) else ⟨#[]⟩
theorem fW_zero (L : List Tok) : fW L 0 = fun _ => ⟨#[]⟩ := by funext j; unfold fW; rw [if_neg (by omega)]
theorem fW_same (L : List Tok) {k j : Nat} (h : j ≠ k) : fW L (k + 1) j = fW L k j := by
  unfold fW
  by_cases e : j < k
  · rw [if_pos e, if_pos (by omega)]
  · rw [if_neg e, if_neg (by omega)]
theorem fW_new {L : List Tok} {k : Nat} {x : Tok} (h : L[k]? = some x) : fW L (k + 1) k = bs (wrK x) := by
  unfold fW; rw [if_pos (by omega), h]; rfl
theorem fW_list (L : List Tok) {n : Nat} (h : n = L.length) : ∀ (j : Nat) (y : ByteArray), (L.map (fun x => bs (wrK x)))[j]? = some y → j < n ∧ fW L n j = y := by
  intro j y hj
  obtain ⟨h1, h2⟩ := List.getElem?_eq_some_iff.1 hj
  have hl : j < L.length := by simpa using h1
  refine ⟨by omega, ?_⟩
  unfold fW
  rw [if_pos (by omega), List.getElem?_eq_getElem hl, ← h2]; simp
theorem join_bs (L : List Tok) : Lib.join ((L.map (fun x => bs (wrK x))).map (·.data.toList)) (⟨#[32]⟩ : ByteArray).data.toList = joinW L := by
  unfold joinW
  rw [List.map_map]; rfl
theorem strings_join2 (bk o n c : Nat) (xs : List ByteArray) (sep : ByteArray) (w : World) (hcells : ∀ (j : Nat) x, xs[j]? = some x → w.cell? ⟨bk, o + j, none⟩ = some (.string x)) (hbk : bk < w.heap.size) (hn : xs.length = n) (hN : n ≤ 140737488355328) (hcap : n ≤ c) (hlen : (Lib.join (xs.map (·.data.toList)) sep.data.toList).length ≤ 140737488355328) :
    Calls Tryz.prog 65 #[.slice (some ⟨bk, o, none⟩) n c, .string sep] w fun e w' => e = .returned (.string ⟨(Lib.join (xs.map (·.data.toList)) sep.data.toList).toArray⟩) ∧ Below w.heap.size w w' := by
  subst hn
  exact Tryz.strings_Join bk o c xs sep w hcells hbk hN hcap hlen
end Go.Proofs.YtfgnekbkcmpdiaaGreatDoor.K
/- The lines of a string. Nothing here speaks of the program. -/
namespace Go.Proofs.YtfgnekbkcmpdiaaGreatDoor.K
set_option linter.unusedVariables false

def stepS (p : List (List UInt8) × List UInt8) (c : UInt8) : List (List UInt8) × List UInt8 := if c = 10 then (p.1 ++ [p.2], []) else (p.1, p.2 ++ [c])
def splitS (l : List UInt8) : List (List UInt8) × List UInt8 := l.foldl stepS ([], [])
def splitL (l : List UInt8) : List (List UInt8) := (splitS l).1 ++ [(splitS l).2]
theorem splitS_snoc (l : List UInt8) (c : UInt8) : splitS (l ++ [c]) = stepS (splitS l) c := by simp [splitS, List.foldl_append]
theorem fold_gen (l : List UInt8) (D : List (List UInt8)) (u : List UInt8) : l.foldl stepS (D, u) = (D ++ (l.foldl stepS ([], u)).1, (l.foldl stepS ([], u)).2) := by
  induction l generalizing D u with
  | nil => simp
  | cons c r ih =>
    simp only [List.foldl_cons, stepS]
    by_cases h : c = 10
    · rw [if_pos h, if_pos h, ih, ih ([] ++ [u])]; simp
    · rw [if_neg h, if_neg h, ih]
theorem fold_none (l : List UInt8) (u : List UInt8) (h : ∀ c ∈ l, c ≠ 10) : l.foldl stepS ([], u) = ([], u ++ l) := by
  induction l generalizing u with
  | nil => simp
  | cons c r ih =>
    simp only [List.foldl_cons, stepS]
    rw [if_neg (h c (by simp)), ih _ (fun c hc => h c (by simp [hc]))]
    simp
theorem splitL_none {l : List UInt8} (h : ∀ c ∈ l, c ≠ 10) : splitL l = [l] := by unfold splitL splitS; rw [fold_none l [] h]; rfl
theorem splitS_cut {x r : List UInt8} (h : ∀ c ∈ x, c ≠ 10) : splitS (x ++ 10 :: r) = (x :: (splitS r).1, (splitS r).2) := by
  unfold splitS
  rw [List.foldl_append, fold_none x [] h, List.foldl_cons, stepS, if_pos rfl, fold_gen]
  simp
theorem splitL_cut {x r : List UInt8} (h : ∀ c ∈ x, c ≠ 10) : splitL (x ++ 10 :: r) = x :: splitL r := by unfold splitL; rw [splitS_cut h]; rfl
theorem splitS_end (l : List UInt8) : splitS (l ++ [10]) = (splitL l, []) := by rw [splitS_snoc]; unfold stepS splitL; rw [if_pos rfl]

theorem splitK_L : ∀ (k : Nat) (l : List UInt8), l.count 10 ≤ k → Lib.splitK [10] 0 k l = splitL l := by
  intro k
  induction k with
  | zero =>
    intro l h
    have h0 : l.count 10 = 0 := by omega
    rw [Lib.splitK, splitL_none (fun c hc e => by subst e; exact absurd (List.count_eq_zero.1 h0) (by simp [hc]))]
  | succ k ih =>
    intro l h
    rw [Lib.splitK, Lib.index_one]
    by_cases e : Lib.indexByte l 10 = -1
    · rw [if_pos (by rw [e]; rfl)]
      rw [splitL_none (fun c hc e2 => by
        subst e2
        obtain ⟨j, hj⟩ := List.getElem?_of_mem hc
        exact Lib.indexByte_none e j hj)]
    · obtain ⟨i, hi⟩ := Int.eq_ofNat_of_zero_le (show 0 ≤ Lib.indexByte l 10 by have := Lib.indexByte_ge l 10; omega)
      obtain ⟨h1, h2⟩ := Lib.indexByte_some (o := i) hi
      have hlt : i < l.length := (List.getElem?_eq_some_iff.1 h1).1
      have hd : l = l.take i ++ 10 :: l.drop (i + 1) := by
        have h3 : l[i] = 10 := by
          have := List.getElem?_eq_getElem hlt
          rw [h1] at this; exact (Option.some.inj this).symm
        have h4 := List.drop_eq_getElem_cons hlt
        rw [h3] at h4
        rw [← h4, List.take_append_drop]
      have hn : ∀ c ∈ l.take i, c ≠ 10 := by
        intro c hc e2
        subst e2
        obtain ⟨j, hj⟩ := List.getElem?_of_mem hc
        have hji : j < i := by
          have := (List.getElem?_eq_some_iff.1 hj).1
          rw [List.length_take] at this; omega
        rw [List.getElem?_take_of_lt hji] at hj
        exact h2 j hji hj
      have hc : (l.drop (i + 1)).count 10 ≤ k := by
        have h5 : l.count 10 = (l.take i ++ 10 :: l.drop (i + 1)).count 10 := by rw [← hd]
        rw [List.count_append, List.count_cons_self] at h5
        omega
      have hne : ¬ (Lib.indexByte l 10 == -1) = true := by simp; omega
      rw [if_neg hne]
      have e3 : (Lib.indexByte l 10).toNat = i := by omega
      rw [e3]
      rw [show i + [(10 : UInt8)].length = i + 1 from rfl, ih _ hc, Nat.add_zero]
      conv => rhs; rw [hd]
      rw [splitL_cut hn]
theorem splitL_len (l : List UInt8) : (splitL l).length = l.count 10 + 1 := by
  have h : ∀ (l : List UInt8) (u : List UInt8), (l.foldl stepS ([], u)).1.length = l.count 10 := by
    intro l
    induction l with
    | nil => intro u; rfl
    | cons c r ih =>
      intro u
      simp only [List.foldl_cons, stepS]
      by_cases e : c = 10
      · rw [if_pos e, fold_gen]; subst e; simp [ih]
      · rw [if_neg e, ih, List.count_cons_of_ne (by simpa using e)]
  unfold splitL
  simp only [List.length_append, List.length_singleton]
  rw [show (splitS l).1.length = l.count 10 from h l []]
theorem splitB_map (d : ByteArray) : (Lib.splitB (⟨#[10]⟩ : ByteArray) 0 (Lib.countB d ⟨#[10]⟩) d).map (·.data.toList) = splitL d.data.toList := by
  rw [Lib.splitB_data]
  have h : Lib.countB d ⟨#[10]⟩ = d.data.toList.count 10 := Lib.count_one 10 d.data.toList
  rw [h]
  exact splitK_L _ _ (Nat.le_refl _)


theorem split_last {l : List UInt8} (h : l.getLast? = some 10) : l = l.dropLast ++ [10] := by
  have hne : l ≠ [] := by intro e; rw [e] at h; simp at h
  have h2 := List.dropLast_concat_getLast hne
  have h3 : l.getLast hne = 10 := by rw [List.getLast?_eq_some_getLast hne] at h; exact Option.some.inj h
  rw [h3] at h2; exact h2.symm
def linesV (l : List UInt8) : List (List UInt8) := (splitS l).1 ++ (if (splitS l).2 = [] then [] else [(splitS l).2])
theorem suffix_one {l : List UInt8} : Lib.hasSuffix l [10] = decide (l.getLast? = some 10) := by
  unfold Lib.hasSuffix
  rw [Bool.eq_iff_iff]
  simp only [List.isSuffixOf_iff_suffix, decide_eq_true_eq]
  constructor
  · rintro ⟨t, rfl⟩; simp
  · intro h; exact ⟨l.dropLast, (split_last h).symm⟩
theorem lines_trim {l : List UInt8} (h : l ≠ []) : splitL (Lib.trimSuffix l [10]) = linesV l := by
  unfold Lib.trimSuffix
  rw [suffix_one]
  by_cases hl : l.getLast? = some 10
  · rw [if_pos (by simpa using hl)]
    have e := split_last hl
    have e2 : l.take (l.length - [(10 : UInt8)].length) = l.dropLast := by
      conv => lhs; rw [e]
      simp
    rw [e2]
    unfold linesV
    rw [e, splitS_end]; simp
  · rw [if_neg (by simpa using hl)]
    unfold splitL linesV
    have hc : l = l.dropLast ++ [l.getLast h] := (List.dropLast_concat_getLast h).symm
    have hne : l.getLast h ≠ 10 := fun e => hl (by rw [List.getLast?_eq_some_getLast h, e])
    have : (splitS l).2 ≠ [] := by
      rw [hc, splitS_snoc]
      unfold stepS
      rw [if_neg hne]
      simp
    rw [if_neg this]
theorem lines_nil : linesV [] = [] := by simp [linesV, splitS]
/-- What is behind the last line feed of the first i bytes. -/
def LnAt (l : List UInt8) (i f : Nat) : Prop := f ≤ i ∧ i ≤ l.length ∧ (splitS (l.take i)).2 = (l.drop f).take (i - f)
theorem ln_start (l : List UInt8) : LnAt l 0 0 := ⟨Nat.le_refl _, Nat.zero_le _, by simp [splitS]⟩
theorem ln_feed {l : List UInt8} {i : Nat} (hi : i < l.length) (h10 : l[i] = 10) : splitS (l.take (i + 1)) = (splitL (l.take i), []) := by
  rw [List.take_succ_eq_append_getElem hi, h10, splitS_end]
theorem ln_other {l : List UInt8} {i f : Nat} (h : LnAt l i f) (hi : i < l.length) (h10 : l[i] ≠ 10) : LnAt l (i + 1) f ∧ (splitS (l.take (i + 1))).1 = (splitS (l.take i)).1 := by
  obtain ⟨h1, h2, h3⟩ := h
  have e : splitS (l.take (i + 1)) = ((splitS (l.take i)).1, (splitS (l.take i)).2 ++ [l[i]]) := by
    rw [List.take_succ_eq_append_getElem hi, splitS_snoc]
    unfold stepS
    rw [if_neg h10]
  refine ⟨⟨by omega, by omega, ?_⟩, by rw [e]⟩
  rw [e, h3, show i + 1 - f = (i - f) + 1 by omega, List.take_succ_eq_append_getElem (by rw [List.length_drop]; omega)]
  have hl : i - f < (l.drop f).length := by rw [List.length_drop]; omega
  have e3 : (l.drop f)[i - f]'hl = l[i] := by
    rw [List.getElem_drop]
    simp only [show f + (i - f) = i by omega]
  rw [e3]
theorem ln_new (l : List UInt8) {i : Nat} (hi : i < l.length) (h10 : l[i] = 10) : LnAt l (i + 1) (i + 1) := by
  refine ⟨Nat.le_refl _, by omega, ?_⟩
  rw [ln_feed hi h10]; simp
theorem ln_more {l : List UInt8} {i : Nat} (hi : i < l.length) (h10 : l[i] = 10) : (splitS (l.take (i + 1))).1 = (splitS (l.take i)).1 ++ [(splitS (l.take i)).2] := by
  rw [ln_feed hi h10]; rfl
theorem ln_empty {l : List UInt8} {i f : Nat} (h : LnAt l i f) : (splitS (l.take i)).2 = [] ↔ f = i := by
  obtain ⟨h1, h2, h3⟩ := h
  rw [h3, List.take_eq_nil_iff]
  constructor
  · rintro (h | h)
    · first
        | omega
        | (have h4 : l.length - f = 0 := by rw [← List.length_drop, h]; rfl
           omega)
    · first
        | omega
        | (have h4 : l.length - f = 0 := by rw [← List.length_drop, h]; rfl
           omega)
  · intro h
    first
      | (left; omega)
      | (right; omega)
theorem lines_len (l : List UInt8) : (linesV l).length ≤ l.length := by
  have hg : ∀ (l : List UInt8) (D : List (List UInt8)) (u : List UInt8), (l.foldl stepS (D, u)).1.length + (if (l.foldl stepS (D, u)).2 = [] then 0 else 1) ≤ D.length + (if u = [] then 0 else 1) + l.length := by
    intro l
    induction l with
    | nil => intro D u; exact Nat.le_refl _
    | cons c r ih =>
      intro D u
      simp only [List.foldl_cons, stepS, List.length_cons]
      by_cases hc : c = 10
      · rw [if_pos hc]
        have h1 := ih (D ++ [u]) []
        rw [if_pos (show ([] : List UInt8) = [] from rfl), List.length_append, List.length_singleton] at h1
        omega
      · rw [if_neg hc]
        have h1 := ih D (u ++ [c])
        rw [if_neg (show ¬ u ++ [c] = [] by simp)] at h1
        omega
  have h : ∀ (l : List UInt8), (splitS l).1.length + (if (splitS l).2 = [] then 0 else 1) ≤ l.length := by
    intro l
    have h1 := hg l [] []
    by_cases e : (splitS l).2 = []
    · have e' : (l.foldl stepS ([], [])).2 = [] := e
      rw [if_pos e'] at h1
      rw [if_pos e]
      simpa [splitS] using h1
    · have e' : ¬ (l.foldl stepS ([], [])).2 = [] := e
      rw [if_neg e'] at h1
      rw [if_neg e]
      simpa [splitS] using h1
  have h2 := h l
  unfold linesV
  rw [List.length_append]
  split at h2
  · rename_i e; rw [if_pos e]; simpa using h2
  · rename_i e; rw [if_neg e]; simpa using h2
theorem splitS_len (l : List UInt8) : (splitS l).1.length ≤ l.length := by
  have := lines_len l
  unfold linesV at this
  rw [List.length_append] at this
  omega
end Go.Proofs.YtfgnekbkcmpdiaaGreatDoor.K
/- Contracts: Lines of both sides, the reference's Equal on lists of strings. -/
namespace Go.Proofs.YtfgnekbkcmpdiaaGreatDoor.K
open Go.RowKit
set_option linter.unusedVariables false
set_option maxRecDepth 100000

/-- A slice that reads as strings. -/
def StrsIn (w : World) (A : Option Addr) (L : List (List UInt8)) : Prop :=
  0 < L.length → ∃ g off, A = some ⟨g, off, none⟩ ∧ g < w.heap.size ∧ ∀ (j : Nat) (x : List UInt8), L[j]? = some x → w.cell? ⟨g, off + j, none⟩ = some (.string (bs x))
theorem StrsIn.below {w w' : World} {A : Option Addr} {L : List (List UInt8)} (h : StrsIn w A L) (hb : Below w.heap.size w w') : StrsIn w' A L := by
  intro h0
  obtain ⟨g, off, e, hlt, hc⟩ := h h0
  exact ⟨g, off, e, Nat.lt_of_lt_of_le hlt hb.size, fun j x hx => (hb.cell (p := ⟨g, off + j, none⟩) hlt).trans (hc j x hx)⟩
theorem strs_nil (w : World) (A : Option Addr) : StrsIn w A [] := fun h => by simp at h
def strCells (L : List (List UInt8)) : List Value := L.map fun x => .string (bs x)
theorem strs_own {w : World} {base n c : Nat} {e : TypeId} {A : Option Addr} {L : List (List UInt8)} (h : w.ownsRow base e 1 (.slice A n c) n (strCells L)) (hn : n = L.length) : StrsIn w A L := by
  intro h0
  obtain ⟨g, cap, hv, hb, hlt⟩ := h.form (by omega)
  have hA : A = some ⟨g, 0, none⟩ := by injection hv
  subst hA
  refine ⟨g, 0, rfl, hlt, fun j x hx => ?_⟩
  have hc := h.cells (g := g) rfl j (.string (bs x)) (by unfold strCells; rw [List.getElem?_map, hx]; rfl)
  rw [show (⟨g, 0, none⟩ : Addr).add j = ⟨g, 0 + j, none⟩ from by unfold Addr.add; split <;> simp_all] at hc
  exact hc
def LnPost (M : List (List UInt8)) (w : World) (e : Ending) (w' : World) : Prop :=
  ∃ A n c, e = .returned (.slice A n c) ∧ n = M.length ∧ n ≤ c ∧ StrsIn w' A M ∧ Below w.heap.size w w'
def MaxAt (w : World) : Prop := ∃ m : Int, w.cell? ⟨0, 0, none⟩ = some (.int .i64 m)
theorem MaxAt.below {w w' : World} (h : MaxAt w) (hb : Below w.heap.size w w') : MaxAt w' := by
  obtain ⟨m, hm⟩ := h
  exact ⟨m, (hb.cell (p := ⟨0, 0, none⟩) (World.block_lt_of_cell? _ _ hm)).trans hm⟩
theorem empty_of {s : ByteArray} (h : s.size = 0) : s.data.toList = [] := List.eq_nil_of_length_eq_zero h
theorem ln_nil {l : List UInt8} {w : World} (h : linesV l = []) : LnPost (linesV l) w (.returned (.slice none 0 0)) w := by
  rw [h]; exact ⟨none, 0, 0, rfl, rfl, Nat.le_refl _, strs_nil _ _, Below.refl _ _⟩
theorem ln_split {d : ByteArray} {w : World} {M : List (List UInt8)} (hM : splitL d.data.toList = M) :
    LnPost M w (.returned (.slice (some ⟨w.heap.size, 0, none⟩) (Lib.countB d ⟨#[10]⟩ + 1) (Lib.countB d ⟨#[10]⟩ + 1))) (w.alloc (.cells ((Lib.splitB (⟨#[10]⟩ : ByteArray) 0 (Lib.countB d ⟨#[10]⟩) d).map Value.string).toArray 9)) := by
  have hm := splitB_map d
  have hcb : Lib.countB d ⟨#[10]⟩ + 1 = M.length := by
    rw [← hM, splitL_len]
    exact congrArg (· + 1) (Lib.count_one 10 d.data.toList)
  generalize Lib.splitB (⟨#[10]⟩ : ByteArray) 0 (Lib.countB d ⟨#[10]⟩) d = L at hm
  refine ⟨_, _, _, rfl, hcb, Nat.le_refl _, fun h0 => ⟨w.heap.size, 0, rfl, by simp, fun j x hx => ?_⟩, bnew _ _⟩
  rw [Nat.zero_add, World.cell?_alloc_mark]
  rw [← hM, ← hm, List.getElem?_map] at hx
  cases hj : L[j]? with
  | none => rw [hj] at hx; cases hx
  | some y =>
    rw [hj] at hx
    have e : y.data.toList = x := Option.some.inj hx
    simp [hj, bs_of e]

theorem one_str (s : ByteArray) : ∀ u ∈ [Value.string s], u.oneCell' = true := by
  intro u hu; simp at hu; subst hu; rfl
theorem new_one {w : World} {g : Nat} (hg : w.heap.size = g) (t : TypeId) (x : Value) : ∀ (j : Nat) (u : Value), [x][j]? = some u → (w.alloc (.cells #[x] t)).cell? ((⟨g, 0, none⟩ : Addr).add j) = some u := by
  subst hg
  intro j u hj
  match j, hj with
  | 0, hj => simp at hj; subst hj; simp [Addr.add]
theorem str_snoc (L : List (List UInt8)) (x : List UInt8) : strCells (L ++ [x]) = strCells L ++ [.string (bs x)] := by simp [strCells]
/-- The lines that are in the list behind k bytes. -/
def LnRel (s : ByteArray) (w : World) (v f i : Value) (wr : World) : Prop :=
  ∃ (k q n : Nat) (M : List (List UInt8)), k ≤ s.size ∧ q ≤ k ∧ n ≤ k ∧ i = .int .i64 (k : Int) ∧ f = .int .i64 (q : Int) ∧ LnAt s.data.toList k q ∧ M = (splitS (s.data.toList.take k)).1 ∧ M.length = n ∧ wr.ownsRow w.heap.size 9 1 v n (strCells M) ∧ Below w.heap.size w wr
theorem lnrel_more {s : ByteArray} {w W w4 : World} {k q n : Nat} {M : List (List UInt8)} {v v' : Value} {x : ByteArray} (hk : k < s.size) (h10 : (s[k].toNat : Int) = 10) (hn : n ≤ k) (hat : LnAt s.data.toList k q) (hM : M = (splitS (s.data.toList.take k)).1) (hl : M.length = n) (hx : x = s.extract q k)
    (hW : Below w.heap.size w W) (hbase : ∀ j, v.ownBlock = some j → w.heap.size ≤ j) (hown : w4.ownsRow w.heap.size 9 1 v' (n + 1) (strCells M ++ [.string x])) (hg : W.grownBy w4 v.ownBlock) :
    LnRel s w v' (.int .i64 ((k : Int) + 1)) (.int .i64 ((k : Int) + 1)) w4 := by
  have e10 : s[k] = 10 := byte_is (n := 10) (by omega) (by decide)
  have e11 : s.data.toList[k]'(by rw [sizeB]; exact hk) = 10 := by rw [← getB s k hk]; exact e10
  have hxl : bs (splitS (s.data.toList.take k)).2 = x := by
    rw [hx]
    exact (bs_of (by rw [ext_mid, hat.2.2])).symm
  refine ⟨k + 1, k + 1, n + 1, M ++ [(splitS (s.data.toList.take k)).2], by omega, Nat.le_refl _, by omega, by go_num, by go_num, ln_new _ _ e11, ?_, by simp [hl], ?_, hW.grown hg hW.size hbase⟩
  · rw [hM, ln_more (by rw [sizeB]; exact hk) e11]
  · rw [str_snoc, hxl]; exact hown
theorem lnrel_other {s : ByteArray} {w wr : World} {k q n : Nat} {M : List (List UInt8)} {v : Value} (hk : k < s.size) (h10 : ¬ (s[k].toNat : Int) = 10) (hn : n ≤ k) (hat : LnAt s.data.toList k q) (hM : M = (splitS (s.data.toList.take k)).1) (hl : M.length = n)
    (hown : wr.ownsRow w.heap.size 9 1 v n (strCells M)) (hb : Below w.heap.size w wr) :
    LnRel s w v (.int .i64 (q : Int)) (.int .i64 ((k : Int) + 1)) wr := by
  have e11 : s.data.toList[k]'(by rw [sizeB]; exact hk) ≠ 10 := by rw [← getB s k hk]; exact byte_ne (n := 10) h10 (by decide)
  obtain ⟨h1, h2⟩ := ln_other hat (by rw [sizeB]; exact hk) e11
  exact ⟨k + 1, q, n, M, by omega, by have := h1.1; omega, by omega, by go_num, rfl, h1, by rw [hM, h2], hl, hown, hb⟩
theorem ln_done {s : ByteArray} {w wr : World} {n : Nat} {M : List (List UInt8)} {v : Value} (hM : M = linesV s.data.toList) (hl : M.length = n) (hown : wr.ownsRow w.heap.size 9 1 v n (strCells M)) (hb : Below w.heap.size w wr) : LnPost (linesV s.data.toList) w (.returned v) wr := by
  obtain ⟨A, c, rfl, hc⟩ := own_slice hown
  rw [← hM]
  exact ⟨A, n, c, rfl, hl.symm, hc, strs_own hown hl.symm, hb⟩
theorem ln_end_none {s : ByteArray} {k q : Nat} (hk : k = s.size) (hat : LnAt s.data.toList k q) (hq : q = k) : linesV s.data.toList = (splitS (s.data.toList.take k)).1 := by
  have h := (ln_empty hat).2 hq
  rw [takeAll (by omega)] at h ⊢
  unfold linesV
  rw [if_pos h, List.append_nil]
theorem ln_end_one {s : ByteArray} {k q : Nat} (hk : k = s.size) (hat : LnAt s.data.toList k q) (hq : q ≠ k) : linesV s.data.toList = (splitS (s.data.toList.take k)).1 ++ [(s.extract q k).data.toList] := by
  have h : ¬ (splitS (s.data.toList.take k)).2 = [] := fun e => hq ((ln_empty hat).1 e)
  have h2 := hat.2.2
  rw [ext_mid, ← h2]
  rw [takeAll (by omega)] at h ⊢
  unfold linesV
  rw [if_neg h]
set_option maxHeartbeats 8000000 in
theorem rlines_any (s : ByteArray) (w : World) (hs : s.size ≤ 2000) :
    Calls Tryz.prog 31 #[.string s] w (LnPost (linesV s.data.toList) w) := by
  obtain ⟨i0, hi, hz0, hz1, hz2⟩ := info_parts string_info
  go_enter Tryz.func31, Tryz.ntmps31
  go_wp2
  go_loopw [3, 4, 5] (fun v f i wr => LnRel s w v f i wr ∨ (i = .int .i64 ((s.size : Int) + 1) ∧ LnPost (linesV s.data.toList) w (.returned v) wr)) (fun _ _ i _ => s.size + 1 - (intOf i).toNat)
  case atStart => exact Or.inl ⟨0, 0, 0, [], Nat.zero_le _, Nat.le_refl _, Nat.le_refl _, rfl, rfl, ln_start _, by simp [splitS], rfl, ⟨by rfl, Or.inl ⟨rfl, rfl⟩⟩, Below.refl _ _⟩
  case round =>
    rcases hrel with hrel | ⟨rfl, hdone⟩
    · obtain ⟨k, q, n, M, hk, hq, hn, rfl, rfl, hat, hM, hl, hown, hbr⟩ := hrel
      have HAT := Lib.hid hat
      have HM := Lib.hid hM
      have HL := Lib.hid hl
      have HO := Lib.hid hown
      have HB := Lib.hid hbr
      have hsz := hbr.size
      clear hat hM hl hown hbr
      by_cases hlt : k < s.size
      · have e0 : ((k : Int) == (s.size : Int)) = false := by simp; omega
        by_cases h10 : (s[k].toNat : Int) = 10
        · obtain ⟨x, hx⟩ : ∃ x, x = s.extract q k := ⟨_, rfl⟩
          have HX := Lib.hid hx
          have H10 := Lib.hid h10
          obtain ⟨W, hW⟩ : ∃ W, W = wr.alloc (.cells #[.string x] 9) := ⟨_, rfl⟩
          have HW := Lib.hid (show wr.alloc (.cells #[.string (s.extract q k)] 9) = W by rw [hW, hx])
          have HWB := Lib.hid (show Below wr.heap.size wr W by rw [hW]; exact bnew _ _)
          have HOW := Lib.hid (own_go HO.out HWB.out)
          have HNEW := Lib.hid (show ∀ (j : Nat) (u : Value), [Value.string x][j]? = some u → W.cell? ((⟨wr.heap.size, 0, none⟩ : Addr).add j) = some u from by rw [hW]; exact new_one rfl _ _)
          have hWs : W.heap.size = wr.heap.size + 1 := by rw [hW]; simp
          clear hW hx
          go_wp2_with (at_builtin; rw [HW.out]; refine wpList_append_lies _ rfl (.tmp 31) (.tmp 36) _ rfl w.heap.size 9 i0 _ 1 16 Tryz.underlying65 hi hz0 hz1 hz2 rfl (by omega) _ n (strCells M) rfl HOW.out ⟨wr.heap.size, 0, none⟩ 1 1 [.string x] rfl rfl HNEW.out (one_str _) (by omega) (by unfold maxLen; omega) (by omega) (by omega) _ rfl ?_; intro gg cap w4 hown4 hgrow hat hlt4)
          have HR := Lib.hid (lnrel_more hlt H10.out hn HAT.out HM.out HL.out HX.out (btwo HB.out HWB.out) (fun j hj => (HOW.out.lt j hj).1) hown4 hgrow)
          clear hown4 hgrow hat hlt4
          go_wp2_with fail
          go_roundw
          case rel => exact Or.inl HR.out
          case measure => simp [intOf]; omega
        · have HR := Lib.hid (lnrel_other hlt h10 hn HAT.out HM.out HL.out HO.out HB.out)
          have e1 : ((s[k].toNat : Int) == 10) = false := by simpa using h10
          clear h10
          go_wp2_with fail
          go_roundw
          case rel => exact Or.inl HR.out
          case measure => simp [intOf]; omega
      · obtain rfl : k = s.size := by omega
        have e0 : ((s.size : Int) == (s.size : Int)) = true := by simp
        by_cases hqk : q = s.size
        · have e1 : ((q : Int) == (s.size : Int)) = true := by simp; omega
          have HE := Lib.hid (show M = linesV s.data.toList by rw [HM.out]; exact (ln_end_none rfl HAT.out hqk).symm)
          clear hqk
          go_wp2_with fail
          go_ret
          exact ln_done HE.out HL.out HO.out HB.out
        · have e1 : ((q : Int) == (s.size : Int)) = false := by simp; omega
          obtain ⟨x, hx⟩ : ∃ x, x = s.extract q s.size := ⟨_, rfl⟩
          have HE := Lib.hid (show M ++ [x.data.toList] = linesV s.data.toList by rw [HM.out, hx]; exact (ln_end_one rfl HAT.out hqk).symm)
          obtain ⟨W, hW⟩ : ∃ W, W = wr.alloc (.cells #[.string x] 9) := ⟨_, rfl⟩
          have HW := Lib.hid (show wr.alloc (.cells #[.string (s.extract q s.size)] 9) = W by rw [hW, hx])
          have HWB := Lib.hid (show Below wr.heap.size wr W by rw [hW]; exact bnew _ _)
          have HOW := Lib.hid (own_go HO.out HWB.out)
          have HNEW := Lib.hid (show ∀ (j : Nat) (u : Value), [Value.string x][j]? = some u → W.cell? ((⟨wr.heap.size, 0, none⟩ : Addr).add j) = some u from by rw [hW]; exact new_one rfl _ _)
          have hWs : W.heap.size = wr.heap.size + 1 := by rw [hW]; simp
          clear hW hx hqk
          go_wp2_with (at_builtin; rw [HW.out]; refine wpList_append_lies _ rfl (.tmp 31) (.tmp 36) _ rfl w.heap.size 9 i0 _ 1 16 Tryz.underlying65 hi hz0 hz1 hz2 rfl (by omega) _ n (strCells M) rfl HOW.out ⟨wr.heap.size, 0, none⟩ 1 1 [.string x] rfl rfl HNEW.out (one_str _) (by omega) (by unfold maxLen; omega) (by omega) (by omega) _ rfl ?_; intro gg cap w4 hown4 hgrow hat hlt4)
          have HR := Lib.hid (show LnPost (linesV s.data.toList) w (.returned (.slice (some ⟨gg, 0, none⟩) (n + 1) cap)) w4 from ln_done (n := n + 1) HE.out (by simp [HL.out]) (by rw [str_snoc, ← bs_of (o := x) rfl]; exact hown4) ((btwo HB.out HWB.out).grown hgrow (btwo HB.out HWB.out).size (fun j hj => (HOW.out.lt j hj).1)))
          clear hown4 hgrow hat hlt4
          go_wp2_with fail
          go_roundw
          case rel => exact Or.inr ⟨by first | rfl | go_num, HR.out⟩
          case measure => (simp [intOf]; try omega)
    · have HD := Lib.hid hdone
      clear hdone
      go_wp2_with fail
      go_ret
      exact HD.out

end Go.Proofs.YtfgnekbkcmpdiaaGreatDoor.K
