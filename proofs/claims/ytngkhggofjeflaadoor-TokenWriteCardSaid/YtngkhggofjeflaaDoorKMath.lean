/- Plain functions and lemmas on bytes, names, numbers and tokens. Nothing here speaks of the program. -/
import Derived.WalkKit
import Derived.Shelf.Small.Strs
import Derived.Lib.Bytealg
import Derived.Lib.Atoi
import Derived.Lib.Join
import Derived.Lib.Strings
namespace Go.Proofs.YtngkhggofjeflaaDoor
set_option linter.unusedVariables false

/-! ### Bytes -/
def smI (n : Int) : Bool := decide (97 ≤ n) && decide (n ≤ 122)
def dgI (n : Int) : Bool := decide (48 ≤ n) && decide (n ≤ 57)
def nmI (n : Int) : Bool := smI n || dgI n
def quI (n : Int) : Bool := decide (32 ≤ n) && decide (n ≤ 126) && n != 34
def wsI (n : Int) : Bool := n == 32 || n == 9 || n == 10 || n == 13
def signL : List UInt8 := [123, 125, 40, 41, 91, 93, 47, 59, 58, 126, 64, 61, 94, 44, 46, 124, 43, 42, 60, 62, 45]
def isSm (c : UInt8) : Bool := smI (c.toNat : Int)
def isDg (c : UInt8) : Bool := dgI (c.toNat : Int)
def isNm (c : UInt8) : Bool := nmI (c.toNat : Int)
def isQu (c : UInt8) : Bool := quI (c.toNat : Int)
def isWs (c : UInt8) : Bool := wsI (c.toNat : Int)
def isSg (c : UInt8) : Bool := signL.contains c
def sgI (n : Int) : Bool := isSg n.toNat.toUInt8
theorem sg_int (c : UInt8) : sgI (c.toNat : Int) = isSg c := by
  unfold sgI; rw [show ((c.toNat : Int)).toNat.toUInt8 = c from by simp]
theorem ret_int {a b : Int} {k : IntKind} (h : b = a) : Ending.returned (.int k a) = Ending.returned (.int k b) := by rw [h]
theorem ret_bool {a b : Bool} (h : a = b) : Ending.returned (.bool a) = Ending.returned (.bool b) := by rw [h]
theorem sizeB (s : ByteArray) : s.data.toList.length = s.size := rfl
theorem getB (s : ByteArray) (k : Nat) (h : k < s.size) : s[k] = s.data.toList[k]'(by simpa using h) := rfl
theorem takeS {s : ByteArray} {k : Nat} (h : k < s.size) : s.data.toList.take (k + 1) = s.data.toList.take k ++ [s[k]] :=
  List.take_succ_eq_append_getElem (by rw [sizeB]; exact h)
theorem takeAll {s : ByteArray} {k : Nat} (h : s.size ≤ k) : s.data.toList.take k = s.data.toList :=
  List.take_of_length_le (by rw [sizeB]; exact h)
theorem dropS {s : ByteArray} {k : Nat} (h : k < s.size) : s.data.toList.drop k = s[k] :: s.data.toList.drop (k + 1) :=
  List.drop_eq_getElem_cons (by rw [sizeB]; exact h)
theorem dropE {s : ByteArray} {k : Nat} (h : s.size ≤ k) : s.data.toList.drop k = [] := List.drop_eq_nil_of_le (by rw [sizeB]; exact h)
theorem of_list {o : ByteArray} {l : List UInt8} (h : o.data.toList = l) : o = ⟨l.toArray⟩ := by
  subst h; rfl
theorem cat_any (o x : ByteArray) : (o ++ x).data.toList = o.data.toList ++ x.data.toList := by simp
theorem byte_eq {c d : UInt8} (h : (c.toNat : Int) = (d.toNat : Int)) : c = d := UInt8.toNat_inj.1 (by omega)
theorem byte_is {c : UInt8} {n : Nat} (h : (c.toNat : Int) = (n : Int)) (hn : n < 256) : c = n.toUInt8 := UInt8.toNat_inj.1 (by simp; omega)
theorem byte_ne {c : UInt8} {n : Nat} (h : ¬ (c.toNat : Int) = (n : Int)) (hn : n < 256) : c ≠ n.toUInt8 := by
  rintro rfl; exact h (by simp; omega)
def bs (l : List UInt8) : ByteArray := ⟨l.toArray⟩
theorem bs_list (l : List UInt8) : (bs l).data.toList = l := rfl
theorem bs_of {o : ByteArray} {l : List UInt8} (h : o.data.toList = l) : o = bs l := of_list h
theorem bs_inj {a b : List UInt8} (h : bs a = bs b) : a = b := by rw [← bs_list a, h, bs_list]
theorem bs_size (l : List UInt8) : (bs l).size = l.length := rfl
theorem ext_drop (s : ByteArray) (k : Nat) : (s.extract k s.size).data.toList = s.data.toList.drop k := by
  rw [ByteArray.data_extract, Array.toList_extract, List.extract_eq_take_drop]
  exact List.take_of_length_le (by rw [List.length_drop, sizeB]; omega)
theorem ext_take (s : ByteArray) (k : Nat) : (s.extract 0 k).data.toList = s.data.toList.take k := by
  rw [ByteArray.data_extract, Array.toList_extract, List.extract_eq_take_drop, List.drop_zero, Nat.sub_zero]
theorem ext_mid (s : ByteArray) (a b : Nat) : (s.extract a b).data.toList = (s.data.toList.drop a).take (b - a) := by
  rw [ByteArray.data_extract, Array.toList_extract, List.extract_eq_take_drop]
theorem ext_size (s : ByteArray) (k : Nat) (h : k ≤ s.size) : (s.extract k s.size).size = s.size - k := by rw [ByteArray.size_extract]; omega

/-! ### Runs, names -/
def runL (p : UInt8 → Bool) : List UInt8 → Nat
  | [] => 0
  | c :: r => if p c then runL p r + 1 else 0
theorem runL_le (p : UInt8 → Bool) : ∀ l, runL p l ≤ l.length
  | [] => Nat.le_refl _
  | c :: r => by
    unfold runL
    have := runL_le p r
    split <;> simp <;> omega
theorem runL_all {p : UInt8 → Bool} : ∀ {l : List UInt8}, l.all p = true → runL p l = l.length
  | [], _ => rfl
  | c :: r, h => by
    simp only [List.all_cons, Bool.and_eq_true] at h
    rw [runL, if_pos h.1, runL_all h.2]; rfl
theorem runL_take {p : UInt8 → Bool} : ∀ l : List UInt8, (l.take (runL p l)).all p = true
  | [] => rfl
  | c :: r => by
    unfold runL
    by_cases h : p c = true
    · rw [if_pos h, List.take_succ_cons, List.all_cons, h, runL_take r]; rfl
    · rw [if_neg h]; rfl
theorem runL_len {p : UInt8 → Bool} {l : List UInt8} (h : runL p l = l.length) : l.all p = true := by
  have := runL_take (p := p) l
  rw [h, List.take_length] at this; exact this
theorem runL_cat {p : UInt8 → Bool} : ∀ {a b : List UInt8}, a.all p = true → runL p (a ++ b) = a.length + runL p b
  | [], b, _ => by simp
  | c :: a, b, h => by
    simp only [List.all_cons, Bool.and_eq_true] at h
    rw [List.cons_append, runL, if_pos h.1, runL_cat h.2, List.length_cons]; omega
theorem runL_end {p : UInt8 → Bool} {l : List UInt8} : ∀ c, (l.drop (runL p l)).head? = some c → p c = false := by
  induction l with
  | nil => intro c h; simp [runL] at h
  | cons d r ih =>
    intro c
    unfold runL
    by_cases h : p d = true
    · rw [if_pos h, List.drop_succ_cons]; exact ih c
    · rw [if_neg h]
      intro e
      simp at e
      subst e
      simpa using h
theorem runL_stop {p : UInt8 → Bool} {l : List UInt8} (h : ∀ c, l.head? = some c → p c = false) : runL p l = 0 := by
  cases l with
  | nil => rfl
  | cons c r => rw [runL, if_neg (by rw [h c rfl]; simp)]
def nmR : List UInt8 → Nat
  | [] => 0
  | [c] => if isNm c then 1 else 0
  | c :: d :: r => if isNm c then nmR (d :: r) + 1 else if c == 45 && isNm d then nmR r + 2 else 0
theorem nmR_nm {c : UInt8} (r : List UInt8) (h : isNm c = true) : nmR (c :: r) = nmR r + 1 := by
  cases r with
  | nil => simp [nmR, h]
  | cons d r => simp [nmR, h]
theorem nmR_minus {d : UInt8} (r : List UInt8) (h : isNm d = true) : nmR (45 :: d :: r) = nmR r + 2 := by
  rw [nmR, if_neg (by decide), if_pos (by simp [h])]
theorem nmR_none {c : UInt8} {r : List UInt8} (h : isNm c = false) (h2 : c ≠ 45 ∨ ∀ d, r.head? = some d → isNm d = false) : nmR (c :: r) = 0 := by
  cases r with
  | nil => simp [nmR, h]
  | cons d r =>
    rw [nmR, if_neg (by simp [h]), if_neg]
    rcases h2 with h2 | h2
    · simp [h2]
    · simp [h2 d rfl]
def nmL : List UInt8 → Nat
  | [] => 0
  | c :: r => if isSm c then nmR r + 1 else 0
theorem nmL_cons (c : UInt8) (r : List UInt8) : nmL (c :: r) = if isSm c then nmR r + 1 else 0 := rfl
theorem nmR_le : ∀ l, nmR l ≤ l.length
  | [] => Nat.le_refl _
  | [c] => by unfold nmR; split <;> simp
  | c :: d :: r => by
    have h1 := nmR_le (d :: r)
    have h2 := nmR_le r
    unfold nmR
    simp only [List.length_cons] at h1 ⊢
    split
    · omega
    · split <;> omega
theorem nmL_le : ∀ l, nmL l ≤ l.length
  | [] => Nat.le_refl _
  | c :: r => by
    have := nmR_le r
    rw [nmL_cons, List.length_cons]
    split <;> omega
/-- The name behind a name begins with no byte of a name. -/
theorem nmR_cat : ∀ {a b : List UInt8}, nmR a = a.length → (∀ c, b.head? = some c → isNm c = false ∧ c ≠ 45) → nmR (a ++ b) = a.length
  | [], b, _, h => by
    cases b with
    | nil => rfl
    | cons c r => exact nmR_none (h c rfl).1 (Or.inl (h c rfl).2)
  | [c], b, h0, h => by
    have hc : isNm c = true := by
      unfold nmR at h0
      split at h0
      · assumption
      · simp at h0
    rw [List.cons_append, nmR_nm _ hc, List.nil_append]
    have := nmR_cat (a := []) (b := b) rfl h
    simp at this
    rw [this]; rfl
  | c :: d :: r, b, h0, h => by
    have h1 := nmR_le (d :: r)
    have h2 := nmR_le r
    unfold nmR at h0
    simp only [List.length_cons] at h0 h1
    by_cases hc : isNm c = true
    · rw [if_pos hc] at h0
      have := nmR_cat (a := d :: r) (b := b) (by simp only [List.length_cons]; omega) h
      rw [List.cons_append, nmR_nm _ hc, this]; rfl
    · rw [if_neg hc] at h0
      by_cases hd : (c == 45 && isNm d) = true
      · rw [if_pos hd] at h0
        have := nmR_cat (a := r) (b := b) (by omega) h
        simp only [Bool.and_eq_true, beq_iff_eq] at hd
        rw [hd.1, List.cons_append, List.cons_append, nmR_minus _ hd.2, this]; rfl
      · rw [if_neg hd] at h0; omega
theorem nmR_take : ∀ l : List UInt8, nmR (l.take (nmR l)) = nmR l
  | [] => rfl
  | [c] => by
    by_cases hc : isNm c = true
    · rw [nmR_nm _ hc]; simp [nmR, hc]
    · rw [nmR_none (by simpa using hc) (Or.inr (by simp))]; rfl
  | c :: d :: r => by
    by_cases hc : isNm c = true
    · rw [nmR_nm _ hc, List.take_succ_cons, nmR_nm _ hc, nmR_take (d :: r)]
    · by_cases hd : (c == 45 && isNm d) = true
      · simp only [Bool.and_eq_true, beq_iff_eq] at hd
        rw [hd.1, nmR_minus _ hd.2, List.take_succ_cons, List.take_succ_cons, nmR_minus _ hd.2, nmR_take r]
      · have : nmR (c :: d :: r) = 0 := by
          unfold nmR; rw [if_neg hc, if_neg hd]
        rw [this]; rfl

/-! ### White space -/
def noLF (c : UInt8) : Bool := c != 10
def blL : List UInt8 → Nat
  | [] => 0
  | c :: r => if isWs c then 1 else if c == 35 then runL noLF r + 1 else 0
theorem blL_cons (c : UInt8) (r : List UInt8) : blL (c :: r) = if isWs c then 1 else if c == 35 then runL noLF r + 1 else 0 := rfl
def feeds (l : List UInt8) : Nat := l.count 10
theorem blL_le : ∀ l, blL l ≤ l.length
  | [] => Nat.le_refl _
  | c :: r => by
    have := runL_le noLF r
    rw [blL_cons, List.length_cons]
    split
    · omega
    · split <;> omega

/-! ### Numbers -/
def numB (l : List UInt8) : Bool := l != [] && decide (l.length ≤ 6) && runL isDg l == l.length && !(l.head? == some 48 && decide (1 < l.length))
def decF (a : Nat) (l : List UInt8) : Nat := l.foldl (fun a c => a * 10 + (c.toNat - 48)) a
theorem decF_nil (a : Nat) : decF a [] = a := rfl
theorem decF_cons (a : Nat) (c : UInt8) (r : List UInt8) : decF a (c :: r) = decF (a * 10 + (c.toNat - 48)) r := by unfold decF; rw [List.foldl_cons]
theorem decFrom_is : ∀ (l : List UInt8) (a : Nat), l.all isDg = true → Lib.decFrom a l = some (decF a l)
  | [], a, _ => rfl
  | c :: r, a, h => by
    simp only [List.all_cons, Bool.and_eq_true] at h
    have hc := h.1
    unfold isDg dgI at hc
    simp only [Bool.and_eq_true, decide_eq_true_eq] at hc
    have hd : Lib.digitVal c = some (c.toNat - 48) := by unfold Lib.digitVal; rw [if_pos (by omega)]
    unfold Lib.decFrom
    rw [hd, decF_cons]
    exact decFrom_is r _ h.2
theorem decF_lt {l : List UInt8} {a : Nat} (h : l.all isDg = true) : decF a l < (a + 1) * 10 ^ l.length := Lib.decFrom_lt l a _ (decFrom_is l a h)
theorem pw_le {n : Nat} (h : n ≤ 6) : 10 ^ n ≤ 1000000 := by
  have : 10 ^ n ≤ 10 ^ 6 := Nat.pow_le_pow_right (by decide) h
  omega
theorem decF_small {l : List UInt8} (h : l.all isDg = true) (hl : l.length ≤ 6) : decF 0 l < 1000000 := by
  have h1 := decF_lt (a := 0) h
  have h2 := pw_le hl
  omega
theorem atoi_is {l : List UInt8} (hne : l ≠ []) (h : l.all isDg = true) : Lib.atoi l = some (decF 0 l : Int) := by
  cases l with
  | nil => exact absurd rfl hne
  | cons c r =>
    have hc : isDg c = true := by simp only [List.all_cons, Bool.and_eq_true] at h; exact h.1
    have h1 : (c == 45) = false := by
      rw [beq_eq_false_iff_ne]; rintro rfl; exact absurd hc (by decide)
    have h2 : (c == 43) = false := by
      rw [beq_eq_false_iff_ne]; rintro rfl; exact absurd hc (by decide)
    simp only [Lib.atoi, h1, h2, Bool.false_eq_true, if_false, Lib.decNat, List.isEmpty_cons, decFrom_is _ _ h]; rfl
theorem decF_snoc (l : List UInt8) (c : UInt8) (a : Nat) : decF a (l ++ [c]) = decF a l * 10 + (c.toNat - 48) := by
  unfold decF; rw [List.foldl_append]; rfl
def numV (l : List UInt8) : Int × Bool := if numB l then ((decF 0 l : Int), true) else (0, false)
theorem num_all {l : List UInt8} (h : numB l = true) : l ≠ [] ∧ l.length ≤ 6 ∧ l.all isDg = true ∧ ¬ (l.head? = some 48 ∧ 1 < l.length) := by
  unfold numB at h
  simp only [Bool.and_eq_true, bne_iff_ne, decide_eq_true_eq, beq_iff_eq, Bool.not_eq_true', Bool.and_eq_false_imp, beq_iff_eq, decide_eq_false_iff_not] at h
  obtain ⟨⟨⟨h1, h2⟩, h3⟩, h4⟩ := h
  exact ⟨h1, h2, runL_len h3, fun ⟨a, b⟩ => h4 a b⟩
theorem numB_mk {l : List UInt8} (h1 : l ≠ []) (h2 : l.length ≤ 6) (h3 : runL isDg l = l.length) (h4 : l.head? = some 48 → l.length ≤ 1) : numB l = true := by
  unfold numB
  simp only [Bool.and_eq_true, bne_iff_ne, decide_eq_true_eq, beq_iff_eq, Bool.not_eq_true', Bool.and_eq_false_imp, decide_eq_false_iff_not]
  exact ⟨⟨⟨h1, h2⟩, h3⟩, fun h => by have := h4 h; omega⟩

/-! ### Tokens -/
structure Tok where
  k : Int
  t : List UInt8
  l : Int
def nameB (l : List UInt8) : Bool := l != [] && decide (l.length ≤ 20) && nmL l == l.length
def quoB (l : List UInt8) : Bool := decide (l.length ≤ 60) && l.all isQu
def sigB : List UInt8 → Bool
  | [c] => isSg c
  | _ => false
def rightT (k : Int) (t : List UInt8) : Bool := if k = 1 then nameB t else if k = 2 then numB t else if k = 3 then quoB t else if k = 4 then sigB t else false
def wrT (k : Int) (t : List UInt8) : List UInt8 := if k = 3 then 34 :: (t ++ [34]) else t
/-- The kind, the text, the size and the error of the first token. -/
def nxV : List UInt8 → Int × List UInt8 × Nat × Int
  | [] => (0, [], 0, 2)
  | c :: r =>
    if isSm c then (if 20 < nmL (c :: r) then (0, [], 0, 3) else (1, (c :: r).take (nmL (c :: r)), nmL (c :: r), 0))
    else if isDg c then (if 6 < runL isDg (c :: r) then (0, [], 0, 3) else if c = 48 ∧ 1 < runL isDg (c :: r) then (0, [], 0, 2) else (2, (c :: r).take (runL isDg (c :: r)), runL isDg (c :: r), 0))
    else if c = 34 then (if (r.drop (runL isQu r)).head? = some 34 then (if 60 < runL isQu r then (0, [], 0, 3) else (3, r.take (runL isQu r), runL isQu r + 2, 0)) else (0, [], 0, 2))
    else if isSg c then (4, [c], 1, 0) else (0, [], 0, 2)
theorem nxV_cons (c : UInt8) (r : List UInt8) : nxV (c :: r) =
    if isSm c then (if 20 < nmL (c :: r) then (0, [], 0, 3) else (1, (c :: r).take (nmL (c :: r)), nmL (c :: r), 0))
    else if isDg c then (if 6 < runL isDg (c :: r) then (0, [], 0, 3) else if c = 48 ∧ 1 < runL isDg (c :: r) then (0, [], 0, 2) else (2, (c :: r).take (runL isDg (c :: r)), runL isDg (c :: r), 0))
    else if c = 34 then (if (r.drop (runL isQu r)).head? = some 34 then (if 60 < runL isQu r then (0, [], 0, 3) else (3, r.take (runL isQu r), runL isQu r + 2, 0)) else (0, [], 0, 2))
    else if isSg c then (4, [c], 1, 0) else (0, [], 0, 2) := rfl
def consT (t : Tok) (x : List Tok × Int × Int) : List Tok × Int × Int := if x.2.2 = 0 then (t :: x.1, x.2) else x
def catT (a : List Tok) (x : List Tok × Int × Int) : List Tok × Int × Int := if x.2.2 = 0 then (a ++ x.1, x.2) else x
theorem catT_cons (a : List Tok) (t : Tok) (x : List Tok × Int × Int) : catT a (consT t x) = catT (a ++ [t]) x := by
  unfold catT consT
  by_cases h : x.2.2 = 0
  · rw [if_pos h, if_pos h, if_pos h]; simp
  · rw [if_neg h, if_neg h, if_neg h]
theorem catT_nil (x : List Tok × Int × Int) : catT [] x = x := by
  unfold catT; split <;> simp
def lexR (l : List UInt8) (ln : Int) : List Tok × Int × Int :=
  match l with
  | [] => ([], 0, 0)
  | c :: r =>
    if blL (c :: r) = 0 then
      if (nxV (c :: r)).2.2.2 = 0 then consT ⟨(nxV (c :: r)).1, (nxV (c :: r)).2.1, ln⟩ (lexR (r.drop ((nxV (c :: r)).2.2.1 - 1)) ln)
      else ([], ln, (nxV (c :: r)).2.2.2)
    else lexR (r.drop (blL (c :: r) - 1)) (ln + (feeds ((c :: r).take (blL (c :: r))) : Int))
termination_by l.length
decreasing_by all_goals (simp only [List.length_drop, List.length_cons]; omega)
theorem lex_nil (ln : Int) : lexR [] ln = ([], 0, 0) := by rw [lexR]
theorem lex_blank {l : List UInt8} {b : Nat} (ln : Int) (h : blL l = b) (h0 : 0 < b) : lexR l ln = lexR (l.drop b) (ln + (feeds (l.take b) : Int)) := by
  subst h
  cases l with
  | nil => simp [blL] at h0
  | cons c r =>
    rw [lexR, if_neg (by omega)]
    congr 1
    obtain ⟨m, hm⟩ : ∃ m, blL (c :: r) = m + 1 := ⟨blL (c :: r) - 1, by omega⟩
    rw [hm, List.drop_succ_cons]; rfl
theorem lex_bad {l : List UInt8} {e : Int} (ln : Int) (h0 : l ≠ []) (h : blL l = 0) (h1 : (nxV l).2.2.2 = e) (h2 : e ≠ 0) : lexR l ln = ([], ln, e) := by
  cases l with
  | nil => exact absurd rfl h0
  | cons c r => rw [lexR, if_pos h, if_neg (by rw [h1]; exact h2), h1]
theorem lex_tok {l : List UInt8} {k : Int} {t : List UInt8} {n : Nat} (ln : Int) (h : blL l = 0) (h1 : nxV l = (k, t, n, 0)) (h2 : 0 < n) : lexR l ln = consT ⟨k, t, ln⟩ (lexR (l.drop n) ln) := by
  cases l with
  | nil => simp [nxV] at h1
  | cons c r =>
    rw [lexR, if_pos h, if_pos (by rw [h1]), h1]
    obtain ⟨m, hm⟩ : ∃ m, n = m + 1 := ⟨n - 1, by omega⟩
    subst hm
    rfl
theorem isSm_nm {c : UInt8} (h : isSm c = true) : isNm c = true := by unfold isNm nmI; unfold isSm at h; rw [h]; rfl
theorem isDg_nm {c : UInt8} (h : isDg c = true) : isNm c = true := by unfold isNm nmI; unfold isDg at h; rw [h]; simp
theorem sm_dg {c : UInt8} (h : isSm c = true) : isDg c = false := by
  unfold isSm smI at h
  unfold isDg dgI
  simp only [Bool.and_eq_true, decide_eq_true_eq] at h
  simp; omega
theorem nx_nm {c : UInt8} {r : List UInt8} {n : Nat} (h : isSm c = true) (hn : nmL (c :: r) = n) (h1 : ¬ 20 < n) : nxV (c :: r) = (1, (c :: r).take n, n, 0) := by
  subst hn; rw [nxV_cons, if_pos h, if_neg h1]
theorem nx_nm_big {c : UInt8} {r : List UInt8} {n : Nat} (h : isSm c = true) (hn : nmL (c :: r) = n) (h1 : 20 < n) : nxV (c :: r) = (0, [], 0, 3) := by
  subst hn; rw [nxV_cons, if_pos h, if_pos h1]
theorem nx_dg_big {c : UInt8} {r : List UInt8} {n : Nat} (h : isSm c = false) (h1 : isDg c = true) (hn : runL isDg (c :: r) = n) (h2 : 6 < n) : nxV (c :: r) = (0, [], 0, 3) := by
  subst hn; rw [nxV_cons, if_neg (by simp [h]), if_pos h1, if_pos h2]
theorem nx_dg_zero {c : UInt8} {r : List UInt8} {n : Nat} (h : isSm c = false) (h1 : isDg c = true) (hn : runL isDg (c :: r) = n) (h2 : ¬ 6 < n) (h3 : c = 48) (h4 : 1 < n) : nxV (c :: r) = (0, [], 0, 2) := by
  subst hn; rw [nxV_cons, if_neg (by simp [h]), if_pos h1, if_neg h2, if_pos ⟨h3, h4⟩]
theorem nx_dg {c : UInt8} {r : List UInt8} {n : Nat} (h : isSm c = false) (h1 : isDg c = true) (hn : runL isDg (c :: r) = n) (h2 : ¬ 6 < n) (h3 : ¬ (c = 48 ∧ 1 < n)) : nxV (c :: r) = (2, (c :: r).take n, n, 0) := by
  subst hn; rw [nxV_cons, if_neg (by simp [h]), if_pos h1, if_neg h2, if_neg h3]
theorem nx_qu_bad {c : UInt8} {r : List UInt8} {n : Nat} (h : c = 34) (hn : runL isQu r = n) (h1 : (r.drop n).head? ≠ some 34) : nxV (c :: r) = (0, [], 0, 2) := by
  subst hn; subst h; rw [nxV_cons, if_neg (by decide), if_neg (by decide), if_pos rfl, if_neg h1]
theorem nx_qu_big {c : UInt8} {r : List UInt8} {n : Nat} (h : c = 34) (hn : runL isQu r = n) (h1 : (r.drop n).head? = some 34) (h2 : 60 < n) : nxV (c :: r) = (0, [], 0, 3) := by
  subst hn; subst h; rw [nxV_cons, if_neg (by decide), if_neg (by decide), if_pos rfl, if_pos h1, if_pos h2]
theorem nx_qu {c : UInt8} {r : List UInt8} {n : Nat} (h : c = 34) (hn : runL isQu r = n) (h1 : (r.drop n).head? = some 34) (h2 : ¬ 60 < n) : nxV (c :: r) = (3, r.take n, n + 2, 0) := by
  subst hn; subst h; rw [nxV_cons, if_neg (by decide), if_neg (by decide), if_pos rfl, if_pos h1, if_neg h2]
theorem nx_sg {c : UInt8} {r : List UInt8} (h : isSm c = false) (h1 : isDg c = false) (h2 : c ≠ 34) (h3 : isSg c = true) : nxV (c :: r) = (4, [c], 1, 0) := by
  rw [nxV_cons, if_neg (by simp [h]), if_neg (by simp [h1]), if_neg h2, if_pos h3]
theorem nx_no {c : UInt8} {r : List UInt8} (h : isSm c = false) (h1 : isDg c = false) (h2 : c ≠ 34) (h3 : isSg c = false) : nxV (c :: r) = (0, [], 0, 2) := by
  rw [nxV_cons, if_neg (by simp [h]), if_neg (by simp [h1]), if_neg h2, if_neg (by simp [h3])]
/-- What the first token is, if there is one: right, and what stands there. -/
theorem nx_right {l : List UInt8} {k : Int} {t : List UInt8} {n : Nat} (h : nxV l = (k, t, n, 0)) : rightT k t = true ∧ wrT k t = l.take n ∧ 0 < n ∧ n ≤ l.length := by
  cases l with
  | nil => simp [nxV] at h
  | cons c r =>
    rw [nxV_cons] at h
    by_cases h1 : isSm c = true
    · rw [if_pos h1] at h
      split at h
      · simp at h
      · rename_i h2
        injection h with ha hb
        injection hb with hb hc
        injection hc with hc _
        subst ha; subst hb; subst hc
        have hle := nmL_le (c :: r)
        have e : nmL (c :: r) = nmR r + 1 := by rw [nmL_cons, if_pos h1]
        refine ⟨?_, rfl, by omega, hle⟩
        show nameB _ = true
        have hl : ((c :: r).take (nmL (c :: r))).length = nmL (c :: r) := by rw [List.length_take]; omega
        unfold nameB
        rw [hl]
        simp only [Bool.and_eq_true, bne_iff_ne, decide_eq_true_eq, beq_iff_eq]
        refine ⟨⟨?_, by omega⟩, ?_⟩
        · rw [e]; simp
        · rw [e, List.take_succ_cons, nmL_cons, if_pos h1, nmR_take]
    · rw [if_neg h1] at h
      by_cases h2 : isDg c = true
      · rw [if_pos h2] at h
        split at h
        · simp at h
        · rename_i h3
          split at h
          · simp at h
          · rename_i h4
            injection h with ha hb
            injection hb with hb hc
            injection hc with hc _
            subst ha; subst hb; subst hc
            have hle := runL_le isDg (c :: r)
            have e : runL isDg (c :: r) = runL isDg r + 1 := by rw [runL, if_pos h2]
            have hl : ((c :: r).take (runL isDg (c :: r))).length = runL isDg (c :: r) := by rw [List.length_take]; omega
            refine ⟨?_, rfl, by omega, hle⟩
            show numB _ = true
            refine numB_mk ?_ (by rw [hl]; omega) ?_ ?_
            · rw [e]; simp
            · exact runL_all (runL_take _)
            · rw [hl, e]
              intro hh
              simp at hh
              subst hh
              rw [e] at h4
              simp at h4; omega
      · rw [if_neg h2] at h
        by_cases h3 : c = 34
        · rw [if_pos h3] at h
          split at h
          · rename_i h4
            split at h
            · simp at h
            · rename_i h5
              injection h with ha hb
              injection hb with hb hc
              injection hc with hc _
              subst ha; subst hb; subst hc
              have hle := runL_le isQu r
              have hlt : runL isQu r < r.length := by
                rcases Nat.lt_or_ge (runL isQu r) r.length with e | e
                · exact e
                · rw [List.drop_eq_nil_of_le e] at h4; simp at h4
              have hl : (r.take (runL isQu r)).length = runL isQu r := by rw [List.length_take]; omega
              refine ⟨?_, ?_, by omega, by simp; omega⟩
              · show quoB _ = true
                unfold quoB
                rw [hl, runL_take]
                simp; omega
              · show 34 :: (r.take (runL isQu r) ++ [34]) = _
                rw [h3, List.take_succ_cons, List.take_succ_eq_append_getElem hlt]
                have : r[runL isQu r] = 34 := by
                  rw [List.drop_eq_getElem_cons hlt] at h4
                  exact Option.some.inj h4
                rw [this]
          · simp at h
        · rw [if_neg h3] at h
          split at h
          · rename_i h4
            injection h with ha hb
            injection hb with hb hc
            injection hc with hc _
            subst ha; subst hb; subst hc
            exact ⟨h4, rfl, by omega, by simp⟩
          · simp at h
end Go.Proofs.YtngkhggofjeflaaDoor
