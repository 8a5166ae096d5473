/- Several texts in one: OK. -/
import Derived.WalkKit
import Derived.Shelf.Small.Strs
import Derived.Lib.Bytealg
import Derived.Lib.Atoi
import Derived.Lib.Join
import Derived.Lib.Strings
import Derived.Test.YtjamfcihjendiaaGreatRows
import Derived.Test.YtjamfcihjendiaaGreatRaab
import Derived.WalkSpells
import Derived.WalkLawsBesides
import Derived.IntWalk
import Derived.Lib.Hide
import Derived.Outline
import Derived.Below
import Derived.Lib.AtoiErrMem
import Derived.Deep.QuietTactic
import Derived.BigQuiet
import Derived.Deep.RegionLaw
import Derived.Deep.AppendLies
import Derived.OwnWalk
import Derived.Lib.SplitLaws
namespace Go.Proofs.YtjamfcihjendiaaGreat.K
set_option linter.unusedVariables false

def smI (n : Int) : Bool := decide (97 ≤ n) && decide (n ≤ 122)
def dgI (n : Int) : Bool := decide (48 ≤ n) && decide (n ≤ 57)
def nmI (n : Int) : Bool := smI n || dgI n
def isSm (c : UInt8) : Bool := smI (c.toNat : Int)
def isDg (c : UInt8) : Bool := dgI (c.toNat : Int)
def isNm (c : UInt8) : Bool := nmI (c.toNat : Int)
theorem ret_int {a b : Int} {k : IntKind} (h : b = a) : Ending.returned (.int k a) = Ending.returned (.int k b) := by rw [h]
theorem ret_bool {a b : Bool} (h : a = b) : Ending.returned (.bool a) = Ending.returned (.bool b) := by rw [h]
theorem sizeB (s : ByteArray) : s.data.toList.length = s.size := rfl
theorem getB (s : ByteArray) (k : Nat) (h : k < s.size) : s[k] = s.data.toList[k]'(by simpa using h) := rfl
theorem takeS {s : ByteArray} {k : Nat} (h : k < s.size) : s.data.toList.take (k + 1) = s.data.toList.take k ++ [s[k]] :=
  List.take_succ_eq_append_getElem (by rw [sizeB]; exact h)
theorem takeAll {s : ByteArray} {k : Nat} (h : s.size ≤ k) : s.data.toList.take k = s.data.toList :=
  List.take_of_length_le (by rw [sizeB]; exact h)
theorem dropS {s : ByteArray} {k : Nat} (h : k < s.size) : s.data.toList.drop k = s[k] :: s.data.toList.drop (k + 1) :=
  List.drop_eq_getElem_cons (by rw [sizeB]; exact h)
theorem dropE {s : ByteArray} {k : Nat} (h : s.size ≤ k) : s.data.toList.drop k = [] := List.drop_eq_nil_of_le (by rw [sizeB]; exact h)
theorem of_list {o : ByteArray} {l : List UInt8} (h : o.data.toList = l) : o = ⟨l.toArray⟩ := by
  subst h; rfl
theorem cat_any (o x : ByteArray) : (o ++ x).data.toList = o.data.toList ++ x.data.toList := by simp
theorem byte_eq {c d : UInt8} (h : (c.toNat : Int) = (d.toNat : Int)) : c = d := UInt8.toNat_inj.1 (by omega)
theorem byte_is {c : UInt8} {n : Nat} (h : (c.toNat : Int) = (n : Int)) (hn : n < 256) : c = n.toUInt8 := UInt8.toNat_inj.1 (by simp; omega)
theorem byte_ne {c : UInt8} {n : Nat} (h : ¬ (c.toNat : Int) = (n : Int)) (hn : n < 256) : c ≠ n.toUInt8 := by
  rintro rfl; exact h (by simp; omega)
def bs (l : List UInt8) : ByteArray := ⟨l.toArray⟩
theorem bs_list (l : List UInt8) : (bs l).data.toList = l := rfl
theorem bs_of {o : ByteArray} {l : List UInt8} (h : o.data.toList = l) : o = bs l := of_list h
theorem bs_size (l : List UInt8) : (bs l).size = l.length := rfl
theorem ext_drop (s : ByteArray) (k : Nat) : (s.extract k s.size).data.toList = s.data.toList.drop k := by
  rw [ByteArray.data_extract, Array.toList_extract, List.extract_eq_take_drop]
  exact List.take_of_length_le (by rw [List.length_drop, sizeB]; omega)
theorem ext_take (s : ByteArray) (k : Nat) : (s.extract 0 k).data.toList = s.data.toList.take k := by
  rw [ByteArray.data_extract, Array.toList_extract, List.extract_eq_take_drop, List.drop_zero, Nat.sub_zero]
theorem ext_mid (s : ByteArray) (a b : Nat) : (s.extract a b).data.toList = (s.data.toList.drop a).take (b - a) := by
  rw [ByteArray.data_extract, Array.toList_extract, List.extract_eq_take_drop]
theorem ext_size (s : ByteArray) (k : Nat) (h : k ≤ s.size) : (s.extract k s.size).size = s.size - k := by rw [ByteArray.size_extract]; omega

def runL (p : UInt8 → Bool) : List UInt8 → Nat
  | [] => 0
  | c :: r => if p c then runL p r + 1 else 0
theorem runL_le (p : UInt8 → Bool) : ∀ l, runL p l ≤ l.length
  | [] => Nat.le_refl _
  | c :: r => by
    unfold runL
    have := runL_le p r
    split <;> simp <;> omega
theorem runL_all {p : UInt8 → Bool} : ∀ {l : List UInt8}, l.all p = true → runL p l = l.length
  | [], _ => rfl
  | c :: r, h => by
    simp only [List.all_cons, Bool.and_eq_true] at h
    rw [runL, if_pos h.1, runL_all h.2]; rfl
theorem runL_take {p : UInt8 → Bool} : ∀ l : List UInt8, (l.take (runL p l)).all p = true
  | [] => rfl
  | c :: r => by
    unfold runL
    by_cases h : p c = true
    · rw [if_pos h, List.take_succ_cons, List.all_cons, h, runL_take r]; rfl
    · rw [if_neg h]; rfl
theorem runL_len {p : UInt8 → Bool} {l : List UInt8} (h : runL p l = l.length) : l.all p = true := by
  have := runL_take (p := p) l
  rw [h, List.take_length] at this; exact this
theorem runL_cat {p : UInt8 → Bool} : ∀ {a b : List UInt8}, a.all p = true → runL p (a ++ b) = a.length + runL p b
  | [], b, _ => by simp
  | c :: a, b, h => by
    simp only [List.all_cons, Bool.and_eq_true] at h
    rw [List.cons_append, runL, if_pos h.1, runL_cat h.2, List.length_cons]; omega
def nmR : List UInt8 → Nat
  | [] => 0
  | [c] => if isNm c then 1 else 0
  | c :: d :: r => if isNm c then nmR (d :: r) + 1 else if c == 45 && isNm d then nmR r + 2 else 0
theorem nmR_nm {c : UInt8} (r : List UInt8) (h : isNm c = true) : nmR (c :: r) = nmR r + 1 := by
  cases r with
  | nil => simp [nmR, h]
  | cons d r => simp [nmR, h]
theorem nmR_minus {d : UInt8} (r : List UInt8) (h : isNm d = true) : nmR (45 :: d :: r) = nmR r + 2 := by
  rw [nmR, if_neg (by decide), if_pos (by simp [h])]
theorem nmR_none {c : UInt8} {r : List UInt8} (h : isNm c = false) (h2 : c ≠ 45 ∨ ∀ d, r.head? = some d → isNm d = false) : nmR (c :: r) = 0 := by
  cases r with
  | nil => simp [nmR, h]
  | cons d r =>
    rw [nmR, if_neg (by simp [h]), if_neg]
    rcases h2 with h2 | h2
    · simp [h2]
    · simp [h2 d rfl]
def nmL : List UInt8 → Nat
  | [] => 0
  | c :: r => if isSm c then nmR r + 1 else 0
theorem nmL_cons (c : UInt8) (r : List UInt8) : nmL (c :: r) = if isSm c then nmR r + 1 else 0 := rfl
theorem nmR_le : ∀ l, nmR l ≤ l.length
  | [] => Nat.le_refl _
  | [c] => by unfold nmR; split <;> simp
  | c :: d :: r => by
    have h1 := nmR_le (d :: r)
    have h2 := nmR_le r
    unfold nmR
    simp only [List.length_cons] at h1 ⊢
    split
    · omega
    · split <;> omega
def numB (l : List UInt8) : Bool := l != [] && decide (l.length ≤ 6) && runL isDg l == l.length && !(l.head? == some 48 && decide (1 < l.length))
def decF (a : Nat) (l : List UInt8) : Nat := l.foldl (fun a c => a * 10 + (c.toNat - 48)) a
theorem decF_cons (a : Nat) (c : UInt8) (r : List UInt8) : decF a (c :: r) = decF (a * 10 + (c.toNat - 48)) r := by unfold decF; rw [List.foldl_cons]
theorem decFrom_is : ∀ (l : List UInt8) (a : Nat), l.all isDg = true → Lib.decFrom a l = some (decF a l)
  | [], a, _ => rfl
  | c :: r, a, h => by
    simp only [List.all_cons, Bool.and_eq_true] at h
    have hc := h.1
    unfold isDg dgI at hc
    simp only [Bool.and_eq_true, decide_eq_true_eq] at hc
    have hd : Lib.digitVal c = some (c.toNat - 48) := by unfold Lib.digitVal; rw [if_pos (by omega)]
    unfold Lib.decFrom
    rw [hd, decF_cons]
    exact decFrom_is r _ h.2
theorem decF_lt {l : List UInt8} {a : Nat} (h : l.all isDg = true) : decF a l < (a + 1) * 10 ^ l.length := Lib.decFrom_lt l a _ (decFrom_is l a h)
theorem pw_le {n : Nat} (h : n ≤ 6) : 10 ^ n ≤ 1000000 := by
  have : 10 ^ n ≤ 10 ^ 6 := Nat.pow_le_pow_right (by decide) h
  omega
theorem decF_small {l : List UInt8} (h : l.all isDg = true) (hl : l.length ≤ 6) : decF 0 l < 1000000 := by
  have h1 := decF_lt (a := 0) h
  have h2 := pw_le hl
  omega
theorem decF_snoc (l : List UInt8) (c : UInt8) (a : Nat) : decF a (l ++ [c]) = decF a l * 10 + (c.toNat - 48) := by
  unfold decF; rw [List.foldl_append]; rfl
def numV (l : List UInt8) : Int × Bool := if numB l then ((decF 0 l : Int), true) else (0, false)
theorem numB_mk {l : List UInt8} (h1 : l ≠ []) (h2 : l.length ≤ 6) (h3 : runL isDg l = l.length) (h4 : l.head? = some 48 → l.length ≤ 1) : numB l = true := by
  unfold numB
  simp only [Bool.and_eq_true, bne_iff_ne, decide_eq_true_eq, beq_iff_eq, Bool.not_eq_true', Bool.and_eq_false_imp, decide_eq_false_iff_not]
  exact ⟨⟨⟨h1, h2⟩, h3⟩, fun h => by have := h4 h; omega⟩

structure Tok where
  k : Int
  t : List UInt8
  l : Int
def nameB (l : List UInt8) : Bool := l != [] && decide (l.length ≤ 20) && nmL l == l.length
end Go.Proofs.YtjamfcihjendiaaGreat.K
namespace Go.Proofs.YtjamfcihjendiaaGreat.K
set_option linter.unusedVariables false

end Go.Proofs.YtjamfcihjendiaaGreat.K
namespace Go.Proofs.YtjamfcihjendiaaGreat.K
open Go.RowKit
set_option linter.unusedVariables false

set_option maxHeartbeats 400000 in
theorem small_any (n : Int) (w : World) (h0 : 0 ≤ n) (h1 : n ≤ 255) :
    Calls Tryz.prog 112 #[.int .u8 n] w fun e w' => e = .returned (.bool (smI n)) ∧ w = w' := by
  by_cases a : 97 ≤ n
  · by_cases b : n ≤ 122
    · have HP := Lib.hid (show smI n = true by simp [smI, a, b])
      go_enter Tryz.func112, Tryz.ntmps112
      go_wp2
      go_ret
      exact ⟨ret_bool (by rw [HP.out]), rfl⟩
    · have HP := Lib.hid (show smI n = false by simp [smI]; omega)
      go_enter Tryz.func112, Tryz.ntmps112
      go_wp2
      go_ret
      exact ⟨ret_bool (by rw [HP.out]), rfl⟩
  · have HP := Lib.hid (show smI n = false by simp [smI]; omega)
    go_enter Tryz.func112, Tryz.ntmps112
    go_wp2
    go_ret
    exact ⟨ret_bool (by rw [HP.out]), rfl⟩

set_option maxHeartbeats 400000 in
theorem digit_any (n : Int) (w : World) (h0 : 0 ≤ n) (h1 : n ≤ 255) :
    Calls Tryz.prog 120 #[.int .u8 n] w fun e w' => e = .returned (.bool (dgI n)) ∧ w = w' := by
  by_cases a : 48 ≤ n
  · by_cases b : n ≤ 57
    · have HP := Lib.hid (show dgI n = true by simp [dgI, a, b])
      go_enter Tryz.func120, Tryz.ntmps120
      go_wp2
      go_ret
      exact ⟨ret_bool (by rw [HP.out]), rfl⟩
    · have HP := Lib.hid (show dgI n = false by simp [dgI]; omega)
      go_enter Tryz.func120, Tryz.ntmps120
      go_wp2
      go_ret
      exact ⟨ret_bool (by rw [HP.out]), rfl⟩
  · have HP := Lib.hid (show dgI n = false by simp [dgI]; omega)
    go_enter Tryz.func120, Tryz.ntmps120
    go_wp2
    go_ret
    exact ⟨ret_bool (by rw [HP.out]), rfl⟩

set_option maxHeartbeats 400000 in
theorem rsmall_any (n : Int) (w : World) (h0 : 0 ≤ n) (h1 : n ≤ 255) :
    Calls Tryz.prog 98 #[.int .u8 n] w fun e w' => e = .returned (.bool (smI n)) ∧ w = w' := by
  by_cases a : 97 ≤ n
  · by_cases b : n ≤ 122
    · have HP := Lib.hid (show smI n = true by simp [smI, a, b])
      go_enter Tryz.func98, Tryz.ntmps98
      go_wp2
      go_ret
      exact ⟨ret_bool (by rw [HP.out]), rfl⟩
    · have HP := Lib.hid (show smI n = false by simp [smI]; omega)
      go_enter Tryz.func98, Tryz.ntmps98
      go_wp2
      go_ret
      exact ⟨ret_bool (by rw [HP.out]), rfl⟩
  · have HP := Lib.hid (show smI n = false by simp [smI]; omega)
    go_enter Tryz.func98, Tryz.ntmps98
    go_wp2
    go_ret
    exact ⟨ret_bool (by rw [HP.out]), rfl⟩

set_option maxHeartbeats 400000 in
theorem rdigit_any (n : Int) (w : World) (h0 : 0 ≤ n) (h1 : n ≤ 255) :
    Calls Tryz.prog 97 #[.int .u8 n] w fun e w' => e = .returned (.bool (dgI n)) ∧ w = w' := by
  by_cases a : 48 ≤ n
  · by_cases b : n ≤ 57
    · have HP := Lib.hid (show dgI n = true by simp [dgI, a, b])
      go_enter Tryz.func97, Tryz.ntmps97
      go_wp2
      go_ret
      exact ⟨ret_bool (by rw [HP.out]), rfl⟩
    · have HP := Lib.hid (show dgI n = false by simp [dgI]; omega)
      go_enter Tryz.func97, Tryz.ntmps97
      go_wp2
      go_ret
      exact ⟨ret_bool (by rw [HP.out]), rfl⟩
  · have HP := Lib.hid (show dgI n = false by simp [dgI]; omega)
    go_enter Tryz.func97, Tryz.ntmps97
    go_wp2
    go_ret
    exact ⟨ret_bool (by rw [HP.out]), rfl⟩

set_option maxHeartbeats 400000 in
theorem named_any (n : Int) (w : World) (h0 : 0 ≤ n) (h1 : n ≤ 255) :
    Calls Tryz.prog 113 #[.int .u8 n] w fun e w' => e = .returned (.bool (nmI n)) ∧ w = w' := by
  cases a : smI n with
  | true =>
    have HA := Lib.hid a
    have HP := Lib.hid (show nmI n = true by unfold nmI; rw [a]; rfl)
    clear a
    go_enter Tryz.func113, Tryz.ntmps113
    go_wp2_with fail
    refine (small_any _ _ (by omega) (by omega)).mono ?_
    rintro e w' ⟨rfl, rfl⟩
    rw [HA.out]
    go_wp2_with fail
    go_ret
    exact ⟨ret_bool (by rw [HP.out]), rfl⟩
  | false =>
    have HA := Lib.hid a
    have HP := Lib.hid (show nmI n = dgI n by unfold nmI; rw [a]; rfl)
    clear a
    go_enter Tryz.func113, Tryz.ntmps113
    go_wp2_with fail
    refine (small_any _ _ (by omega) (by omega)).mono ?_
    rintro e w' ⟨rfl, rfl⟩
    rw [HA.out]
    go_wp2_with fail
    refine (digit_any _ _ (by omega) (by omega)).mono ?_
    rintro e w' ⟨rfl, rfl⟩
    go_wp2_with fail
    go_ret
    exact ⟨ret_bool (by rw [HP.out]), rfl⟩

theorem idx_none {l : List UInt8} {c : UInt8} (h : c ∉ l) : Lib.indexByte l c = -1 := by
  induction l with
  | nil => rfl
  | cons b l ih =>
    have h1 : b ≠ c := fun e => h (by simp [e])
    have h2 := ih (fun hm => h (List.mem_cons_of_mem _ hm))
    unfold Lib.indexByte
    simp [h1, h2]
theorem idxb_any (s : ByteArray) (c : Int) (w : World) : Calls Tryz.prog 117 #[.string s, .int .u8 c] w fun e w' => e = .returned (.int .i64 (Lib.indexByte s.data.toList c.toNat.toUInt8)) ∧ w = w' :=
  (Tryz.strings_IndexByte s c w).mono fun _ _ ⟨a, b⟩ => ⟨a, b.symm⟩
end Go.Proofs.YtjamfcihjendiaaGreat.K
namespace Go.Proofs.YtjamfcihjendiaaGreat.K
open Go.RowKit
set_option linter.unusedVariables false

theorem run_stop {p : UInt8 → Bool} {s : ByteArray} {k : Nat} (hk : k < s.size) (h : (s.data.toList.take k).all p = true) (h1 : p s[k] = false) : runL p s.data.toList = k := by
  have e : s.data.toList = s.data.toList.take k ++ s.data.toList.drop k := (List.take_append_drop _ _).symm
  rw [e, runL_cat h, dropS hk, runL, if_neg (by simp [h1]), List.length_take, sizeB]
  omega
theorem run_end {p : UInt8 → Bool} {s : ByteArray} {k : Nat} (hk : s.size ≤ k) (h : (s.data.toList.take k).all p = true) : runL p s.data.toList = s.size := by
  rw [takeAll hk] at h
  rw [runL_all h, sizeB]
theorem run_step {p : UInt8 → Bool} {s : ByteArray} {k : Nat} (hk : k < s.size) (h : (s.data.toList.take k).all p = true) (h1 : p s[k] = true) : (s.data.toList.take (k + 1)).all p = true := by
  rw [takeS hk, List.all_append, h]; simp [h1]

set_option maxHeartbeats 400000 in
theorem rdigits_any (s : ByteArray) (w : World) (hs : s.size ≤ maxLen) :
    Calls Tryz.prog 83 #[.string s] w fun e w' => e = .returned (.int .i64 (runL isDg s.data.toList : Nat)) ∧ w = w' := by
  unfold maxLen at hs
  go_enter Tryz.func83, Tryz.ntmps83
  go_wp2
  go_loop [3] (fun i => ∃ k : Nat, k ≤ s.size ∧ i = .int .i64 k ∧ (s.data.toList.take k).all isDg = true) (fun i => s.size - (intOf i).toNat)
  case atStart => exact ⟨0, Nat.zero_le _, rfl, rfl⟩
  case round =>
    obtain ⟨k, hk, rfl, hok⟩ := hrel
    have HOK := Lib.hid hok
    clear hok
    by_cases hlt : k < s.size
    · have hb : (s[k].toNat : Int) ≤ 255 := by have := s[k].toNat_lt; omega
      cases hi : dgI (s[k].toNat : Int) with
      | true =>
        have HI := Lib.hid hi
        clear hi
        go_wp2_with (go_at_call 97; refine (rdigit_any _ _ (by omega) (by omega)).mono ?_; rintro e w' ⟨rfl, rfl⟩; rw [HI.out])
        go_round
        case rel => exact ⟨k + 1, by omega, by go_num, run_step hlt HOK.out HI.out⟩
        case measure => simp [intOf]; omega
      | false =>
        have HI := Lib.hid hi
        clear hi
        go_wp2_with (go_at_call 97; refine (rdigit_any _ _ (by omega) (by omega)).mono ?_; rintro e w' ⟨rfl, rfl⟩; rw [HI.out])
        go_ret
        exact ⟨ret_int (by rw [run_stop hlt HOK.out HI.out]), rfl⟩
    · go_wp2
      go_ret
      exact ⟨ret_int (by rw [run_end (by omega) HOK.out]; omega), rfl⟩

def NmAt (s : ByteArray) (k : Nat) : Prop := nmL s.data.toList = k + nmR (s.data.toList.drop k)
theorem nm_start {s : ByteArray} (h : 0 < s.size) (h1 : isSm s[0] = true) : NmAt s 1 := by
  unfold NmAt
  have := dropS h
  rw [List.drop_zero] at this
  rw [this, nmL_cons, if_pos h1, List.drop_succ_cons, List.drop_zero]; omega
theorem nm_none {s : ByteArray} (h : 0 < s.size) (h1 : isSm s[0] = false) : nmL s.data.toList = 0 := by
  have := dropS h
  rw [List.drop_zero] at this
  rw [this, nmL_cons, if_neg (by simp [h1])]
theorem nm_step {s : ByteArray} {k : Nat} (hk : k < s.size) (h : NmAt s k) (h1 : isNm s[k] = true) : NmAt s (k + 1) := by
  unfold NmAt at *
  rw [h, dropS hk, nmR_nm _ h1]; omega
theorem nm_step2 {s : ByteArray} {k : Nat} (hk : k + 1 < s.size) (h : NmAt s k) (h1 : (s[k].toNat : Int) = 45) (h2 : isNm s[k + 1] = true) : NmAt s (k + 2) := by
  unfold NmAt at *
  have e : s[k] = 45 := byte_is (n := 45) (by omega) (by decide)
  rw [h, dropS (show k < s.size by omega), dropS hk, e, nmR_minus _ h2]
  show k + (nmR (s.data.toList.drop (k + 1 + 1)) + 2) = k + 2 + nmR (s.data.toList.drop (k + 1 + 1))
  omega
theorem nm_stop {s : ByteArray} {k : Nat} (hk : k < s.size) (h : NmAt s k) (h1 : isNm s[k] = false) (h2 : (s[k].toNat : Int) ≠ 45) : nmL s.data.toList = k := by
  unfold NmAt at h
  rw [h, dropS hk, nmR_none h1 (Or.inl (byte_ne (n := 45) h2 (by decide)))]; omega
theorem nm_stop2 {s : ByteArray} {k : Nat} (hk : k < s.size) (h : NmAt s k) (h1 : isNm s[k] = false) (h2 : s.size ≤ k + 1) : nmL s.data.toList = k := by
  unfold NmAt at h
  rw [h, dropS hk, nmR_none h1 (Or.inr (by rw [dropE h2]; simp))]; omega
theorem nm_stop3 {s : ByteArray} {k : Nat} (hk : k + 1 < s.size) (h : NmAt s k) (h1 : isNm s[k] = false) (h2 : isNm s[k + 1] = false) : nmL s.data.toList = k := by
  unfold NmAt at h
  rw [h, dropS (show k < s.size by omega), nmR_none h1 (Or.inr (by rw [dropS hk]; intro d hd; simp at hd; subst hd; exact h2))]; omega
theorem nm_end {s : ByteArray} {k : Nat} (hk : s.size ≤ k) (h : NmAt s k) : nmL s.data.toList = k := by
  unfold NmAt at h
  rw [h, dropE hk]; rfl
theorem nm_empty {s : ByteArray} (h : s.size = 0) : nmL s.data.toList = 0 := by
  rw [List.eq_nil_of_length_eq_zero (show s.data.toList.length = 0 from h)]; rfl
theorem empty_list {s : ByteArray} (h : s.size = 0) : s.toList = [] ∧ s.toList.isEmpty = true := by
  have h1 : s.toList = [] := by
    rw [ByteArray.toList_eq]
    exact List.eq_nil_of_length_eq_zero h
  exact ⟨h1, by rw [h1]; rfl⟩
theorem full_list {s : ByteArray} (h : ¬ s.size = 0) : s.toList.isEmpty = false := by
  rw [ByteArray.toList_eq]
  cases e : s.data.toList with
  | nil => exact absurd (show s.data.toList.length = 0 by rw [e]; rfl) h
  | cons => rfl

set_option maxHeartbeats 1000000 in
theorem nsize_any (s : ByteArray) (w : World) (hs : s.size ≤ maxLen) :
    Calls Tryz.prog 101 #[.string s] w fun e w' => e = .returned (.int .i64 (nmL s.data.toList : Nat)) ∧ w = w' := by
  unfold maxLen at hs
  by_cases h0 : s.size = 0
  · have HE := Lib.hid (nm_empty h0)
    have hx := (empty_list h0).2
    clear h0
    go_enter Tryz.func101, Tryz.ntmps101
    go_wp2
    go_ret
    exact ⟨ret_int (by rw [HE.out]; rfl), rfl⟩
  · have hx := full_list h0
    have hlt0 : 0 < s.size := by omega
    have hb0 : (s[0].toNat : Int) ≤ 255 := by have := s[0].toNat_lt; omega
    cases hsm : smI (s[0].toNat : Int) with
    | false =>
      have HSM := Lib.hid hsm
      have HE := Lib.hid (nm_none hlt0 hsm)
      clear h0 hsm
      go_enter Tryz.func101, Tryz.ntmps101
      go_wp2_with (go_at_call 112; refine (small_any _ _ (by omega) (by omega)).mono ?_; rintro e w' ⟨rfl, rfl⟩; rw [HSM.out])
      go_ret
      exact ⟨ret_int (by rw [HE.out]; rfl), rfl⟩
    | true =>
      have HSM := Lib.hid hsm
      have HS := Lib.hid (nm_start hlt0 hsm)
      clear h0 hsm
      go_enter Tryz.func101, Tryz.ntmps101
      go_wp2_with (go_at_call 112; refine (small_any _ _ (by omega) (by omega)).mono ?_; rintro e w' ⟨rfl, rfl⟩; rw [HSM.out])
      go_loop [3] (fun i => ∃ k : Nat, k ≤ s.size ∧ i = .int .i64 k ∧ NmAt s k) (fun i => s.size - (intOf i).toNat)
      case atStart => exact ⟨1, by omega, rfl, HS.out⟩
      case round =>
        obtain ⟨k, hk, rfl, hat⟩ := hrel
        have HAT := Lib.hid hat
        clear hat
        by_cases hlt : k < s.size
        · have hb : (s[k].toNat : Int) ≤ 255 := by have := s[k].toNat_lt; omega
          cases hi : nmI (s[k].toNat : Int) with
          | true =>
            have HI := Lib.hid hi
            clear hi
            go_wp2_with (go_at_call 113; refine (named_any _ _ (by omega) (by omega)).mono ?_; rintro e w' ⟨rfl, rfl⟩; rw [HI.out])
            go_round
            case rel => exact ⟨k + 1, by omega, by go_num, nm_step hlt HAT.out HI.out⟩
            case measure => simp [intOf]; omega
          | false =>
            have HI := Lib.hid hi
            clear hi
            by_cases h45 : (s[k].toNat : Int) = 45
            · by_cases hl2 : k + 1 < s.size
              · have hb2 : (s[k + 1].toNat : Int) ≤ 255 := by have := s[k + 1].toNat_lt; omega
                cases hi2 : nmI (s[k + 1].toNat : Int) with
                | true =>
                  have HI2 := Lib.hid hi2
                  have H45 := Lib.hid h45
                  clear hi2
                  go_wp2_with fail
                  refine (named_any _ _ (by omega) (by omega)).mono ?_
                  rintro e w' ⟨rfl, rfl⟩
                  rw [show nmI 45 = false from rfl]
                  go_wp2_with fail
                  refine (named_any _ _ (by omega) (by omega)).mono ?_
                  rintro e w' ⟨rfl, rfl⟩
                  rw [HI2.out]
                  go_wp2_with fail
                  go_round
                  case rel => exact ⟨k + 2, by omega, by go_num, nm_step2 hl2 HAT.out H45.out HI2.out⟩
                  case measure => simp [intOf]; omega
                | false =>
                  have HI2 := Lib.hid hi2
                  clear hi2
                  go_wp2_with fail
                  refine (named_any _ _ (by omega) (by omega)).mono ?_
                  rintro e w' ⟨rfl, rfl⟩
                  rw [show nmI 45 = false from rfl]
                  go_wp2_with fail
                  refine (named_any _ _ (by omega) (by omega)).mono ?_
                  rintro e w' ⟨rfl, rfl⟩
                  rw [HI2.out]
                  go_wp2_with fail
                  go_ret
                  exact ⟨ret_int (by rw [nm_stop3 hl2 HAT.out HI.out HI2.out]), rfl⟩
              · go_wp2_with fail
                refine (named_any _ _ (by omega) (by omega)).mono ?_
                rintro e w' ⟨rfl, rfl⟩
                rw [show nmI 45 = false from rfl]
                go_wp2_with fail
                go_ret
                exact ⟨ret_int (by rw [nm_stop2 hlt HAT.out HI.out (by omega)]), rfl⟩
            · have H45 := Lib.hid h45
              go_wp2_with fail
              refine (named_any _ _ (by omega) (by omega)).mono ?_
              rintro e w' ⟨rfl, rfl⟩
              rw [HI.out]
              go_wp2_with fail
              go_ret
              exact ⟨ret_int (by rw [nm_stop hlt HAT.out HI.out H45.out]), rfl⟩
        · go_wp2
          go_ret
          exact ⟨ret_int (by rw [nm_end (by omega) HAT.out]), rfl⟩

theorem nm_no {n : Int} (h : nmI n = false) : smI n = false ∧ dgI n = false := by
  unfold nmI at h
  simpa using h
theorem nm_yes {n : Int} (h : nmI n = true) : smI n = true ∨ (smI n = false ∧ dgI n = true) := by
  unfold nmI at h
  cases hs : smI n with
  | true => exact .inl rfl
  | false => rw [hs] at h; exact .inr ⟨rfl, by simpa using h⟩
set_option maxHeartbeats 1000000 in
theorem rname_any (s : ByteArray) (w : World) (hs : s.size ≤ maxLen) :
    Calls Tryz.prog 84 #[.string s] w fun e w' => e = .returned (.int .i64 (nmL s.data.toList : Nat)) ∧ w = w' := by
  unfold maxLen at hs
  by_cases h0 : s.size = 0
  · have HE := Lib.hid (nm_empty h0)
    have hx := (empty_list h0).2
    clear h0
    go_enter Tryz.func84, Tryz.ntmps84
    go_wp2
    go_ret
    exact ⟨ret_int (by rw [HE.out]; rfl), rfl⟩
  · have hx := full_list h0
    have hlt0 : 0 < s.size := by omega
    have hb0 : (s[0].toNat : Int) ≤ 255 := by have := s[0].toNat_lt; omega
    cases hsm : smI (s[0].toNat : Int) with
    | false =>
      have HSM := Lib.hid hsm
      have HE := Lib.hid (nm_none hlt0 hsm)
      clear h0 hsm
      go_enter Tryz.func84, Tryz.ntmps84
      go_wp2_with (go_at_call 98; refine (rsmall_any _ _ (by omega) (by omega)).mono ?_; rintro e w' ⟨rfl, rfl⟩; rw [HSM.out])
      go_ret
      exact ⟨ret_int (by rw [HE.out]; rfl), rfl⟩
    | true =>
      have HSM := Lib.hid hsm
      have HS := Lib.hid (nm_start hlt0 hsm)
      clear h0 hsm
      go_enter Tryz.func84, Tryz.ntmps84
      go_wp2_with (go_at_call 98; refine (rsmall_any _ _ (by omega) (by omega)).mono ?_; rintro e w' ⟨rfl, rfl⟩; rw [HSM.out])
      go_loop [3] (fun i => ∃ k : Nat, k ≤ s.size ∧ i = .int .i64 k ∧ NmAt s k) (fun i => s.size - (intOf i).toNat)
      case atStart => exact ⟨1, by omega, rfl, HS.out⟩
      case round =>
        obtain ⟨k, hk, rfl, hat⟩ := hrel
        have HAT := Lib.hid hat
        clear hat
        by_cases hlt : k < s.size
        · have hb : (s[k].toNat : Int) ≤ 255 := by have := s[k].toNat_lt; omega
          cases hi : nmI (s[k].toNat : Int) with
          | true =>
            have HNM := Lib.hid hi
            rcases nm_yes hi with h1 | ⟨h1, h2⟩
            · have H1 := Lib.hid h1
              clear hi h1
              go_wp2_with fail
              refine (rsmall_any _ _ (by omega) (by omega)).mono ?_
              rintro e w' ⟨rfl, rfl⟩
              rw [H1.out]
              go_wp2_with fail
              go_round
              case rel => exact ⟨k + 1, by omega, by go_num, nm_step hlt HAT.out HNM.out⟩
              case measure => simp [intOf]; omega
            · have H1 := Lib.hid h1
              have H2 := Lib.hid h2
              clear hi h1 h2
              go_wp2_with fail
              refine (rsmall_any _ _ (by omega) (by omega)).mono ?_
              rintro e w' ⟨rfl, rfl⟩
              rw [H1.out]
              go_wp2_with fail
              refine (rdigit_any _ _ (by omega) (by omega)).mono ?_
              rintro e w' ⟨rfl, rfl⟩
              rw [H2.out]
              go_wp2_with fail
              go_round
              case rel => exact ⟨k + 1, by omega, by go_num, nm_step hlt HAT.out HNM.out⟩
              case measure => simp [intOf]; omega
          | false =>
            have HNM := Lib.hid hi
            have HI := Lib.hid (nm_no hi)
            clear hi
            by_cases h45 : (s[k].toNat : Int) = 45
            · by_cases hl2 : k + 1 < s.size
              · have hb2 : (s[k + 1].toNat : Int) ≤ 255 := by have := s[k + 1].toNat_lt; omega
                have e1 : (((k : Int) + 1) == (s.size : Int)) = false := by simp; omega
                have H45 := Lib.hid h45
                cases hi2 : nmI (s[k + 1].toNat : Int) with
                | true =>
                  have HI2 := Lib.hid hi2
                  rcases nm_yes hi2 with h1 | ⟨h1, h2⟩
                  · have H1 := Lib.hid h1
                    clear hi2 h1
                    go_wp2_with fail
                    refine (rsmall_any _ _ (by omega) (by omega)).mono ?_
                    rintro e w' ⟨rfl, rfl⟩
                    rw [show smI 45 = false from rfl]
                    go_wp2_with fail
                    refine (rdigit_any _ _ (by omega) (by omega)).mono ?_
                    rintro e w' ⟨rfl, rfl⟩
                    rw [show dgI 45 = false from rfl]
                    go_wp2_with fail
                    refine (rsmall_any _ _ (by omega) (by omega)).mono ?_
                    rintro e w' ⟨rfl, rfl⟩
                    rw [H1.out]
                    go_wp2_with fail
                    go_round
                    case rel => exact ⟨k + 2, by omega, by go_num, nm_step2 hl2 HAT.out H45.out HI2.out⟩
                    case measure => simp [intOf]; omega
                  · have H1 := Lib.hid h1
                    have H2 := Lib.hid h2
                    clear hi2 h1 h2
                    go_wp2_with fail
                    refine (rsmall_any _ _ (by omega) (by omega)).mono ?_
                    rintro e w' ⟨rfl, rfl⟩
                    rw [show smI 45 = false from rfl]
                    go_wp2_with fail
                    refine (rdigit_any _ _ (by omega) (by omega)).mono ?_
                    rintro e w' ⟨rfl, rfl⟩
                    rw [show dgI 45 = false from rfl]
                    go_wp2_with fail
                    refine (rsmall_any _ _ (by omega) (by omega)).mono ?_
                    rintro e w' ⟨rfl, rfl⟩
                    rw [H1.out]
                    go_wp2_with fail
                    refine (rdigit_any _ _ (by omega) (by omega)).mono ?_
                    rintro e w' ⟨rfl, rfl⟩
                    rw [H2.out]
                    go_wp2_with fail
                    go_round
                    case rel => exact ⟨k + 2, by omega, by go_num, nm_step2 hl2 HAT.out H45.out HI2.out⟩
                    case measure => simp [intOf]; omega
                | false =>
                  have HI2 := Lib.hid hi2
                  have HI3 := Lib.hid (nm_no hi2)
                  clear hi2
                  go_wp2_with fail
                  refine (rsmall_any _ _ (by omega) (by omega)).mono ?_
                  rintro e w' ⟨rfl, rfl⟩
                  rw [show smI 45 = false from rfl]
                  go_wp2_with fail
                  refine (rdigit_any _ _ (by omega) (by omega)).mono ?_
                  rintro e w' ⟨rfl, rfl⟩
                  rw [show dgI 45 = false from rfl]
                  go_wp2_with fail
                  refine (rsmall_any _ _ (by omega) (by omega)).mono ?_
                  rintro e w' ⟨rfl, rfl⟩
                  rw [HI3.out.1]
                  go_wp2_with fail
                  refine (rdigit_any _ _ (by omega) (by omega)).mono ?_
                  rintro e w' ⟨rfl, rfl⟩
                  rw [HI3.out.2]
                  go_wp2_with fail
                  go_ret
                  exact ⟨ret_int (by rw [nm_stop3 hl2 HAT.out HNM.out HI2.out]), rfl⟩
              · have e1 : (((k : Int) + 1) == (s.size : Int)) = true := by simp; omega
                go_wp2_with fail
                refine (rsmall_any _ _ (by omega) (by omega)).mono ?_
                rintro e w' ⟨rfl, rfl⟩
                rw [show smI 45 = false from rfl]
                go_wp2_with fail
                refine (rdigit_any _ _ (by omega) (by omega)).mono ?_
                rintro e w' ⟨rfl, rfl⟩
                rw [show dgI 45 = false from rfl]
                go_wp2_with fail
                go_ret
                exact ⟨ret_int (by rw [nm_stop2 hlt HAT.out HNM.out (by omega)]), rfl⟩
            · have H45 := Lib.hid h45
              have e1 : ((s[k].toNat : Int) != 45) = true := by simpa using h45
              go_wp2_with fail
              refine (rsmall_any _ _ (by omega) (by omega)).mono ?_
              rintro e w' ⟨rfl, rfl⟩
              rw [HI.out.1]
              go_wp2_with fail
              refine (rdigit_any _ _ (by omega) (by omega)).mono ?_
              rintro e w' ⟨rfl, rfl⟩
              rw [HI.out.2]
              go_wp2_with fail
              go_ret
              exact ⟨ret_int (by rw [nm_stop hlt HAT.out HNM.out H45.out]), rfl⟩
        · go_wp2
          go_ret
          exact ⟨ret_int (by rw [nm_end (by omega) HAT.out]), rfl⟩
end Go.Proofs.YtjamfcihjendiaaGreat.K
namespace Go.Proofs.YtjamfcihjendiaaGreat.K
open Go.RowKit
set_option linter.unusedVariables false

theorem btwo {w w1 w2 : World} (h1 : Below w.heap.size w w1) (h2 : Below w1.heap.size w1 w2) : Below w.heap.size w w2 := h1.trans (h2.mono h1.size)
theorem nameB_empty {s : ByteArray} (h : s.size = 0) : nameB s.data.toList = false := by
  rw [List.eq_nil_of_length_eq_zero (show s.data.toList.length = 0 from h)]; rfl
theorem nameB_big {s : ByteArray} (h : 20 < s.size) : nameB s.data.toList = false := by
  unfold nameB; rw [sizeB, decide_eq_false (by omega)]; simp
theorem ne_nil {s : ByteArray} (h : ¬ s.size = 0) : s.data.toList ≠ [] := fun e => h (by rw [← sizeB, e]; rfl)
theorem nameB_is {s : ByteArray} (h : ¬ s.size = 0) (h1 : ¬ 20 < s.size) : nameB s.data.toList = decide (nmL s.data.toList = s.size) := by
  unfold nameB
  have e : (s.data.toList != []) = true := by simpa using ne_nil h
  rw [e, sizeB, decide_eq_true (show s.size ≤ 20 by omega), Bool.eq_iff_iff]; simp

set_option maxHeartbeats 400000 in
theorem isname_any (s : ByteArray) (w : World) (hs : s.size ≤ maxLen) :
    Calls Tryz.prog 88 #[.string s] w fun e w' => e = .returned (.bool (nameB s.data.toList)) ∧ w = w' := by
  by_cases h0 : s.size = 0
  · have HE := Lib.hid (nameB_empty h0)
    have hx := (empty_list h0).2
    clear h0
    go_enter Tryz.func88, Tryz.ntmps88
    go_wp2
    go_ret
    exact ⟨ret_bool (by rw [HE.out]), rfl⟩
  · have hx := full_list h0
    by_cases h20 : 20 < s.size
    · have HE := Lib.hid (nameB_big h20)
      clear h0
      go_enter Tryz.func88, Tryz.ntmps88
      go_wp2
      go_ret
      exact ⟨ret_bool (by rw [HE.out]), rfl⟩
    · have HE := Lib.hid (nameB_is h0 h20)
      clear h0
      go_enter Tryz.func88, Tryz.ntmps88
      go_wp2_with fail
      refine (nsize_any _ _ (by assumption)).mono ?_
      rintro e w' ⟨rfl, rfl⟩
      go_wp2_with fail
      go_ret
      exact ⟨ret_bool (by rw [HE.out, Bool.eq_iff_iff]; simp; omega), rfl⟩

set_option maxHeartbeats 400000 in
theorem risname_any (s : ByteArray) (w : World) (hs : s.size ≤ maxLen) :
    Calls Tryz.prog 71 #[.string s] w fun e w' => e = .returned (.bool (nameB s.data.toList)) ∧ w = w' := by
  by_cases h0 : s.size = 0
  · have HE := Lib.hid (nameB_empty h0)
    have hx := (empty_list h0).2
    clear h0
    go_enter Tryz.func71, Tryz.ntmps71
    go_wp2
    go_ret
    exact ⟨ret_bool (by rw [HE.out]), rfl⟩
  · have hx := full_list h0
    by_cases h20 : 20 < s.size
    · have HE := Lib.hid (nameB_big h20)
      clear h0
      go_enter Tryz.func71, Tryz.ntmps71
      go_wp2
      go_ret
      exact ⟨ret_bool (by rw [HE.out]), rfl⟩
    · have HE := Lib.hid (nameB_is h0 h20)
      clear h0
      go_enter Tryz.func71, Tryz.ntmps71
      go_wp2_with fail
      refine (rname_any _ _ (by assumption)).mono ?_
      rintro e w' ⟨rfl, rfl⟩
      go_wp2_with fail
      go_ret
      exact ⟨ret_bool (by rw [HE.out, Bool.eq_iff_iff]; simp; omega), rfl⟩

theorem num_empty {s : ByteArray} (h : s.size = 0) : numV s.data.toList = (0, false) := by
  rw [List.eq_nil_of_length_eq_zero (show s.data.toList.length = 0 from h)]; rfl
theorem num_long {s : ByteArray} (h : 6 < s.size) : numV s.data.toList = (0, false) := by
  have : numB s.data.toList = false := by unfold numB; rw [sizeB, decide_eq_false (show ¬ s.size ≤ 6 by omega)]; simp
  unfold numV; rw [this]; rfl
theorem num_other {s : ByteArray} (h : runL isDg s.data.toList ≠ s.size) : numV s.data.toList = (0, false) := by
  have : numB s.data.toList = false := by unfold numB; rw [sizeB, show (runL isDg s.data.toList == s.size) = false by simpa using h]; simp
  unfold numV; rw [this]; rfl
theorem head_at {s : ByteArray} (h : 0 < s.size) : s.data.toList.head? = some s[0] := by
  have := dropS h
  rw [List.drop_zero] at this
  rw [this]; rfl
theorem num_zero {s : ByteArray} (h : 0 < s.size) (h0 : (s[0].toNat : Int) = 48) (h1 : 1 < s.size) : numV s.data.toList = (0, false) := by
  have e : s[0] = 48 := byte_is (n := 48) (by omega) (by decide)
  have : numB s.data.toList = false := by unfold numB; rw [sizeB, head_at h, e, decide_eq_true h1]; simp
  unfold numV; rw [this]; rfl
theorem num_good {s : ByteArray} (h : 0 < s.size) (h6 : ¬ 6 < s.size) (hr : runL isDg s.data.toList = s.size) (h0 : (s[0].toNat : Int) = 48 → ¬ 1 < s.size) : numV s.data.toList = ((decF 0 s.data.toList : Int), true) ∧ s.data.toList.all isDg = true := by
  have ha : s.data.toList.all isDg = true := runL_len (by rw [hr, sizeB])
  have : numB s.data.toList = true := numB_mk (ne_nil (by omega)) (by rw [sizeB]; omega) (by rw [hr, sizeB]) (fun hh => by
    rw [head_at h] at hh
    have e : s[0] = 48 := Option.some.inj hh
    have := h0 (by rw [e]; rfl)
    rw [sizeB]; omega)
  unfold numV; rw [this]; exact ⟨rfl, ha⟩
def NumPost (l : List UInt8) (w : World) (e : Ending) (w' : World) : Prop := e = .returned (.tuple #[.int .i64 (numV l).1, .bool (numV l).2]) ∧ Below w.heap.size w w'
theorem num_post {l : List UInt8} {w w' : World} {x : Int} {b : Bool} (h : numV l = (x, b)) (hb : Below w.heap.size w w') : NumPost l w (.returned (.tuple #[.int .i64 x, .bool b])) w' := ⟨by rw [h], hb⟩

theorem dec_step {s : ByteArray} {k : Nat} (hk : k < s.size) : decF 0 (s.data.toList.take (k + 1)) = decF 0 (s.data.toList.take k) * 10 + (s[k].toNat - 48) := by rw [takeS hk, decF_snoc]
theorem dig_bd {s : ByteArray} (h : s.data.toList.all isDg = true) {k : Nat} (hk : k < s.size) : 48 ≤ s[k].toNat ∧ s[k].toNat ≤ 57 := by
  have := List.all_eq_true.1 h s[k] (by rw [getB]; exact List.getElem_mem _)
  unfold isDg dgI at this
  simp only [Bool.and_eq_true, decide_eq_true_eq] at this
  omega
theorem dec_take {s : ByteArray} (h : s.data.toList.all isDg = true) (h6 : ¬ 6 < s.size) (k : Nat) : decF 0 (s.data.toList.take k) < 1000000 :=
  decF_small (List.all_eq_true.2 fun x hx => List.all_eq_true.1 h x (List.mem_of_mem_take hx)) (by rw [List.length_take, sizeB]; omega)

set_option maxHeartbeats 1000000 in
theorem rnumber_any (s : ByteArray) (w : World) (hs : s.size ≤ maxLen) :
    Calls Tryz.prog 69 #[.string s] w (NumPost s.data.toList w) := by
  by_cases h0 : s.size = 0
  · have HE := Lib.hid (num_empty h0)
    have hx := (empty_list h0).2
    clear h0
    go_enter Tryz.func69, Tryz.ntmps69
    go_wp2
    go_ret2
    exact num_post HE.out (Below.refl _ _)
  · have hx := full_list h0
    have hpos : 0 < s.size := by omega
    have hb0 : (s[0].toNat : Int) ≤ 255 := by have := s[0].toNat_lt; omega
    by_cases h6 : 6 < s.size
    · have HE := Lib.hid (num_long h6)
      clear h0
      go_enter Tryz.func69, Tryz.ntmps69
      go_wp2
      go_ret2
      exact num_post HE.out (Below.refl _ _)
    · obtain ⟨r, hr⟩ : ∃ r, r = runL isDg s.data.toList := ⟨_, rfl⟩
      have HR := Lib.hid hr
      have hrle : r ≤ s.size := by rw [hr]; exact runL_le _ _
      by_cases hrs : r = s.size
      · by_cases h48 : (s[0].toNat : Int) = 48
        · by_cases h1 : 1 < s.size
          · have HE := Lib.hid (num_zero hpos h48 h1)
            have e1 : ((r : Int) != (s.size : Int)) = false := by simp; omega
            have e2 : decide ((r : Int) < (s.size : Int)) = false := by simp; omega
            have e3 : decide (r < s.size) = false := by simp; omega
            clear h0 hr hrs
            go_enter Tryz.func69, Tryz.ntmps69
            go_wp2_with fail
            refine (rdigits_any _ _ (by assumption)).mono ?_
            rintro e w' ⟨rfl, rfl⟩
            rw [← HR.out]
            go_wp2_with fail
            go_ret2
            exact num_post HE.out (Below.refl _ _)
          · have HG := Lib.hid (num_good hpos h6 (by omega) (fun _ => h1))
            have e1 : ((r : Int) != (s.size : Int)) = false := by simp; omega
            have e2 : decide ((r : Int) < (s.size : Int)) = false := by simp; omega
            have e3 : decide (r < s.size) = false := by simp; omega
            clear hr hrs
            go_enter Tryz.func69, Tryz.ntmps69
            go_wp2_with fail
            refine (rdigits_any _ _ (by assumption)).mono ?_
            rintro e w' ⟨rfl, rfl⟩
            rw [← HR.out]
            go_wp2_with fail
            clear h0
            go_loop [4, 5] (fun v i => ∃ k n : Nat, k ≤ s.size ∧ n < 1000000 ∧ i = .int .i64 k ∧ v = .int .i64 n ∧ decF 0 (s.data.toList.take k) = n) (fun _ i => s.size - (intOf i).toNat)
            case atStart => exact ⟨0, 0, Nat.zero_le _, by omega, rfl, rfl, rfl⟩
            case round =>
              obtain ⟨k, n, hk, hn, rfl, rfl, hok⟩ := hrel
              have HOK := Lib.hid hok
              clear hok
              by_cases hlt : k < s.size
              · obtain ⟨hd1, hd2⟩ := dig_bd HG.out.2 hlt
                obtain ⟨m, hm⟩ : ∃ m : Nat, m = n * 10 + (s[k].toNat - 48) := ⟨_, rfl⟩
                have HN := Lib.hid (show decF 0 (s.data.toList.take (k + 1)) = m by rw [dec_step hlt, HOK.out, hm])
                have HMI := Lib.hid (show (m : Int) = 10 * (n : Int) + ((s[k].toNat : Int) - 48) by omega)
                have hm6 : m < 1000000 := by have := dec_take HG.out.2 h6 (k + 1); rw [HN.out] at this; exact this
                clear hm
                go_wp2
                go_round
                case rel => exact ⟨k + 1, m, by omega, hm6, by go_num, by rw [HMI.out], HN.out⟩
                case measure => simp [intOf]; omega
              · go_wp2
                go_ret2
                have HT := Lib.hid (show numV s.data.toList = ((n : Int), true) by rw [HG.out.1, ← HOK.out, takeAll (by omega)])
                exact num_post HT.out (Below.refl _ _)
        · have HG := Lib.hid (num_good hpos h6 (by omega) (fun h => absurd h h48))
          have e4 : ((s[0].toNat : Int) == 48) = false := by simpa using h48
          have e1 : ((r : Int) != (s.size : Int)) = false := by simp; omega
          have e2 : decide ((r : Int) < (s.size : Int)) = false := by simp; omega
          have e3 : decide (r < s.size) = false := by simp; omega
          clear hr hrs h48
          go_enter Tryz.func69, Tryz.ntmps69
          go_wp2_with fail
          refine (rdigits_any _ _ (by assumption)).mono ?_
          rintro e w' ⟨rfl, rfl⟩
          rw [← HR.out]
          go_wp2_with fail
          clear h0
          go_loop [4, 5] (fun v i => ∃ k n : Nat, k ≤ s.size ∧ n < 1000000 ∧ i = .int .i64 k ∧ v = .int .i64 n ∧ decF 0 (s.data.toList.take k) = n) (fun _ i => s.size - (intOf i).toNat)
          case atStart => exact ⟨0, 0, Nat.zero_le _, by omega, rfl, rfl, rfl⟩
          case round =>
            obtain ⟨k, n, hk, hn, rfl, rfl, hok⟩ := hrel
            have HOK := Lib.hid hok
            clear hok
            by_cases hlt : k < s.size
            · obtain ⟨hd1, hd2⟩ := dig_bd HG.out.2 hlt
              obtain ⟨m, hm⟩ : ∃ m : Nat, m = n * 10 + (s[k].toNat - 48) := ⟨_, rfl⟩
              have HN := Lib.hid (show decF 0 (s.data.toList.take (k + 1)) = m by rw [dec_step hlt, HOK.out, hm])
              have HMI := Lib.hid (show (m : Int) = 10 * (n : Int) + ((s[k].toNat : Int) - 48) by omega)
              have hm6 : m < 1000000 := by have := dec_take HG.out.2 h6 (k + 1); rw [HN.out] at this; exact this
              clear hm
              go_wp2
              go_round
              case rel => exact ⟨k + 1, m, by omega, hm6, by go_num, by rw [HMI.out], HN.out⟩
              case measure => simp [intOf]; omega
            · go_wp2
              go_ret2
              have HT := Lib.hid (show numV s.data.toList = ((n : Int), true) by rw [HG.out.1, ← HOK.out, takeAll (by omega)])
              exact num_post HT.out (Below.refl _ _)
      · have HE := Lib.hid (num_other (by rw [← hr]; exact hrs))
        have e1 : ((r : Int) != (s.size : Int)) = true := by simp; omega
        have e2 : decide ((r : Int) < (s.size : Int)) = true := by simp; omega
        have e3 : decide (r < s.size) = true := by simp; omega
        clear h0 hr hrs
        go_enter Tryz.func69, Tryz.ntmps69
        go_wp2_with fail
        refine (rdigits_any _ _ (by assumption)).mono ?_
        rintro e w' ⟨rfl, rfl⟩
        rw [← HR.out]
        go_wp2_with fail
        go_ret2
        exact num_post HE.out (Below.refl _ _)
end Go.Proofs.YtjamfcihjendiaaGreat.K
namespace Go.Proofs.YtjamfcihjendiaaGreat.K
open Go.RowKit
set_option linter.unusedVariables false

end Go.Proofs.YtjamfcihjendiaaGreat.K
namespace Go.Proofs.YtjamfcihjendiaaGreat.K
open Go.RowKit
set_option linter.unusedVariables false

theorem bnew (w : World) (o : Obj) : Below w.heap.size w (w.alloc o) := (Below.refl _ _).alloc (Nat.le_refl _) _
theorem bset {w v : World} (h : Below w.heap.size w v) (i : Nat) (a : Value) : Below w.heap.size w (v.setCell ⟨w.heap.size, i, none⟩ a) := h.setCell (p := ⟨w.heap.size, i, none⟩) (Nat.le_refl _) a

theorem bset3 {w v : World} (h : Below w.heap.size w v) (a b c : Value) : Below w.heap.size w (((v.setCell ⟨w.heap.size, 0, none⟩ a).setCell ⟨w.heap.size, 1, none⟩ b).setCell ⟨w.heap.size, 2, none⟩ c) := bset (bset (bset h 0 a) 1 b) 2 c
end Go.Proofs.YtjamfcihjendiaaGreat.K
namespace Go.Proofs.YtjamfcihjendiaaGreat.K
open Go.RowKit
set_option linter.unusedVariables false

theorem one_list {s : ByteArray} (h : 0 < s.size) : (s.extract 0 1).data.toList = [s[0]] := by
  rw [ext_take]
  have := takeS (s := s) (k := 0) h
  simpa using this
theorem one_no {s : ByteArray} (h : 0 < s.size) (h1 : s[0] ≠ 34) : ((s.extract 0 1).toList == [34]) = false := by
  rw [ByteArray.toList_eq, one_list h]
  simpa using h1
end Go.Proofs.YtjamfcihjendiaaGreat.K
namespace Go.Proofs.YtjamfcihjendiaaGreat.K
open Go.RowKit
set_option linter.unusedVariables false
set_option maxRecDepth 100000

def ToksIn (w : World) (A : Option Addr) (L : List Tok) : Prop :=
  0 < L.length → ∃ b off, A = some ⟨b, off, none⟩ ∧ b < w.heap.size ∧ ∀ (j : Nat) (x : Tok), L[j]? = some x →
    w.cell? ⟨b, off + j * 3, none⟩ = some (.int .i64 x.k) ∧ w.cell? ⟨b, off + j * 3 + 1, none⟩ = some (.string (bs x.t)) ∧ w.cell? ⟨b, off + j * 3 + 2, none⟩ = some (.int .i64 x.l)
theorem ToksIn.below {w w' : World} {A : Option Addr} {L : List Tok} (h : ToksIn w A L) (hb : Below w.heap.size w w') : ToksIn w' A L := by
  intro h0
  obtain ⟨b, off, rfl, hlt, hc⟩ := h h0
  refine ⟨b, off, rfl, Nat.lt_of_lt_of_le hlt hb.size, fun j x hx => ?_⟩
  obtain ⟨h1, h2, h3⟩ := hc j x hx
  exact ⟨(hb.cell (p := ⟨b, _, none⟩) hlt).trans h1, (hb.cell (p := ⟨b, _, none⟩) hlt).trans h2, (hb.cell (p := ⟨b, _, none⟩) hlt).trans h3⟩
theorem own_slice {w : World} {base n : Nat} {e : TypeId} {sz : Nat} {v : Value} {xs : List Value} (h : w.ownsRow base e sz v n xs) : ∃ A c, v = .slice A n c ∧ n ≤ c := by
  rcases h.2 with ⟨rfl, rfl⟩ | ⟨g, cap, cur, rfl, _, _, hnc, _⟩
  · exact ⟨none, 0, rfl, Nat.le_refl _⟩
  · exact ⟨_, _, rfl, hnc⟩
theorem grown_of {w w' : World} (h : Below w.heap.size w w') : w.grownBy w' none := ⟨h.os, h.tape, h.output, h.size, fun i hi _ => h.block i hi⟩
theorem own_go {w w' : World} {base n sz : Nat} {e : TypeId} {v : Value} {xs : List Value} (h : w.ownsRow base e sz v n xs) (hb : Below w.heap.size w w') : w'.ownsRow base e sz v n xs :=
  h.kept (grown_of hb) (by cases v.ownBlock <;> simp)
end Go.Proofs.YtjamfcihjendiaaGreat.K
namespace Go.Proofs.YtjamfcihjendiaaGreat.K
open Go.RowKit
set_option linter.unusedVariables false
set_option maxRecDepth 100000

end Go.Proofs.YtjamfcihjendiaaGreat.K
namespace Go.Proofs.YtjamfcihjendiaaGreat.K
open Go.RowKit
set_option linter.unusedVariables false
set_option maxRecDepth 100000

end Go.Proofs.YtjamfcihjendiaaGreat.K
namespace Go.Proofs.YtjamfcihjendiaaGreat.K
open Go.RowKit
set_option linter.unusedVariables false
set_option maxRecDepth 100000

def sameT (x y : Tok) : Bool := x.k == y.k && x.t == y.t
def sameL : List Tok → List Tok → Bool
  | [], [] => true
  | x :: r, y :: s => sameT x y && sameL r s
  | _, _ => false
theorem sameL_is : ∀ {a b : List Tok}, sameL a b = true ↔ a.length = b.length ∧ ∀ (j : Nat) (x y : Tok), a[j]? = some x → b[j]? = some y → sameT x y = true
  | [], [] => by simp [sameL]
  | [], y :: s => by simp [sameL]
  | x :: r, [] => by simp [sameL]
  | x :: r, y :: s => by
    have ih := @sameL_is r s
    simp only [sameL, Bool.and_eq_true, ih, List.length_cons]
    constructor
    · rintro ⟨h1, h2, h3⟩
      refine ⟨by omega, fun j u v hu hv => ?_⟩
      cases j with
      | zero => simp at hu hv; subst hu; subst hv; exact h1
      | succ j => exact h3 j u v (by simpa using hu) (by simpa using hv)
    · rintro ⟨h1, h2⟩
      exact ⟨h2 0 x y rfl rfl, by omega, fun j u v hu hv => h2 (j + 1) u v (by simpa using hu) (by simpa using hv)⟩
theorem sameL_len {a b : List Tok} (h : a.length ≠ b.length) : sameL a b = false := by
  rw [Bool.eq_false_iff]
  intro hs
  exact h (sameL_is.1 hs).1
def sumT (L : List Tok) : Nat := (L.map (fun x => x.t.length)).sum
def fewB (L : List Tok) : Bool := decide (L.length ≤ 400) && decide (sumT L ≤ 3000)
theorem few_yes {L : List Tok} (h : fewB L = true) : L.length ≤ 400 ∧ sumT L ≤ 3000 := by
  unfold fewB at h; simpa using h
end Go.Proofs.YtjamfcihjendiaaGreat.K
namespace Go.Proofs.YtjamfcihjendiaaGreat.K
open Go.RowKit
set_option linter.unusedVariables false
set_option maxRecDepth 100000

theorem take_snoc {L : List Tok} {k : Nat} {x : Tok} (h : L[k]? = some x) : L.take (k + 1) = L.take k ++ [x] := by
  obtain ⟨hk, e⟩ := List.getElem?_eq_some_iff.1 h
  rw [List.take_succ_eq_append_getElem hk, e]
def StRow (f : Nat → ByteArray) (n g : Nat) (w wr : World) : Prop :=
  Below w.heap.size w wr ∧ w.heap.size ≤ g ∧ g < wr.heap.size ∧ (∀ j, j < n → wr.cell? ⟨g, j, none⟩ = some (.string (f j))) ∧ ∀ j, j < n → wr.frozen? ⟨g, j, none⟩ = false
theorem StRow.go {f : Nat → ByteArray} {n g : Nat} {w wr w1 : World} (h : StRow f n g w wr) (hb : Below wr.heap.size wr w1) : StRow f n g w w1 :=
  ⟨btwo h.1 (hb.mono (Nat.le_refl _)), h.2.1, Nat.lt_of_lt_of_le h.2.2.1 hb.size, fun j hj => (hb.cell (p := ⟨g, j, none⟩) h.2.2.1).trans (h.2.2.2.1 j hj), fun j hj => (hb.frozen (p := ⟨g, j, none⟩) h.2.2.1).trans (h.2.2.2.2 j hj)⟩
theorem StRow.set {f f' : Nat → ByteArray} {n g k : Nat} {w wr : World} {x : ByteArray} (h : StRow f n g w wr) (hk : k < n) (he : ∀ j, j ≠ k → f' j = f j) (hx : f' k = x) : StRow f' n g w (wr.setCell ⟨g, k, none⟩ (.string x)) := by
  refine ⟨h.1.setCell (p := ⟨g, k, none⟩) h.2.1 _, h.2.1, by simpa using h.2.2.1, fun j hj => ?_, fun j hj => (World.frozen?_setCell _ _ _ _).trans (h.2.2.2.2 j hj)⟩
  by_cases e : j = k
  · subst e; rw [World.cell?_setCell_same _ _ _ (h.2.2.2.1 j hj), hx]
  · rw [World.cell?_setCell_other _ _ _ _ (by first | (simp; done) | (simp; omega)), h.2.2.2.1 j hj, he j e]
theorem string_info : (Tryz.prog.info? 9).map (fun i => (i.zero, i.size, i.bytes)) = some (some (.string ⟨#[]⟩), 1, 16) := by kernel_rfl
end Go.Proofs.YtjamfcihjendiaaGreat.K
namespace Go.Proofs.YtjamfcihjendiaaGreat.K
open Go.RowKit
set_option linter.unusedVariables false
set_option maxRecDepth 100000

end Go.Proofs.YtjamfcihjendiaaGreat.K
namespace Go.Proofs.YtjamfcihjendiaaGreat.K
set_option linter.unusedVariables false

def stepS (p : List (List UInt8) × List UInt8) (c : UInt8) : List (List UInt8) × List UInt8 := if c = 10 then (p.1 ++ [p.2], []) else (p.1, p.2 ++ [c])
def splitS (l : List UInt8) : List (List UInt8) × List UInt8 := l.foldl stepS ([], [])
def splitL (l : List UInt8) : List (List UInt8) := (splitS l).1 ++ [(splitS l).2]
theorem splitS_snoc (l : List UInt8) (c : UInt8) : splitS (l ++ [c]) = stepS (splitS l) c := by simp [splitS, List.foldl_append]
theorem fold_gen (l : List UInt8) (D : List (List UInt8)) (u : List UInt8) : l.foldl stepS (D, u) = (D ++ (l.foldl stepS ([], u)).1, (l.foldl stepS ([], u)).2) := by
  induction l generalizing D u with
  | nil => simp
  | cons c r ih =>
    simp only [List.foldl_cons, stepS]
    by_cases h : c = 10
    · rw [if_pos h, if_pos h, ih, ih ([] ++ [u])]; simp
    · rw [if_neg h, if_neg h, ih]
theorem fold_none (l : List UInt8) (u : List UInt8) (h : ∀ c ∈ l, c ≠ 10) : l.foldl stepS ([], u) = ([], u ++ l) := by
  induction l generalizing u with
  | nil => simp
  | cons c r ih =>
    simp only [List.foldl_cons, stepS]
    rw [if_neg (h c (by simp)), ih _ (fun c hc => h c (by simp [hc]))]
    simp
theorem splitS_cut {x r : List UInt8} (h : ∀ c ∈ x, c ≠ 10) : splitS (x ++ 10 :: r) = (x :: (splitS r).1, (splitS r).2) := by
  unfold splitS
  rw [List.foldl_append, fold_none x [] h, List.foldl_cons, stepS, if_pos rfl, fold_gen]
  simp
theorem splitS_end (l : List UInt8) : splitS (l ++ [10]) = (splitL l, []) := by rw [splitS_snoc]; unfold stepS splitL; rw [if_pos rfl]

def linesV (l : List UInt8) : List (List UInt8) := (splitS l).1 ++ (if (splitS l).2 = [] then [] else [(splitS l).2])
def LnAt (l : List UInt8) (i f : Nat) : Prop := f ≤ i ∧ i ≤ l.length ∧ (splitS (l.take i)).2 = (l.drop f).take (i - f)
theorem ln_start (l : List UInt8) : LnAt l 0 0 := ⟨Nat.le_refl _, Nat.zero_le _, by simp [splitS]⟩
theorem ln_feed {l : List UInt8} {i : Nat} (hi : i < l.length) (h10 : l[i] = 10) : splitS (l.take (i + 1)) = (splitL (l.take i), []) := by
  rw [List.take_succ_eq_append_getElem hi, h10, splitS_end]
theorem ln_other {l : List UInt8} {i f : Nat} (h : LnAt l i f) (hi : i < l.length) (h10 : l[i] ≠ 10) : LnAt l (i + 1) f ∧ (splitS (l.take (i + 1))).1 = (splitS (l.take i)).1 := by
  obtain ⟨h1, h2, h3⟩ := h
  have e : splitS (l.take (i + 1)) = ((splitS (l.take i)).1, (splitS (l.take i)).2 ++ [l[i]]) := by
    rw [List.take_succ_eq_append_getElem hi, splitS_snoc]
    unfold stepS
    rw [if_neg h10]
  refine ⟨⟨by omega, by omega, ?_⟩, by rw [e]⟩
  rw [e, h3, show i + 1 - f = (i - f) + 1 by omega, List.take_succ_eq_append_getElem (by rw [List.length_drop]; omega)]
  have hl : i - f < (l.drop f).length := by rw [List.length_drop]; omega
  have e3 : (l.drop f)[i - f]'hl = l[i] := by
    rw [List.getElem_drop]
    simp only [show f + (i - f) = i by omega]
  rw [e3]
theorem ln_new (l : List UInt8) {i : Nat} (hi : i < l.length) (h10 : l[i] = 10) : LnAt l (i + 1) (i + 1) := by
  refine ⟨Nat.le_refl _, by omega, ?_⟩
  rw [ln_feed hi h10]; simp
theorem ln_more {l : List UInt8} {i : Nat} (hi : i < l.length) (h10 : l[i] = 10) : (splitS (l.take (i + 1))).1 = (splitS (l.take i)).1 ++ [(splitS (l.take i)).2] := by
  rw [ln_feed hi h10]; rfl
theorem ln_empty {l : List UInt8} {i f : Nat} (h : LnAt l i f) : (splitS (l.take i)).2 = [] ↔ f = i := by
  obtain ⟨h1, h2, h3⟩ := h
  rw [h3, List.take_eq_nil_iff]
  constructor
  · rintro (h | h)
    · first
        | omega
        | (have h4 : l.length - f = 0 := by rw [← List.length_drop, h]; rfl
           omega)
    · first
        | omega
        | (have h4 : l.length - f = 0 := by rw [← List.length_drop, h]; rfl
           omega)
  · intro h
    first
      | (left; omega)
      | (right; omega)
end Go.Proofs.YtjamfcihjendiaaGreat.K
namespace Go.Proofs.YtjamfcihjendiaaGreat.K
open Go.RowKit
set_option linter.unusedVariables false
set_option maxRecDepth 100000

def StrsIn (w : World) (A : Option Addr) (L : List (List UInt8)) : Prop :=
  0 < L.length → ∃ g off, A = some ⟨g, off, none⟩ ∧ g < w.heap.size ∧ ∀ (j : Nat) (x : List UInt8), L[j]? = some x → w.cell? ⟨g, off + j, none⟩ = some (.string (bs x))
theorem StrsIn.below {w w' : World} {A : Option Addr} {L : List (List UInt8)} (h : StrsIn w A L) (hb : Below w.heap.size w w') : StrsIn w' A L := by
  intro h0
  obtain ⟨g, off, e, hlt, hc⟩ := h h0
  exact ⟨g, off, e, Nat.lt_of_lt_of_le hlt hb.size, fun j x hx => (hb.cell (p := ⟨g, off + j, none⟩) hlt).trans (hc j x hx)⟩
def strCells (L : List (List UInt8)) : List Value := L.map fun x => .string (bs x)
theorem strs_own {w : World} {base n c : Nat} {e : TypeId} {A : Option Addr} {L : List (List UInt8)} (h : w.ownsRow base e 1 (.slice A n c) n (strCells L)) (hn : n = L.length) : StrsIn w A L := by
  intro h0
  obtain ⟨g, cap, hv, hb, hlt⟩ := h.form (by omega)
  have hA : A = some ⟨g, 0, none⟩ := by injection hv
  subst hA
  refine ⟨g, 0, rfl, hlt, fun j x hx => ?_⟩
  have hc := h.cells (g := g) rfl j (.string (bs x)) (by unfold strCells; rw [List.getElem?_map, hx]; rfl)
  rw [show (⟨g, 0, none⟩ : Addr).add j = ⟨g, 0 + j, none⟩ from by unfold Addr.add; split <;> simp_all] at hc
  exact hc
def LnPost (M : List (List UInt8)) (w : World) (e : Ending) (w' : World) : Prop :=
  ∃ A n c, e = .returned (.slice A n c) ∧ n = M.length ∧ n ≤ c ∧ StrsIn w' A M ∧ Below w.heap.size w w'
def MaxAt (w : World) : Prop := ∃ m : Int, w.cell? ⟨0, 0, none⟩ = some (.int .i64 m)
theorem MaxAt.below {w w' : World} (h : MaxAt w) (hb : Below w.heap.size w w') : MaxAt w' := by
  obtain ⟨m, hm⟩ := h
  exact ⟨m, (hb.cell (p := ⟨0, 0, none⟩) (World.block_lt_of_cell? _ _ hm)).trans hm⟩
theorem empty_of {s : ByteArray} (h : s.size = 0) : s.data.toList = [] := List.eq_nil_of_length_eq_zero h
theorem one_str (s : ByteArray) : ∀ u ∈ [Value.string s], u.oneCell' = true := by
  intro u hu; simp at hu; subst hu; rfl
theorem new_one {w : World} {g : Nat} (hg : w.heap.size = g) (t : TypeId) (x : Value) : ∀ (j : Nat) (u : Value), [x][j]? = some u → (w.alloc (.cells #[x] t)).cell? ((⟨g, 0, none⟩ : Addr).add j) = some u := by
  subst hg
  intro j u hj
  match j, hj with
  | 0, hj => simp at hj; subst hj; simp [Addr.add]
theorem str_snoc (L : List (List UInt8)) (x : List UInt8) : strCells (L ++ [x]) = strCells L ++ [.string (bs x)] := by simp [strCells]
def LnRel (s : ByteArray) (w : World) (v f i : Value) (wr : World) : Prop :=
  ∃ (k q n : Nat) (M : List (List UInt8)), k ≤ s.size ∧ q ≤ k ∧ n ≤ k ∧ i = .int .i64 (k : Int) ∧ f = .int .i64 (q : Int) ∧ LnAt s.data.toList k q ∧ M = (splitS (s.data.toList.take k)).1 ∧ M.length = n ∧ wr.ownsRow w.heap.size 9 1 v n (strCells M) ∧ Below w.heap.size w wr
theorem lnrel_more {s : ByteArray} {w W w4 : World} {k q n : Nat} {M : List (List UInt8)} {v v' : Value} {x : ByteArray} (hk : k < s.size) (h10 : (s[k].toNat : Int) = 10) (hn : n ≤ k) (hat : LnAt s.data.toList k q) (hM : M = (splitS (s.data.toList.take k)).1) (hl : M.length = n) (hx : x = s.extract q k)
    (hW : Below w.heap.size w W) (hbase : ∀ j, v.ownBlock = some j → w.heap.size ≤ j) (hown : w4.ownsRow w.heap.size 9 1 v' (n + 1) (strCells M ++ [.string x])) (hg : W.grownBy w4 v.ownBlock) :
    LnRel s w v' (.int .i64 ((k : Int) + 1)) (.int .i64 ((k : Int) + 1)) w4 := by
  have e10 : s[k] = 10 := byte_is (n := 10) (by omega) (by decide)
  have e11 : s.data.toList[k]'(by rw [sizeB]; exact hk) = 10 := by rw [← getB s k hk]; exact e10
  have hxl : bs (splitS (s.data.toList.take k)).2 = x := by
    rw [hx]
    exact (bs_of (by rw [ext_mid, hat.2.2])).symm
  refine ⟨k + 1, k + 1, n + 1, M ++ [(splitS (s.data.toList.take k)).2], by omega, Nat.le_refl _, by omega, by go_num, by go_num, ln_new _ _ e11, ?_, by simp [hl], ?_, hW.grown hg hW.size hbase⟩
  · rw [hM, ln_more (by rw [sizeB]; exact hk) e11]
  · rw [str_snoc, hxl]; exact hown
theorem lnrel_other {s : ByteArray} {w wr : World} {k q n : Nat} {M : List (List UInt8)} {v : Value} (hk : k < s.size) (h10 : ¬ (s[k].toNat : Int) = 10) (hn : n ≤ k) (hat : LnAt s.data.toList k q) (hM : M = (splitS (s.data.toList.take k)).1) (hl : M.length = n)
    (hown : wr.ownsRow w.heap.size 9 1 v n (strCells M)) (hb : Below w.heap.size w wr) :
    LnRel s w v (.int .i64 (q : Int)) (.int .i64 ((k : Int) + 1)) wr := by
  have e11 : s.data.toList[k]'(by rw [sizeB]; exact hk) ≠ 10 := by rw [← getB s k hk]; exact byte_ne (n := 10) h10 (by decide)
  obtain ⟨h1, h2⟩ := ln_other hat (by rw [sizeB]; exact hk) e11
  exact ⟨k + 1, q, n, M, by omega, by have := h1.1; omega, by omega, by go_num, rfl, h1, by rw [hM, h2], hl, hown, hb⟩
theorem ln_done {s : ByteArray} {w wr : World} {n : Nat} {M : List (List UInt8)} {v : Value} (hM : M = linesV s.data.toList) (hl : M.length = n) (hown : wr.ownsRow w.heap.size 9 1 v n (strCells M)) (hb : Below w.heap.size w wr) : LnPost (linesV s.data.toList) w (.returned v) wr := by
  obtain ⟨A, c, rfl, hc⟩ := own_slice hown
  rw [← hM]
  exact ⟨A, n, c, rfl, hl.symm, hc, strs_own hown hl.symm, hb⟩
theorem ln_end_none {s : ByteArray} {k q : Nat} (hk : k = s.size) (hat : LnAt s.data.toList k q) (hq : q = k) : linesV s.data.toList = (splitS (s.data.toList.take k)).1 := by
  have h := (ln_empty hat).2 hq
  rw [takeAll (by omega)] at h ⊢
  unfold linesV
  rw [if_pos h, List.append_nil]
theorem ln_end_one {s : ByteArray} {k q : Nat} (hk : k = s.size) (hat : LnAt s.data.toList k q) (hq : q ≠ k) : linesV s.data.toList = (splitS (s.data.toList.take k)).1 ++ [(s.extract q k).data.toList] := by
  have h : ¬ (splitS (s.data.toList.take k)).2 = [] := fun e => hq ((ln_empty hat).1 e)
  have h2 := hat.2.2
  rw [ext_mid, ← h2]
  rw [takeAll (by omega)] at h ⊢
  unfold linesV
  rw [if_neg h]
set_option maxHeartbeats 8000000 in
theorem rlines_any (s : ByteArray) (w : World) (hs : s.size ≤ 2000) :
    Calls Tryz.prog 51 #[.string s] w (LnPost (linesV s.data.toList) w) := by
  obtain ⟨i0, hi, hz0, hz1, hz2⟩ := info_parts string_info
  go_enter Tryz.func51, Tryz.ntmps51
  go_wp2
  go_loopw [3, 4, 5] (fun v f i wr => LnRel s w v f i wr ∨ (i = .int .i64 ((s.size : Int) + 1) ∧ LnPost (linesV s.data.toList) w (.returned v) wr)) (fun _ _ i _ => s.size + 1 - (intOf i).toNat)
  case atStart => exact Or.inl ⟨0, 0, 0, [], Nat.zero_le _, Nat.le_refl _, Nat.le_refl _, rfl, rfl, ln_start _, by simp [splitS], rfl, ⟨by rfl, Or.inl ⟨rfl, rfl⟩⟩, Below.refl _ _⟩
  case round =>
    rcases hrel with hrel | ⟨rfl, hdone⟩
    · obtain ⟨k, q, n, M, hk, hq, hn, rfl, rfl, hat, hM, hl, hown, hbr⟩ := hrel
      have HAT := Lib.hid hat
      have HM := Lib.hid hM
      have HL := Lib.hid hl
      have HO := Lib.hid hown
      have HB := Lib.hid hbr
      have hsz := hbr.size
      clear hat hM hl hown hbr
      by_cases hlt : k < s.size
      · have e0 : ((k : Int) == (s.size : Int)) = false := by simp; omega
        by_cases h10 : (s[k].toNat : Int) = 10
        · obtain ⟨x, hx⟩ : ∃ x, x = s.extract q k := ⟨_, rfl⟩
          have HX := Lib.hid hx
          have H10 := Lib.hid h10
          obtain ⟨W, hW⟩ : ∃ W, W = wr.alloc (.cells #[.string x] 9) := ⟨_, rfl⟩
          have HW := Lib.hid (show wr.alloc (.cells #[.string (s.extract q k)] 9) = W by rw [hW, hx])
          have HWB := Lib.hid (show Below wr.heap.size wr W by rw [hW]; exact bnew _ _)
          have HOW := Lib.hid (own_go HO.out HWB.out)
          have HNEW := Lib.hid (show ∀ (j : Nat) (u : Value), [Value.string x][j]? = some u → W.cell? ((⟨wr.heap.size, 0, none⟩ : Addr).add j) = some u from by rw [hW]; exact new_one rfl _ _)
          have hWs : W.heap.size = wr.heap.size + 1 := by rw [hW]; simp
          clear hW hx
          go_wp2_with (at_builtin; rw [HW.out]; refine wpList_append_lies _ rfl (.tmp 31) (.tmp 36) _ rfl w.heap.size 9 i0 _ 1 16 Tryz.underlying88 hi hz0 hz1 hz2 rfl (by omega) _ n (strCells M) rfl HOW.out ⟨wr.heap.size, 0, none⟩ 1 1 [.string x] rfl rfl HNEW.out (one_str _) (by omega) (by unfold maxLen; omega) (by omega) (by omega) _ rfl ?_; intro gg cap w4 hown4 hgrow hat hlt4)
          have HR := Lib.hid (lnrel_more hlt H10.out hn HAT.out HM.out HL.out HX.out (btwo HB.out HWB.out) (fun j hj => (HOW.out.lt j hj).1) hown4 hgrow)
          clear hown4 hgrow hat hlt4
          go_wp2_with fail
          go_roundw
          case rel => exact Or.inl HR.out
          case measure => simp [intOf]; omega
        · have HR := Lib.hid (lnrel_other hlt h10 hn HAT.out HM.out HL.out HO.out HB.out)
          have e1 : ((s[k].toNat : Int) == 10) = false := by simpa using h10
          clear h10
          go_wp2_with fail
          go_roundw
          case rel => exact Or.inl HR.out
          case measure => simp [intOf]; omega
      · obtain rfl : k = s.size := by omega
        have e0 : ((s.size : Int) == (s.size : Int)) = true := by simp
        by_cases hqk : q = s.size
        · have e1 : ((q : Int) == (s.size : Int)) = true := by simp; omega
          have HE := Lib.hid (show M = linesV s.data.toList by rw [HM.out]; exact (ln_end_none rfl HAT.out hqk).symm)
          clear hqk
          go_wp2_with fail
          go_ret
          exact ln_done HE.out HL.out HO.out HB.out
        · have e1 : ((q : Int) == (s.size : Int)) = false := by simp; omega
          obtain ⟨x, hx⟩ : ∃ x, x = s.extract q s.size := ⟨_, rfl⟩
          have HE := Lib.hid (show M ++ [x.data.toList] = linesV s.data.toList by rw [HM.out, hx]; exact (ln_end_one rfl HAT.out hqk).symm)
          obtain ⟨W, hW⟩ : ∃ W, W = wr.alloc (.cells #[.string x] 9) := ⟨_, rfl⟩
          have HW := Lib.hid (show wr.alloc (.cells #[.string (s.extract q s.size)] 9) = W by rw [hW, hx])
          have HWB := Lib.hid (show Below wr.heap.size wr W by rw [hW]; exact bnew _ _)
          have HOW := Lib.hid (own_go HO.out HWB.out)
          have HNEW := Lib.hid (show ∀ (j : Nat) (u : Value), [Value.string x][j]? = some u → W.cell? ((⟨wr.heap.size, 0, none⟩ : Addr).add j) = some u from by rw [hW]; exact new_one rfl _ _)
          have hWs : W.heap.size = wr.heap.size + 1 := by rw [hW]; simp
          clear hW hx hqk
          go_wp2_with (at_builtin; rw [HW.out]; refine wpList_append_lies _ rfl (.tmp 31) (.tmp 36) _ rfl w.heap.size 9 i0 _ 1 16 Tryz.underlying88 hi hz0 hz1 hz2 rfl (by omega) _ n (strCells M) rfl HOW.out ⟨wr.heap.size, 0, none⟩ 1 1 [.string x] rfl rfl HNEW.out (one_str _) (by omega) (by unfold maxLen; omega) (by omega) (by omega) _ rfl ?_; intro gg cap w4 hown4 hgrow hat hlt4)
          have HR := Lib.hid (show LnPost (linesV s.data.toList) w (.returned (.slice (some ⟨gg, 0, none⟩) (n + 1) cap)) w4 from ln_done (n := n + 1) HE.out (by simp [HL.out]) (by rw [str_snoc, ← bs_of (o := x) rfl]; exact hown4) ((btwo HB.out HWB.out).grown hgrow (btwo HB.out HWB.out).size (fun j hj => (HOW.out.lt j hj).1)))
          clear hown4 hgrow hat hlt4
          go_wp2_with fail
          go_roundw
          case rel => exact Or.inr ⟨by first | rfl | go_num, HR.out⟩
          case measure => (simp [intOf]; try omega)
    · have HD := Lib.hid hdone
      clear hdone
      go_wp2_with fail
      go_ret
      exact HD.out

end Go.Proofs.YtjamfcihjendiaaGreat.K
