/- Contracts of both sides: strings in quotes, white space. -/
import Derived.Test.YtngkhggofjeflaaDoorKc
namespace Go.Proofs.YtngkhggofjeflaaDoor
open Go.RowKit
set_option linter.unusedVariables false

def quoV (l : List UInt8) : List UInt8 × Int := if 60 < l.length then ([], 3) else if l.all isQu then (34 :: (l ++ [34]), 0) else ([], 2)
theorem quo_big {s : ByteArray} (h : 60 < s.size) : quoV s.data.toList = ([], 3) := by unfold quoV; rw [if_pos (by rw [sizeB]; exact h)]
theorem quo_bad {s : ByteArray} (h : ¬ 60 < s.size) (h1 : s.data.toList.all isQu = false) : quoV s.data.toList = ([], 2) := by unfold quoV; rw [if_neg (by rw [sizeB]; exact h), if_neg (by simp [h1])]
theorem quo_ok {s : ByteArray} (h : ¬ 60 < s.size) (h1 : s.data.toList.all isQu = true) : quoV s.data.toList = (34 :: (s.data.toList ++ [34]), 0) := by unfold quoV; rw [if_neg (by rw [sizeB]; exact h), if_pos h1]
theorem quo_not {s : ByteArray} {k : Nat} (hk : k < s.size) (h : isQu s[k] = false) : s.data.toList.all isQu = false := by
  rw [Bool.eq_false_iff]
  intro ha
  have := List.all_eq_true.1 ha s[k] (by rw [getB]; exact List.getElem_mem _)
  rw [h] at this; cases this
theorem quo_short {s : ByteArray} (h : runL isQu s.data.toList < s.size) : s.data.toList.all isQu = false := by
  rw [Bool.eq_false_iff]
  intro ha
  have := runL_all ha
  rw [sizeB] at this; omega
def QuoPost (l : List UInt8) (w : World) (e : Ending) (w' : World) : Prop := e = .returned (.tuple #[.string (bs (quoV l).1), .int .i64 (quoV l).2]) ∧ w = w'
theorem quo_post {l p : List UInt8} {w : World} {x : Int} {b : ByteArray} (h : quoV l = (p, x)) (hb : b.data.toList = p) : QuoPost l w (.returned (.tuple #[.string b, .int .i64 x])) w := ⟨by rw [h, ← hb]; rfl, rfl⟩
theorem quo_cat (s : ByteArray) : (((⟨#[34]⟩ : ByteArray) ++ s) ++ (⟨#[34]⟩ : ByteArray)).data.toList = 34 :: (s.data.toList ++ [34]) := by
  rw [cat_any, cat_any]; rfl

set_option maxHeartbeats 1000000 in
theorem quote_any (s : ByteArray) (w : World) (hs : s.size ≤ maxLen) :
    Calls Tryd.prog 27 #[.string s] w (QuoPost s.data.toList w) := by
  by_cases h60 : 60 < s.size
  · have HE := Lib.hid (quo_big h60)
    go_enter Tryd.func27, Tryd.ntmps27
    go_wp2
    go_ret2
    exact quo_post HE.out rfl
  · obtain ⟨r, hr⟩ : ∃ r, r = runL isQu s.data.toList := ⟨_, rfl⟩
    have HR := Lib.hid hr
    have hrle : r ≤ s.size := by rw [hr]; exact runL_le _ _
    by_cases hrs : r < s.size
    · have HE := Lib.hid (quo_bad h60 (quo_short (by rw [← hr]; exact hrs)))
      clear hr
      go_enter Tryd.func27, Tryd.ntmps27
      go_wp2_with fail
      refine (qsize_any _ _ (by assumption)).mono ?_
      rintro e w' ⟨rfl, rfl⟩
      rw [← HR.out]
      go_wp2_with fail
      go_ret2
      exact quo_post HE.out rfl
    · have HE := Lib.hid (quo_ok h60 (runL_len (by rw [← hr, sizeB]; omega)))
      have s1 : ∀ w : World, (Op.stringOp .add (⟨#[34]⟩ : ByteArray) s).run Tryd.prog w = .ok (.string ((⟨#[34]⟩ : ByteArray) ++ s)) w := fun w => run_string_add_sum w _ _ (by show 1 + s.size ≤ _; omega)
      have s2 : ∀ w : World, (Op.stringOp .add ((⟨#[34]⟩ : ByteArray) ++ s) (⟨#[34]⟩ : ByteArray)).run Tryd.prog w = .ok (.string (((⟨#[34]⟩ : ByteArray) ++ s) ++ (⟨#[34]⟩ : ByteArray))) w := fun w => run_string_add_sum w _ _ (by rw [ByteArray.size_append]; show 1 + s.size + 1 ≤ _; omega)
      clear hr
      go_enter Tryd.func27, Tryd.ntmps27
      go_wp2_with fail
      refine (qsize_any _ _ (by assumption)).mono ?_
      rintro e w' ⟨rfl, rfl⟩
      rw [← HR.out]
      go_wp2_with fail
      go_ret2
      exact quo_post HE.out (quo_cat s)

set_option maxHeartbeats 1000000 in
theorem rquote_any (s : ByteArray) (w : World) (hs : s.size ≤ maxLen) :
    Calls Tryd.prog 28 #[.string s] w (QuoPost s.data.toList w) := by
  by_cases h60 : 60 < s.size
  · have HE := Lib.hid (quo_big h60)
    go_enter Tryd.func28, Tryd.ntmps28
    go_wp2
    go_ret2
    exact quo_post HE.out rfl
  · go_enter Tryd.func28, Tryd.ntmps28
    go_wp2
    go_loop [4] (fun i => ∃ k : Nat, k ≤ s.size ∧ i = .int .i64 k ∧ (s.data.toList.take k).all isQu = true) (fun i => s.size - (intOf i).toNat)
    case atStart => exact ⟨0, Nat.zero_le _, rfl, rfl⟩
    case round =>
      obtain ⟨k, hk, rfl, hok⟩ := hrel
      have HOK := Lib.hid hok
      clear hok
      by_cases hlt : k < s.size
      · have hb : (s[k].toNat : Int) ≤ 255 := by have := s[k].toNat_lt; omega
        cases hi : quI (s[k].toNat : Int) with
        | true =>
          have HI := Lib.hid hi
          clear hi
          go_wp2_with (go_at_call 51; refine (rquot_any _ _ (by omega) (by omega)).mono ?_; rintro e w' ⟨rfl, rfl⟩; rw [HI.out])
          go_round
          case rel => exact ⟨k + 1, by omega, by go_num, run_step hlt HOK.out HI.out⟩
          case measure => simp [intOf]; omega
        | false =>
          have HI := Lib.hid hi
          have HE := Lib.hid (quo_bad h60 (quo_not hlt hi))
          clear hi
          go_wp2_with (go_at_call 51; refine (rquot_any _ _ (by omega) (by omega)).mono ?_; rintro e w' ⟨rfl, rfl⟩; rw [HI.out])
          go_ret2
          exact quo_post HE.out rfl
      · have HE := Lib.hid (quo_ok h60 (by rw [← takeAll (s := s) (k := k) (by omega)]; exact HOK.out))
        have s1 : ∀ w : World, (Op.stringOp .add (⟨#[34]⟩ : ByteArray) s).run Tryd.prog w = .ok (.string ((⟨#[34]⟩ : ByteArray) ++ s)) w := fun w => run_string_add_sum w _ _ (by show 1 + s.size ≤ _; omega)
        have s2 : ∀ w : World, (Op.stringOp .add ((⟨#[34]⟩ : ByteArray) ++ s) (⟨#[34]⟩ : ByteArray)).run Tryd.prog w = .ok (.string (((⟨#[34]⟩ : ByteArray) ++ s) ++ (⟨#[34]⟩ : ByteArray))) w := fun w => run_string_add_sum w _ _ (by rw [ByteArray.size_append]; show 1 + s.size + 1 ≤ _; omega)
        go_wp2
        go_ret2
        exact quo_post HE.out (quo_cat s)

theorem run_index : ∀ l : List UInt8, (Lib.indexByte l 10 = -1 → runL noLF l = l.length) ∧ (0 ≤ Lib.indexByte l 10 → (runL noLF l : Int) = Lib.indexByte l 10)
  | [] => ⟨fun _ => rfl, fun h => by simp [Lib.indexByte] at h⟩
  | c :: r => by
    obtain ⟨i1, i2⟩ := run_index r
    have hge := Lib.indexByte_ge r 10
    by_cases hc : c = 10
    · subst hc
      constructor
      · intro h; simp [Lib.indexByte] at h
      · intro _; rw [runL, if_neg (by decide)]; simp [Lib.indexByte]
    · have hn : noLF c = true := by unfold noLF; simpa using hc
      have e : Lib.indexByte (c :: r) 10 = if Lib.indexByte r 10 == -1 then -1 else Lib.indexByte r 10 + 1 := by
        rw [Lib.indexByte, if_neg (by simpa using hc)]
      rw [e, runL, if_pos hn]
      by_cases h1 : Lib.indexByte r 10 = -1
      · rw [if_pos (by simp [h1])]
        exact ⟨fun _ => by rw [i1 h1]; rfl, fun h => by omega⟩
      · rw [if_neg (by simpa using h1)]
        exact ⟨fun h => by omega, fun h => by have := i2 (by omega); omega⟩
def wsL : List UInt8 := [32, 9, 10, 13]
theorem ws_idx (n : Int) (h0 : 0 ≤ n) (h1 : n ≤ 255) : wsI n = decide (0 ≤ Lib.indexByte wsL n.toNat.toUInt8) := by
  have e : (wsI n = true) ↔ n.toNat.toUInt8 ∈ wsL := by
    unfold wsI wsL
    simp only [Bool.or_eq_true, beq_iff_eq, List.mem_cons, List.not_mem_nil, or_false]
    have hh : ∀ m : Nat, m < 256 → (n.toNat.toUInt8 = m.toUInt8 ↔ n = m) := by
      intro m hm
      constructor
      · intro h
        have := congrArg UInt8.toNat h
        simp at this
        omega
      · rintro rfl; simp
    have a := hh 32 (by decide)
    have b := hh 9 (by decide)
    have c := hh 10 (by decide)
    have d := hh 13 (by decide)
    have a' : (n.toNat.toUInt8 = 32 ↔ n = 32) := a
    have b' : (n.toNat.toUInt8 = 9 ↔ n = 9) := b
    have c' : (n.toNat.toUInt8 = 10 ↔ n = 10) := c
    have d' : (n.toNat.toUInt8 = 13 ↔ n = 13) := d
    rw [a', b', c', d']
    constructor
    · rintro (((h | h) | h) | h)
      · exact .inl h
      · exact .inr (.inl h)
      · exact .inr (.inr (.inl h))
      · exact .inr (.inr (.inr h))
    · rintro (h | h | h | h)
      · exact .inl (.inl (.inl h))
      · exact .inl (.inl (.inr h))
      · exact .inl (.inr h)
      · exact .inr h
  rw [Bool.eq_iff_iff, e, decide_eq_true_eq]
  constructor
  · exact idx_some
  · intro h
    rcases Classical.em (n.toNat.toUInt8 ∈ wsL) with h1 | h1
    · exact h1
    · rw [idx_none h1] at h; omega
theorem idx1_any (s : ByteArray) (c : UInt8) (w : World) : Calls Tryd.prog 44 #[.string s, .string ⟨#[c]⟩] w fun e w' => e = .returned (.int .i64 (Lib.indexByte s.data.toList c)) ∧ w = w' :=
  (Tryd.strings_Index_one s c w).mono fun _ _ ⟨a, b⟩ => ⟨a, b.symm⟩
theorem bl_at {s : ByteArray} (h : 0 < s.size) : blL s.data.toList = if isWs s[0] then 1 else if s[0] == 35 then runL noLF s.data.toList else 0 := by
  have e := dropS h
  rw [List.drop_zero] at e
  rw [e, blL_cons]
  by_cases h1 : isWs s[0] = true
  · rw [if_pos h1, if_pos h1]
  · rw [if_neg h1, if_neg h1]
    by_cases h2 : (s[0] == 35) = true
    · rw [if_pos h2, if_pos h2, runL, if_pos]
      have : s[0] = 35 := by simpa using h2
      rw [this]; decide
    · rw [if_neg h2, if_neg h2]
set_option maxHeartbeats 1000000 in
theorem blank_any (s : ByteArray) (w : World) (hs : s.size ≤ maxLen) (h0 : 0 < s.size) :
    Calls Tryd.prog 33 #[.string s] w fun e w' => e = .returned (.int .i64 (blL s.data.toList : Nat)) ∧ w = w' := by
  have hb0 : (s[0].toNat : Int) ≤ 255 := by have := s[0].toNat_lt; omega
  obtain ⟨x, hx⟩ : ∃ x, x = Lib.indexByte wsL (s[0].toNat : Int).toNat.toUInt8 := ⟨_, rfl⟩
  have HX := Lib.hid (show Lib.indexByte (⟨#[32, 9, 10, 13]⟩ : ByteArray).data.toList (s[0].toNat : Int).toNat.toUInt8 = x by rw [hx]; rfl)
  have hws : isWs s[0] = decide (0 ≤ x) := by rw [hx]; exact ws_idx _ (by omega) (by omega)
  clear hx
  by_cases hx0 : 0 ≤ x
  · have HE := Lib.hid (show blL s.data.toList = 1 by rw [bl_at h0, hws, if_pos (by simpa using hx0)])
    clear hws
    go_enter Tryd.func33, Tryd.ntmps33
    go_wp2_with fail
    refine (idxb_any _ _ _).mono ?_
    rintro e w' ⟨rfl, rfl⟩
    rw [HX.out]
    go_wp2_with fail
    go_ret
    exact ⟨ret_int (by rw [HE.out]; rfl), rfl⟩
  · by_cases h35 : (s[0].toNat : Int) = 35
    · have e35 : s[0] = 35 := byte_is (n := 35) (by omega) (by decide)
      have hrn := run_index s.data.toList
      obtain ⟨y, hy⟩ : ∃ y, y = Lib.indexByte s.data.toList 10 := ⟨_, rfl⟩
      have hge := Lib.indexByte_ge s.data.toList 10
      have HE := Lib.hid (show blL s.data.toList = runL noLF s.data.toList by rw [bl_at h0, hws, if_neg (by simpa using hx0), if_pos (by simp [e35])])
      rw [← hy] at hge hrn
      have HRN := Lib.hid hrn
      have HY := Lib.hid hy
      have HX35 := Lib.hid (show Lib.indexByte (⟨#[32, 9, 10, 13]⟩ : ByteArray).data.toList (35 : Int).toNat.toUInt8 = x by rw [← h35]; exact HX.out)
      clear hws hrn hy e35
      go_enter Tryd.func33, Tryd.ntmps33
      by_cases hy0 : 0 ≤ y
      · go_wp2_with fail
        refine (idxb_any _ _ _).mono ?_
        rintro e w' ⟨rfl, rfl⟩
        rw [HX35.out]
        go_wp2_with fail
        refine (idx1_any _ _ _).mono ?_
        rintro e w' ⟨rfl, rfl⟩
        rw [← HY.out]
        go_wp2_with fail
        go_ret
        exact ⟨ret_int (by rw [HE.out, HRN.out.2 hy0]), rfl⟩
      · go_wp2_with fail
        refine (idxb_any _ _ _).mono ?_
        rintro e w' ⟨rfl, rfl⟩
        rw [HX35.out]
        go_wp2_with fail
        refine (idx1_any _ _ _).mono ?_
        rintro e w' ⟨rfl, rfl⟩
        rw [← HY.out]
        go_wp2_with fail
        go_ret
        exact ⟨ret_int (by rw [HE.out, HRN.out.1 (by omega), sizeB]), rfl⟩
    · have HE := Lib.hid (show blL s.data.toList = 0 by
        have := byte_ne (n := 35) h35 (by decide)
        rw [bl_at h0, hws, if_neg (by simpa using hx0), if_neg (by simpa using this)])
      clear hws
      go_enter Tryd.func33, Tryd.ntmps33
      go_wp2_with fail
      refine (idxb_any _ _ _).mono ?_
      rintro e w' ⟨rfl, rfl⟩
      rw [HX.out]
      go_wp2_with fail
      go_ret
      exact ⟨ret_int (by rw [HE.out]; rfl), rfl⟩

/-- n bytes of white space and comments, and behind them none. -/
def SpOk (l : List UInt8) (n : Nat) : Prop := n ≤ l.length ∧ blL (l.drop n) = 0 ∧ ∀ ln, lexR l ln = lexR (l.drop n) (ln + (feeds (l.take n) : Int))
def SpAt (l : List UInt8) (n : Nat) : Prop := ∀ ln, lexR l ln = lexR (l.drop n) (ln + (feeds (l.take n) : Int))
theorem sp_start (l : List UInt8) : SpAt l 0 := by
  intro ln; rw [List.drop_zero, List.take_zero]; simp [feeds]
theorem feeds_cat (a b : List UInt8) : feeds (a ++ b) = feeds a + feeds b := by unfold feeds; rw [List.count_append]
theorem sp_more {l : List UInt8} {k b : Nat} (h : SpAt l k) (hb : blL (l.drop k) = b) (h0 : 0 < b) : SpAt l (k + b) := by
  intro ln
  rw [h ln, lex_blank _ hb h0, List.drop_drop, List.take_add, feeds_cat]
  congr 1
  omega
theorem sp_ok {l : List UInt8} {k : Nat} (h : SpAt l k) (hk : k ≤ l.length) (hb : blL (l.drop k) = 0) : SpOk l k := ⟨hk, hb, h⟩
theorem ws_int {n : Int} (h : wsI n = true) : n = 32 ∨ n = 9 ∨ n = 10 ∨ n = 13 := by
  unfold wsI at h
  simp only [Bool.or_eq_true, beq_iff_eq] at h
  rcases h with ((h | h) | h) | h
  · exact .inl h
  · exact .inr (.inl h)
  · exact .inr (.inr (.inl h))
  · exact .inr (.inr (.inr h))
theorem bl_drop_ws {s : ByteArray} {k : Nat} (hk : k < s.size) (h : wsI (s[k].toNat : Int) = true) : blL (s.data.toList.drop k) = 1 := by
  rw [dropS hk, bl_ws _ h]
theorem bl_drop_no {s : ByteArray} {k : Nat} (hk : k < s.size) (h : wsI (s[k].toNat : Int) = false) (h1 : ¬ (s[k].toNat : Int) = 35) : blL (s.data.toList.drop k) = 0 := by
  rw [dropS hk, bl_zero _ h (byte_ne (n := 35) h1 (by decide))]
/-- j bytes of a comment that begins behind k. -/
def ComAt (s : ByteArray) (k j : Nat) : Prop := k ≤ j ∧ ((s.data.toList.drop k).take (j - k)).all noLF = true
theorem com_start (s : ByteArray) (k : Nat) : ComAt s k k := ⟨Nat.le_refl _, by rw [Nat.sub_self]; rfl⟩
theorem com_step {s : ByteArray} {k j : Nat} (h : ComAt s k j) (hj : j < s.size) (h1 : ¬ (s[j].toNat : Int) = 10) : ComAt s k (j + 1) := by
  refine ⟨by have := h.1; omega, ?_⟩
  have hkj := h.1
  have e : j + 1 - k = (j - k) + 1 := by omega
  have hl : j - k < (s.data.toList.drop k).length := by rw [List.length_drop, sizeB]; omega
  rw [e, List.take_succ_eq_append_getElem hl, List.all_append, h.2]
  have : (s.data.toList.drop k)[j - k] = s[j] := by
    rw [List.getElem_drop, getB]
    congr 1
    omega
  rw [this]
  have h2 := byte_ne (n := 10) h1 (by decide)
  simp only [List.all_cons, List.all_nil, Bool.and_true, Bool.true_and]
  unfold noLF
  simpa using h2
theorem com_run {s : ByteArray} {k j : Nat} (h : ComAt s k j) (hj : j ≤ s.size) (h1 : j < s.size → ∃ hh : j < s.size, (s[j].toNat : Int) = 10) : runL noLF (s.data.toList.drop k) = j - k := by
  have e : s.data.toList.drop k = (s.data.toList.drop k).take (j - k) ++ s.data.toList.drop j := by
    conv => lhs; rw [← List.take_append_drop (j - k) (s.data.toList.drop k)]
    rw [List.drop_drop, show k + (j - k) = j by have := h.1; omega]
  rw [e, runL_cat h.2, List.length_take, List.length_drop, sizeB]
  have : runL noLF (s.data.toList.drop j) = 0 := by
    by_cases hlt : j < s.size
    · obtain ⟨_, h10⟩ := h1 hlt
      rw [dropS hlt, runL, if_neg]
      rw [byte_is (c := s[j]) (n := 10) (by omega) (by decide)]; decide
    · rw [dropE (by omega)]; rfl
  rw [this]
  have := h.1
  omega
theorem com_bl {s : ByteArray} {k j : Nat} (hk : k < s.size) (hc : (s[k].toNat : Int) = 35) (h : runL noLF (s.data.toList.drop k) = j - k) : blL (s.data.toList.drop k) = j - k ∧ k < j := by
  have e : s[k] = 35 := byte_is (n := 35) (by omega) (by decide)
  rw [dropS hk, e] at h ⊢
  rw [runL, if_pos (by decide)] at h
  rw [bl_com]
  exact ⟨h, by omega⟩
set_option maxHeartbeats 2000000 in
theorem rspace_any (s : ByteArray) (w : World) (hs : s.size ≤ maxLen) :
    Calls Tryd.prog 35 #[.string s] w fun e w' => ∃ n : Nat, e = .returned (.int .i64 n) ∧ SpOk s.data.toList n ∧ w = w' := by
  unfold maxLen at hs
  go_enter Tryd.func35, Tryd.ntmps35
  go_wp2
  go_loop [3] (fun i => ∃ k : Nat, k ≤ s.size ∧ i = .int .i64 k ∧ SpAt s.data.toList k) (fun i => s.size - (intOf i).toNat)
  case atStart => exact ⟨0, Nat.zero_le _, rfl, sp_start _⟩
  case round =>
    obtain ⟨k, hk, rfl, hat⟩ := hrel
    have HAT := Lib.hid hat
    clear hat
    by_cases hlt : k < s.size
    · have hb : (s[k].toNat : Int) ≤ 255 := by have := s[k].toNat_lt; omega
      cases hw : wsI (s[k].toNat : Int) with
      | true =>
        have HN := Lib.hid (sp_more HAT.out (bl_drop_ws hlt hw) (by omega))
        rcases ws_int hw with h | h | h | h
        all_goals
          clear hw
          go_wp2
          go_round
          case rel => exact ⟨k + 1, by omega, by go_num, HN.out⟩
          case measure => simp [intOf]; omega
      | false =>
        have HW := Lib.hid hw
        have e1 : ((s[k].toNat : Int) == 32) = false := by unfold wsI at hw; simp at hw; simp; omega
        have e2 : ((s[k].toNat : Int) == 9) = false := by unfold wsI at hw; simp at hw; simp; omega
        have e3 : ((s[k].toNat : Int) == 10) = false := by unfold wsI at hw; simp at hw; simp; omega
        have e4 : ((s[k].toNat : Int) == 13) = false := by unfold wsI at hw; simp at hw; simp; omega
        clear hw
        by_cases h35 : (s[k].toNat : Int) = 35
        · have H35 := Lib.hid h35
          clear e1 e2 e3 e4
          go_wp2
          go_loop [3] (fun i => ∃ j : Nat, j ≤ s.size ∧ i = .int .i64 j ∧ ComAt s k j) (fun i => s.size - (intOf i).toNat)
          case atStart => exact ⟨k, hk, rfl, com_start s k⟩
          case round =>
            obtain ⟨j, hj, rfl, hcom⟩ := hrel
            have HC := Lib.hid hcom
            clear hcom
            by_cases hjl : j < s.size
            · have hbj : (s[j].toNat : Int) ≤ 255 := by have := s[j].toNat_lt; omega
              by_cases h10 : (s[j].toNat : Int) = 10
              · obtain ⟨HB, hkj⟩ := com_bl hlt H35.out (com_run HC.out hj (fun _ => ⟨hjl, h10⟩))
                have HN := Lib.hid (show SpAt s.data.toList j by
                  have := sp_more HAT.out HB (by omega)
                  rwa [show k + (j - k) = j by omega] at this)
                clear HB
                go_wp2
                go_round
                case rel => exact ⟨j, by omega, rfl, HN.out⟩
                case measure => simp [intOf]; omega
              · have HN := Lib.hid (com_step HC.out hjl h10)
                go_wp2
                go_round
                case rel => exact ⟨j + 1, by omega, by go_num, HN.out⟩
                case measure => simp [intOf]; omega
            · obtain ⟨HB, hkj⟩ := com_bl hlt H35.out (com_run HC.out hj (fun h => absurd h hjl))
              have HN := Lib.hid (show SpAt s.data.toList j by
                have := sp_more HAT.out HB (by omega)
                rwa [show k + (j - k) = j by omega] at this)
              clear HB
              go_wp2
              go_round
              case rel => exact ⟨j, by omega, rfl, HN.out⟩
              case measure => simp [intOf]; omega
        · have HN := Lib.hid (sp_ok HAT.out (by rw [sizeB]; omega) (bl_drop_no hlt HW.out h35))
          go_wp2
          go_ret
          exact ⟨k, rfl, HN.out, rfl⟩
    · have HN := Lib.hid (sp_ok HAT.out (by rw [sizeB]; omega) (by rw [dropE (by omega)]; rfl))
      go_wp2
      go_ret
      exact ⟨k, rfl, HN.out, rfl⟩
end Go.Proofs.YtngkhggofjeflaaDoor
