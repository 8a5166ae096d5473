/- Writing tokens leads back to them; what stands between tokens. Nothing here speaks of the program. -/
import Derived.Test.YtngkhggofjeflaaDoorKMath
namespace Go.Proofs.YtngkhggofjeflaaDoor
set_option linter.unusedVariables false

/-! ### What is written is found again -/
def wsHead (r : List UInt8) : Prop := ∀ c, r.head? = some c → isWs c = true
theorem ws_cases {c : UInt8} (h : isWs c = true) : c = 32 ∨ c = 9 ∨ c = 10 ∨ c = 13 := by
  unfold isWs wsI at h
  simp only [Bool.or_eq_true, beq_iff_eq] at h
  rcases h with ((h | h) | h) | h
  · exact .inl (byte_is (n := 32) (by omega) (by decide))
  · exact .inr (.inl (byte_is (n := 9) (by omega) (by decide)))
  · exact .inr (.inr (.inl (byte_is (n := 10) (by omega) (by decide))))
  · exact .inr (.inr (.inr (byte_is (n := 13) (by omega) (by decide))))
theorem bl_zero {c : UInt8} (r : List UInt8) (h : isWs c = false) (h1 : c ≠ 35) : blL (c :: r) = 0 := by
  rw [blL_cons, if_neg (by simp [h]), if_neg (by simp [h1])]
theorem bl_ws {c : UInt8} (r : List UInt8) (h : isWs c = true) : blL (c :: r) = 1 := by
  rw [blL_cons, if_pos h]
theorem bl_com (r : List UInt8) : blL (35 :: r) = runL noLF r + 1 := by
  rw [blL_cons, if_neg (by decide), if_pos (by decide)]
theorem sm_no {c : UInt8} (h : isSm c = true) : isWs c = false ∧ c ≠ 35 := by
  constructor
  · cases hw : isWs c with
    | false => rfl
    | true => rcases ws_cases hw with rfl | rfl | rfl | rfl <;> exact absurd h (by decide)
  · rintro rfl; exact absurd h (by decide)
theorem dg_no {c : UInt8} (h : isDg c = true) : isWs c = false ∧ c ≠ 35 ∧ isSm c = false := by
  refine ⟨?_, ?_, ?_⟩
  · cases hw : isWs c with
    | false => rfl
    | true => rcases ws_cases hw with rfl | rfl | rfl | rfl <;> exact absurd h (by decide)
  · rintro rfl; exact absurd h (by decide)
  · cases hs : isSm c with
    | false => rfl
    | true => rw [sm_dg hs] at h; cases h
theorem sg_no {c : UInt8} (h : isSg c = true) : isWs c = false ∧ c ≠ 35 ∧ isSm c = false ∧ isDg c = false ∧ c ≠ 34 := by
  have hm : c ∈ signL := by unfold isSg at h; simpa using h
  have := (show ∀ c ∈ signL, isWs c = false ∧ c ≠ 35 ∧ isSm c = false ∧ isDg c = false ∧ c ≠ 34 by decide) c hm
  exact this
theorem nx_back {k : Int} {t r : List UInt8} (h : rightT k t = true) (hr : wsHead r) : nxV (wrT k t ++ r) = (k, t, (wrT k t).length, 0) ∧ blL (wrT k t ++ r) = 0 ∧ 0 < (wrT k t).length := by
  unfold rightT at h
  by_cases h1 : k = 1
  · subst h1
    rw [if_pos rfl] at h
    have e : wrT 1 t = t := rfl
    rw [e]
    unfold nameB at h
    simp only [Bool.and_eq_true, bne_iff_ne, decide_eq_true_eq, beq_iff_eq] at h
    obtain ⟨⟨h1, h2⟩, h3⟩ := h
    cases t with
    | nil => exact absurd rfl h1
    | cons c t =>
      have hc : isSm c = true := by
        cases hc : isSm c with
        | true => rfl
        | false => rw [nmL_cons, hc] at h3; simp at h3
      have h4 : nmR t = t.length := by rw [nmL_cons, if_pos hc] at h3; simpa using h3
      have h5 := nmR_cat (b := r) h4 (fun d hd => by
        rcases ws_cases (hr d hd) with rfl | rfl | rfl | rfl <;> decide)
      have h6 : nmL (c :: (t ++ r)) = (c :: t).length := by rw [nmL_cons, if_pos hc, h5]; rfl
      refine ⟨?_, ?_, by simp⟩
      · rw [List.cons_append, nx_nm hc h6 (by omega), List.length_cons, List.take_succ_cons, List.take_left]
      · rw [List.cons_append]; exact bl_zero _ (sm_no hc).1 (sm_no hc).2
  · rw [if_neg h1] at h
    by_cases h2 : k = 2
    · subst h2
      rw [if_pos rfl] at h
      have e : wrT 2 t = t := rfl
      rw [e]
      obtain ⟨h1, h2, h3, h4⟩ := num_all h
      have h5 : runL isDg (t ++ r) = t.length := by
        rw [runL_cat h3, runL_stop (fun c hc => by rcases ws_cases (hr c hc) with rfl | rfl | rfl | rfl <;> decide)]; rfl
      cases t with
      | nil => exact absurd rfl h1
      | cons c t =>
        have hc : isDg c = true := by simp only [List.all_cons, Bool.and_eq_true] at h3; exact h3.1
        refine ⟨?_, ?_, by simp⟩
        · rw [List.cons_append] at h5 ⊢
          rw [nx_dg (dg_no hc).2.2 hc h5 (by omega) (fun ⟨a, b⟩ => h4 ⟨by rw [a]; rfl, b⟩), List.length_cons, List.take_succ_cons, List.take_left]
        · rw [List.cons_append]; exact bl_zero _ (dg_no hc).1 (dg_no hc).2.1
    · rw [if_neg h2] at h
      by_cases h3 : k = 3
      · subst h3
        rw [if_pos rfl] at h
        unfold quoB at h
        simp only [Bool.and_eq_true, decide_eq_true_eq] at h
        have e : wrT 3 t ++ r = 34 :: (t ++ 34 :: r) := by unfold wrT; rw [if_pos rfl]; simp
        have el : (wrT 3 t).length = t.length + 2 := by unfold wrT; rw [if_pos rfl]; simp
        have h5 : runL isQu (t ++ 34 :: r) = t.length := by
          rw [runL_cat h.2, runL, if_neg (by decide)]; rfl
        rw [e, el]
        refine ⟨?_, bl_zero _ (by decide) (by decide), by omega⟩
        rw [nx_qu rfl h5 (by simp) (by omega), List.take_left]
      · rw [if_neg h3] at h
        by_cases h4 : k = 4
        · subst h4
          rw [if_pos rfl] at h
          have e : wrT 4 t = t := rfl
          rw [e]
          match t, h with
          | [c], h =>
            obtain ⟨a1, a2, a3, a4, a5⟩ := sg_no (c := c) h
            exact ⟨nx_sg a3 a4 a5 h, bl_zero _ a1 a2, by simp⟩
        · rw [if_neg h4] at h; cases h
theorem lex_back {k : Int} {t r : List UInt8} (ln : Int) (h : rightT k t = true) (hr : wsHead r) : lexR (wrT k t ++ r) ln = consT ⟨k, t, ln⟩ (lexR r ln) := by
  obtain ⟨h1, h2, h3⟩ := nx_back h hr
  rw [lex_tok ln h2 h1 h3, List.drop_left]

/-! ### Writing -/
def tokR (x : Tok) : Bool := rightT x.k x.t
def wrK (x : Tok) : List UInt8 := wrT x.k x.t
def joinW (L : List Tok) : List UInt8 := Lib.join (L.map wrK) [32]
def writeV (L : List Tok) : List UInt8 × Int := if L.all tokR then (if 20000 < (joinW L).length then ([], 3) else (joinW L, 0)) else ([], 1)
theorem join_two (x y : List UInt8) (r : List (List UInt8)) : Lib.join (x :: y :: r) [32] = x ++ 32 :: Lib.join (y :: r) [32] := by
  rw [Lib.join_cons, Lib.join_cons]; simp [Lib.joinTail]
theorem joinW_two (x y : Tok) (r : List Tok) : joinW (x :: y :: r) = wrK x ++ 32 :: joinW (y :: r) := join_two _ _ _
theorem joinW_one (x : Tok) : joinW [x] = wrK x := Lib.join_one _ _
theorem ws_space (r : List UInt8) : wsHead (32 :: r) := by
  intro c h; simp at h; subst h; decide
theorem ws_nil : wsHead [] := by intro c h; simp at h
theorem lex_ws {c : UInt8} (r : List UInt8) (ln : Int) (h : isWs c = true) : lexR (c :: r) ln = lexR r (ln + (feeds [c] : Int)) := by
  rw [lex_blank ln (bl_ws r h) (by omega)]; rfl
theorem lex_space (r : List UInt8) (ln : Int) : lexR (32 :: r) ln = lexR r ln := by
  rw [lex_ws r ln (by decide)]; simp [feeds]
def setL (ln : Int) (x : Tok) : Tok := ⟨x.k, x.t, ln⟩
theorem lex_join (ln : Int) : ∀ L : List Tok, L.all tokR = true → lexR (joinW L) ln = (L.map (setL ln), 0, 0)
  | [], _ => lex_nil ln
  | [x], h => by
    simp only [List.all_cons, List.all_nil, Bool.and_true] at h
    have := lex_back (r := []) ln h ws_nil
    rw [List.append_nil] at this
    rw [joinW_one]
    show lexR (wrT x.k x.t) ln = _
    rw [this, lex_nil]; rfl
  | x :: y :: r, h => by
    simp only [List.all_cons, Bool.and_eq_true] at h
    have ih := lex_join ln (y :: r) (by simp [h.2])
    rw [joinW_two]
    show lexR (wrT x.k x.t ++ 32 :: joinW (y :: r)) ln = _
    rw [lex_back ln h.1 (ws_space _), lex_space, ih]; rfl
theorem write_bad {L : List Tok} (h : L.all tokR = false) : writeV L = ([], 1) := by unfold writeV; rw [if_neg (by simp [h])]
theorem write_big {L : List Tok} (h : L.all tokR = true) (h1 : 20000 < (joinW L).length) : writeV L = ([], 3) := by unfold writeV; rw [if_pos h, if_pos h1]
theorem write_ok {L : List Tok} (h : L.all tokR = true) (h1 : ¬ 20000 < (joinW L).length) : writeV L = (joinW L, 0) := by unfold writeV; rw [if_pos h, if_neg h1]
theorem write_zero {L : List Tok} (h : (writeV L).2 = 0) : L.all tokR = true ∧ (joinW L).length ≤ 20000 := by
  unfold writeV at h
  by_cases h1 : L.all tokR = true
  · rw [if_pos h1] at h
    split at h
    · cases h
    · exact ⟨h1, by omega⟩
  · rw [if_neg h1] at h; cases h
def tokV (l : List UInt8) : List Tok × Int × Int := if 20000 < l.length then ([], 0, 3) else lexR l 1
theorem tok_big {l : List UInt8} (h : 20000 < l.length) : tokV l = ([], 0, 3) := by unfold tokV; rw [if_pos h]
theorem tok_ok {l : List UInt8} (h : ¬ 20000 < l.length) : tokV l = lexR l 1 := by unfold tokV; rw [if_neg h]
theorem tok_write {L : List Tok} (h : (writeV L).2 = 0) : tokV (writeV L).1 = (L.map (setL 1), 0, 0) := by
  obtain ⟨h1, h2⟩ := write_zero h
  rw [write_ok h1 (by omega), tok_ok (by show ¬ 20000 < (joinW L).length; omega)]
  exact lex_join 1 L h1
/-- Lengths. -/
def lenW (L : List Tok) : Nat := (L.map (fun x => (wrK x).length + 1)).sum
theorem joinW_len : ∀ L : List Tok, (joinW L).length ≤ lenW L
  | [] => by simp [joinW, Lib.join]
  | [x] => by rw [joinW_one]; simp [lenW]
  | x :: y :: r => by
    have ih := joinW_len (y :: r)
    rw [joinW_two]
    simp only [lenW, List.map_cons, List.sum_cons, List.length_append, List.length_cons] at ih ⊢
    omega
theorem wr_size {k : Int} {t : List UInt8} (h : rightT k t = true) : (wrT k t).length ≤ 62 ∧ t.length ≤ 60 := by
  unfold rightT at h
  unfold wrT
  by_cases h1 : k = 1
  · subst h1; rw [if_pos rfl] at h
    unfold nameB at h
    simp only [Bool.and_eq_true, decide_eq_true_eq] at h
    rw [if_neg (by decide)]; omega
  · rw [if_neg h1] at h
    by_cases h2 : k = 2
    · subst h2; rw [if_pos rfl] at h
      have := (num_all h).2.1
      rw [if_neg (by decide)]; omega
    · rw [if_neg h2] at h
      by_cases h3 : k = 3
      · subst h3; rw [if_pos rfl] at h
        unfold quoB at h
        simp only [Bool.and_eq_true, decide_eq_true_eq] at h
        rw [if_pos rfl]; simp; omega
      · rw [if_neg h3] at h
        by_cases h4 : k = 4
        · subst h4; rw [if_pos rfl] at h
          match t, h with
          | [c], h => simp
        · rw [if_neg h4] at h; cases h
/-- What the tokens of a text are: right, no more than the text has bytes, and short again when written. -/
theorem lex_right : ∀ (n : Nat) (l : List UInt8) (ln : Int), l.length ≤ n → (lexR l ln).2.2 = 0 → (lexR l ln).1.all tokR = true ∧ lenW (lexR l ln).1 ≤ 2 * l.length ∧ (lexR l ln).1.length ≤ l.length ∧ (lexR l ln).2.1 = 0
  | n, [], ln, _, _ => by rw [lex_nil]; simp [lenW]
  | 0, c :: r, ln, h, _ => by simp at h
  | n + 1, c :: r, ln, h, h0 => by
    by_cases hb : blL (c :: r) = 0
    · obtain ⟨k, t, m, e, hx⟩ : ∃ k t m e, nxV (c :: r) = (k, t, m, e) := ⟨_, _, _, _, rfl⟩
      by_cases he : e = 0
      · subst he
        obtain ⟨h1, h2, h3, h4⟩ := nx_right hx
        rw [lex_tok ln hb hx h3] at h0 ⊢
        have hl : ((c :: r).drop m).length ≤ n := by rw [List.length_drop]; omega
        have hz : (lexR ((c :: r).drop m) ln).2.2 = 0 := by
          unfold consT at h0
          split at h0
          · assumption
          · exact h0
        obtain ⟨i1, i2, i3, i4⟩ := lex_right n _ ln hl hz
        have hw : (wrT k t).length = m := by rw [h2, List.length_take]; omega
        unfold consT
        rw [if_pos hz]
        rw [List.length_drop] at i2 i3
        refine ⟨?_, ?_, ?_, i4⟩
        · simp only [List.all_cons, Bool.and_eq_true]; exact ⟨h1, i1⟩
        · simp only [lenW, List.map_cons, List.sum_cons] at i2 ⊢
          show (wrT k t).length + 1 + _ ≤ _
          omega
        · simp only [List.length_cons] at i3 ⊢; omega
      · rw [lex_bad ln (by simp) hb (by rw [hx]) he] at h0
        exact absurd h0 he
    · have hle := blL_le (c :: r)
      rw [lex_blank ln rfl (by omega)] at h0 ⊢
      have hl : ((c :: r).drop (blL (c :: r))).length ≤ n := by rw [List.length_drop]; omega
      obtain ⟨i1, i2, i3, i4⟩ := lex_right n _ _ hl h0
      rw [List.length_drop] at i2 i3
      exact ⟨i1, by omega, by omega, i4⟩
theorem lex_none : ∀ (n : Nat) (l : List UInt8) (ln : Int), l.length ≤ n → (lexR l ln).2.2 ≠ 0 → (lexR l ln).1 = []
  | n, [], ln, _, h => by rw [lex_nil] at h; exact absurd rfl h
  | 0, c :: r, ln, h, _ => by simp at h
  | n + 1, c :: r, ln, h, h0 => by
    by_cases hb : blL (c :: r) = 0
    · obtain ⟨k, t, m, e, hx⟩ : ∃ k t m e, nxV (c :: r) = (k, t, m, e) := ⟨_, _, _, _, rfl⟩
      by_cases he : e = 0
      · subst he
        obtain ⟨h1, h2, h3, h4⟩ := nx_right hx
        rw [lex_tok ln hb hx h3] at h0 ⊢
        have hl : ((c :: r).drop m).length ≤ n := by rw [List.length_drop]; omega
        unfold consT at h0 ⊢
        by_cases hz : (lexR ((c :: r).drop m) ln).2.2 = 0
        · rw [if_pos hz] at h0; exact absurd hz h0
        · rw [if_neg hz]; exact lex_none n _ ln hl hz
      · rw [lex_bad ln (by simp) hb (by rw [hx]) he]
    · rw [lex_blank ln rfl (by omega)] at h0 ⊢
      have hl : ((c :: r).drop (blL (c :: r))).length ≤ n := by rw [List.length_drop]; omega
      exact lex_none n _ _ hl h0
theorem tok_right {l : List UInt8} (h : (tokV l).2.2 = 0) : (tokV l).1.all tokR = true ∧ (joinW (tokV l).1).length ≤ 2 * l.length ∧ (tokV l).1.length ≤ l.length ∧ (tokV l).2.1 = 0 := by
  unfold tokV at h ⊢
  by_cases hb : 20000 < l.length
  · rw [if_pos hb] at h; cases h
  · rw [if_neg hb] at h ⊢
    obtain ⟨h1, h2, h3, h4⟩ := lex_right _ l 1 (Nat.le_refl _) h
    exact ⟨h1, Nat.le_trans (joinW_len _) h2, h3, h4⟩
theorem tok_none {l : List UInt8} (h : (tokV l).2.2 ≠ 0) : (tokV l).1 = [] := by
  unfold tokV at h ⊢
  by_cases hb : 20000 < l.length
  · rw [if_pos hb]
  · rw [if_neg hb] at h ⊢
    exact lex_none _ l 1 (Nat.le_refl _) h
theorem tok_len (l : List UInt8) : (tokV l).1.length ≤ l.length := by
  by_cases h : (tokV l).2.2 = 0
  · exact (tok_right h).2.2.1
  · rw [tok_none h]; simp

/-! ### What stands between tokens -/
def btw (i : Nat) : List UInt8 := if i = 0 then [32] else if i = 1 then [10] else if i = 2 then [9, 35, 32, 97, 32, 34, 99, 111, 109, 109, 101, 110, 116, 10] else [32, 13, 10, 10, 32]
theorem btw_head (i : Nat) (r : List UInt8) : wsHead (btw i ++ r) := by
  intro c h
  unfold btw at h
  split at h
  · simp at h; subst h; decide
  · split at h
    · simp at h; subst h; decide
    · split at h
      · simp at h; subst h; decide
      · simp at h; subst h; decide
theorem btw_len (i : Nat) : (btw i).length ≤ 14 ∧ feeds (btw i) ≤ 2 := by
  unfold btw
  split
  · decide
  · split
    · decide
    · split <;> decide
theorem lex_btw (i : Nat) (r : List UInt8) (ln : Int) : lexR (btw i ++ r) ln = lexR r (ln + (feeds (btw i) : Int)) := by
  unfold btw
  split
  · rw [List.cons_append, lex_ws _ _ (by decide)]; rfl
  · split
    · rw [List.cons_append, lex_ws _ _ (by decide)]; rfl
    · split
      · rw [List.cons_append, lex_ws _ _ (by decide), List.cons_append]
        have hb : blL (35 :: ([32, 97, 32, 34, 99, 111, 109, 109, 101, 110, 116, 10] ++ r)) = 12 := by
          rw [bl_com]
          have e : ([32, 97, 32, 34, 99, 111, 109, 109, 101, 110, 116, 10] ++ r : List UInt8) = [32, 97, 32, 34, 99, 111, 109, 109, 101, 110, 116] ++ 10 :: r := rfl
          rw [e, runL_cat (by decide), runL, if_neg (by decide)]; rfl
        rw [lex_blank _ hb (by omega)]
        show lexR (10 :: r) _ = _
        rw [lex_ws _ _ (by decide)]
        congr 1
        show ln + ((feeds [9] : Nat) : Int) + ((feeds [35, 32, 97, 32, 34, 99, 111, 109, 109, 101, 110, 116] : Nat) : Int) + ((feeds [10] : Nat) : Int) = _
        rw [show feeds [9] = 0 from by decide, show feeds [35, 32, 97, 32, 34, 99, 111, 109, 109, 101, 110, 116] = 0 from by decide, show feeds [10] = 1 from by decide, show feeds [9, 35, 32, 97, 32, 34, 99, 111, 109, 109, 101, 110, 116, 10] = 1 from by decide]
        omega
      · rw [List.cons_append, lex_ws _ _ (by decide), List.cons_append, lex_ws _ _ (by decide), List.cons_append, lex_ws _ _ (by decide), List.cons_append, lex_ws _ _ (by decide), List.cons_append, lex_ws _ _ (by decide)]
        show lexR r _ = _
        congr 1
        rw [show feeds [32] = 0 from by decide, show feeds [13] = 0 from by decide, show feeds [10] = 1 from by decide, show feeds [32, 13, 10, 10, 32] = 2 from by decide]
        omega
/-- The line behind n tokens, the text of n tokens, and the tokens with their lines. -/
def lnN (f : Nat → Nat) : Nat → Int
  | 0 => 1
  | n + 1 => lnN f n + (feeds (btw (f n)) : Int)
def spN (f : Nat → Nat) (L : List Tok) : Nat → List UInt8
  | 0 => []
  | n + 1 => spN f L n ++ (btw (f n) ++ (L[n]?.elim [] wrK))
def tkN (f : Nat → Nat) (L : List Tok) : Nat → List Tok
  | 0 => []
  | n + 1 => tkN f L n ++ (L[n]?.elim [] fun x => [setL (lnN f (n + 1)) x])
theorem lex_sp (f : Nat → Nat) (L : List Tok) (hL : L.all tokR = true) : ∀ (n : Nat), n ≤ L.length → ∀ r, wsHead r → lexR (spN f L n ++ r) 1 = catT (tkN f L n) (lexR r (lnN f n))
  | 0, _, r, _ => by
    show lexR r 1 = catT [] _
    rw [catT_nil]; rfl
  | n + 1, h, r, hr => by
    have hn : n < L.length := by omega
    have hx : L[n]? = some L[n] := List.getElem?_eq_getElem hn
    have hr2 : rightT L[n].k L[n].t = true := List.all_eq_true.1 hL _ (List.getElem_mem hn)
    unfold spN tkN
    rw [hx]
    show lexR (spN f L n ++ (btw (f n) ++ wrT L[n].k L[n].t) ++ r) 1 = catT (tkN f L n ++ [setL (lnN f (n + 1)) L[n]]) _
    rw [List.append_assoc, List.append_assoc, lex_sp f L hL n (by omega) _ (btw_head _ _), lex_btw, lex_back _ hr2 hr, catT_cons]
    rfl
theorem sp_lex (f : Nat → Nat) {L : List Tok} (hL : L.all tokR = true) : lexR (spN f L L.length) 1 = (tkN f L L.length, 0, 0) := by
  have := lex_sp f L hL _ (Nat.le_refl _) [] ws_nil
  rw [List.append_nil, lex_nil] at this
  rw [this]; simp [catT]
theorem tkN_len (f : Nat → Nat) (L : List Tok) : ∀ n, n ≤ L.length → (tkN f L n).length = n
  | 0, _ => rfl
  | n + 1, h => by
    unfold tkN
    rw [List.getElem?_eq_getElem (show n < L.length by omega)]
    simp [tkN_len f L n (by omega)]
theorem tkN_at (f : Nat → Nat) (L : List Tok) : ∀ n, n ≤ L.length → ∀ j (hj : j < n) (h2 : j < L.length), (tkN f L n)[j]? = some (setL (lnN f (j + 1)) L[j])
  | 0, _, j, hj, _ => by omega
  | n + 1, h, j, hj, h2 => by
    have hl := tkN_len f L n (by omega)
    unfold tkN
    rw [List.getElem?_eq_getElem (show n < L.length by omega)]
    by_cases e : j = n
    · subst e
      rw [List.getElem?_append_right (by omega), hl]; simp
    · rw [List.getElem?_append_left (by omega)]
      exact tkN_at f L n (by omega) j (by omega) h2
theorem lnN_le (f : Nat → Nat) : ∀ n, 0 ≤ lnN f n ∧ lnN f n ≤ 2 * (n : Int) + 1
  | 0 => by simp [lnN]
  | n + 1 => by
    have := lnN_le f n
    have h2 := (btw_len (f n)).2
    unfold lnN
    omega
theorem spN_len (f : Nat → Nat) (L : List Tok) (hL : L.all tokR = true) : ∀ n, n ≤ L.length → (spN f L n).length ≤ 76 * n
  | 0, _ => by simp [spN]
  | n + 1, h => by
    have ih := spN_len f L hL n (by omega)
    have hn : n < L.length := by omega
    have h1 := (btw_len (f n)).1
    have h2 := (wr_size (List.all_eq_true.1 hL _ (List.getElem_mem hn))).1
    unfold spN
    rw [List.getElem?_eq_getElem hn]
    simp only [Option.elim, List.length_append]
    show _ + (_ + (wrT L[n].k L[n].t).length) ≤ _
    omega
end Go.Proofs.YtngkhggofjeflaaDoor
