/- Contract of the program's Tokens. -/
import Derived.Test.YtngkhggofjeflaaDoorKf
import Derived.Deep.RegionLaw
import Derived.Deep.AppendLies
import Derived.OwnWalk
namespace Go.Proofs.YtngkhggofjeflaaDoor
open Go.RowKit
set_option linter.unusedVariables false
set_option maxRecDepth 100000

def tokCells (x : Tok) : List Value := [.int .i64 x.k, .string (bs x.t), .int .i64 x.l]
def toksCells (L : List Tok) : List Value := L.flatMap tokCells
theorem toks_len : ∀ L : List Tok, (toksCells L).length = L.length * 3
  | [] => rfl
  | x :: r => by
    have := toks_len r
    unfold toksCells at *
    rw [List.flatMap_cons, List.length_append, this, List.length_cons]
    show 3 + _ = _
    omega
theorem toks_snoc (L : List Tok) (x : Tok) : toksCells (L ++ [x]) = toksCells L ++ tokCells x := by
  unfold toksCells; rw [List.flatMap_append]; simp
theorem toks_at : ∀ (L : List Tok) (j : Nat) (x : Tok), L[j]? = some x → (toksCells L)[j * 3]? = some (.int .i64 x.k) ∧ (toksCells L)[j * 3 + 1]? = some (.string (bs x.t)) ∧ (toksCells L)[j * 3 + 2]? = some (.int .i64 x.l)
  | [], j, x, h => by simp at h
  | y :: r, 0, x, h => by
    simp at h; subst h
    exact ⟨rfl, rfl, rfl⟩
  | y :: r, j + 1, x, h => by
    have ih := toks_at r j x (by simpa using h)
    have e : toksCells (y :: r) = tokCells y ++ toksCells r := by unfold toksCells; rw [List.flatMap_cons]
    have hl : (tokCells y).length = 3 := rfl
    rw [e]
    refine ⟨?_, ?_, ?_⟩
    · rw [List.getElem?_append_right (by omega), hl, show (j + 1) * 3 - 3 = j * 3 by omega]; exact ih.1
    · rw [List.getElem?_append_right (by omega), hl, show (j + 1) * 3 + 1 - 3 = j * 3 + 1 by omega]; exact ih.2.1
    · rw [List.getElem?_append_right (by omega), hl, show (j + 1) * 3 + 2 - 3 = j * 3 + 2 by omega]; exact ih.2.2
/-- A slice that reads as tokens. -/
def ToksIn (w : World) (A : Option Addr) (L : List Tok) : Prop :=
  0 < L.length → ∃ b off, A = some ⟨b, off, none⟩ ∧ b < w.heap.size ∧ ∀ (j : Nat) (x : Tok), L[j]? = some x →
    w.cell? ⟨b, off + j * 3, none⟩ = some (.int .i64 x.k) ∧ w.cell? ⟨b, off + j * 3 + 1, none⟩ = some (.string (bs x.t)) ∧ w.cell? ⟨b, off + j * 3 + 2, none⟩ = some (.int .i64 x.l)
theorem ToksIn.below {w w' : World} {A : Option Addr} {L : List Tok} (h : ToksIn w A L) (hb : Below w.heap.size w w') : ToksIn w' A L := by
  intro h0
  obtain ⟨b, off, rfl, hlt, hc⟩ := h h0
  refine ⟨b, off, rfl, Nat.lt_of_lt_of_le hlt hb.size, fun j x hx => ?_⟩
  obtain ⟨h1, h2, h3⟩ := hc j x hx
  exact ⟨(hb.cell (p := ⟨b, _, none⟩) hlt).trans h1, (hb.cell (p := ⟨b, _, none⟩) hlt).trans h2, (hb.cell (p := ⟨b, _, none⟩) hlt).trans h3⟩
theorem toks_nil (w : World) (A : Option Addr) : ToksIn w A [] := fun h => by simp at h
theorem toks_own {w : World} {base n c : Nat} {e : TypeId} {A : Option Addr} {L : List Tok} (h : w.ownsRow base e 3 (.slice A n c) n (toksCells L)) (hn : n = L.length) : ToksIn w A L := by
  intro h0
  obtain ⟨g, cap, hv, hb, hlt⟩ := h.form (by omega)
  have hA : A = some ⟨g, 0, none⟩ := by injection hv
  subst hA
  refine ⟨g, 0, rfl, hlt, fun j x hx => ?_⟩
  obtain ⟨h1, h2, h3⟩ := toks_at L j x hx
  have hc := h.cells (g := g) rfl
  have ea : ∀ i, (⟨g, 0, none⟩ : Addr).add i = ⟨g, 0 + i, none⟩ := fun i => by unfold Addr.add; split <;> simp_all
  refine ⟨?_, ?_, ?_⟩
  · have := hc _ _ h1; rw [ea] at this; exact this
  · have := hc _ _ h2; rw [ea] at this; exact this
  · have := hc _ _ h3; rw [ea] at this; exact this
/-- A call that returns tokens, a line and an error. -/
def TokPost (L : List Tok) (ln er : Int) (w : World) (e : Ending) (w' : World) : Prop :=
  ∃ A n c, e = .returned (.tuple #[.slice A n c, .int .i64 ln, .int .i64 er]) ∧ n = L.length ∧ n ≤ c ∧ ToksIn w' A L ∧ Below w.heap.size w w'
theorem tok_fail {x : List Tok × Int × Int} {w w' : World} {ln er : Int} (h : x = ([], ln, er)) (hB : Below w.heap.size w w') : TokPost x.1 x.2.1 x.2.2 w (.returned (.tuple #[.slice none 0 0, .int .i64 ln, .int .i64 er])) w' := by
  subst h
  exact ⟨none, 0, 0, rfl, rfl, Nat.le_refl _, toks_nil _ _, hB⟩
theorem own_slice {w : World} {base n : Nat} {e : TypeId} {sz : Nat} {v : Value} {xs : List Value} (h : w.ownsRow base e sz v n xs) : ∃ A c, v = .slice A n c ∧ n ≤ c := by
  rcases h.2 with ⟨rfl, rfl⟩ | ⟨g, cap, cur, rfl, _, _, hnc, _⟩
  · exact ⟨none, 0, rfl, Nat.le_refl _⟩
  · exact ⟨_, _, rfl, hnc⟩
def TRel (s : ByteArray) (w : World) (v ln at_ : Value) (wr : World) : Prop :=
  ∃ (k n : Nat) (acc : List Tok) (l0 : Int), k ≤ s.size ∧ n ≤ k ∧ at_ = .int .i64 (k : Int) ∧ ln = .int .i64 l0 ∧ 1 ≤ l0 ∧ l0 ≤ (k : Int) + 1 ∧ acc.length = n ∧ wr.ownsRow w.heap.size 29 3 v n (toksCells acc) ∧ Below w.heap.size w wr ∧ catT acc (lexR (s.data.toList.drop k) l0) = tokV s.data.toList
theorem trel_blank {s : ByteArray} {w wr : World} {k n b c : Nat} {acc : List Tok} {l0 : Int} {v : Value} (hal : acc.length = n) (hown : wr.ownsRow w.heap.size 29 3 v n (toksCells acc)) (hbr : Below w.heap.size w wr)
    (heq : catT acc (lexR (s.data.toList.drop k) l0) = tokV s.data.toList) (hb : blL (s.data.toList.drop k) = b) (h0 : 0 < b) (hc : feeds ((s.data.toList.drop k).take b) = c) (hcb : c ≤ b) (hn : n ≤ k) (hl1 : 1 ≤ l0) (hl2 : l0 ≤ (k : Int) + 1) (hk : k + b ≤ s.size) :
    TRel s w v (.int .i64 (l0 + (c : Int))) (.int .i64 ((k : Int) + (b : Int))) wr := by
  refine ⟨k + b, n, acc, l0 + (c : Int), hk, by omega, by go_num, rfl, by omega, by omega, hal, hown, hbr, ?_⟩
  rw [← heq, lex_blank l0 hb h0, List.drop_drop, hc]
theorem grown_of {w w' : World} (h : Below w.heap.size w w') : w.grownBy w' none := ⟨h.os, h.tape, h.output, h.size, fun i hi _ => h.block i hi⟩
theorem own_go {w w' : World} {base n sz : Nat} {e : TypeId} {v : Value} {xs : List Value} (h : w.ownsRow base e sz v n xs) (hb : Below w.heap.size w w') : w'.ownsRow base e sz v n xs :=
  h.kept (grown_of hb) (by cases v.ownBlock <;> simp)
theorem new_three (w : World) (t : TypeId) (a b c : Value) : ∀ (j : Nat) (u : Value), [a, b, c][j]? = some u → (w.alloc (.cells #[a, b, c] t)).cell? ((⟨w.heap.size, 0, none⟩ : Addr).add j) = some u := by
  intro j u h
  rw [show (⟨w.heap.size, 0, none⟩ : Addr).add j = ⟨w.heap.size, j, none⟩ from by unfold Addr.add; split <;> simp_all, World.cell?_alloc_mark]
  simpa using h
theorem new_three' {w : World} {g : Nat} (hg : w.heap.size = g) (t : TypeId) (a b c : Value) : ∀ (j : Nat) (u : Value), [a, b, c][j]? = some u → (w.alloc (.cells #[a, b, c] t)).cell? ((⟨g, 0, none⟩ : Addr).add j) = some u := by
  subst hg; exact new_three w t a b c
theorem tok_one (x : Tok) : ∀ u ∈ tokCells x, u.oneCell' = true := by
  intro u hu
  unfold tokCells at hu
  simp at hu
  rcases hu with rfl | rfl | rfl <;> rfl
theorem trel_tok {s : ByteArray} {w W w4 : World} {k n m : Nat} {acc : List Tok} {l0 kk : Int} {t : List UInt8} {v v' : Value} (hal : acc.length = n) (heq : catT acc (lexR (s.data.toList.drop k) l0) = tokV s.data.toList)
    (hb : blL (s.data.toList.drop k) = 0) (hnx : nxV (s.data.toList.drop k) = (kk, t, m, 0)) (hm : 0 < m) (hn : n ≤ k) (hl1 : 1 ≤ l0) (hl2 : l0 ≤ (k : Int) + 1) (hk : k + m ≤ s.size)
    (hW : Below w.heap.size w W) (hbase : ∀ j, v.ownBlock = some j → w.heap.size ≤ j) (hown : w4.ownsRow w.heap.size 29 3 v' (n + 1) (toksCells acc ++ tokCells ⟨kk, t, l0⟩)) (hg : W.grownBy w4 v.ownBlock) :
    TRel s w v' (.int .i64 l0) (.int .i64 ((k : Int) + (m : Int))) w4 := by
  refine ⟨k + m, n + 1, acc ++ [⟨kk, t, l0⟩], l0, hk, by omega, by go_num, rfl, hl1, by omega, by simp [hal], by rw [toks_snoc]; exact hown, hW.grown hg hW.size hbase, ?_⟩
  rw [← heq, lex_tok l0 hb hnx hm, catT_cons, List.drop_drop]
theorem tok_done {x : List Tok × Int × Int} {w w' : World} {n : Nat} {v : Value} {acc : List Tok} (h : catT acc ([], 0, 0) = x) (hn : acc.length = n) (hown : w'.ownsRow w.heap.size 29 3 v n (toksCells acc)) (hB : Below w.heap.size w w') : TokPost x.1 x.2.1 x.2.2 w (.returned (.tuple #[v, .int .i64 0, .int .i64 0])) w' := by
  have e : catT acc ([], 0, 0) = (acc, 0, 0) := by simp [catT]
  rw [e] at h
  subst h
  obtain ⟨A, c, rfl, hc⟩ := own_slice hown
  exact ⟨A, n, c, rfl, hn.symm, hc, toks_own hown hn.symm, hB⟩
theorem token_info : (Tryd.prog.info? 29).map (fun i => (i.zero, i.size, i.bytes)) = some (some (.agg #[.int .i64 0, .string ⟨#[]⟩, .int .i64 0]), 3, 32) := by kernel_rfl

set_option maxHeartbeats 8000000 in
theorem tokens_any (s : ByteArray) (w : World) (hs : s.size ≤ maxLen) :
    Calls Tryd.prog 13 #[.string s] w (TokPost (tokV s.data.toList).1 (tokV s.data.toList).2.1 (tokV s.data.toList).2.2 w) := by
  obtain ⟨i0, hi, hz0, hz1, hz2⟩ := info_parts token_info
  unfold maxLen at hs
  by_cases hbig : 20000 < s.size
  · have HE := Lib.hid (tok_big (l := s.data.toList) (by rw [sizeB]; exact hbig))
    go_enter Tryd.func13, Tryd.ntmps13
    go_wp2
    go_ret3
    exact tok_fail HE.out (Below.refl _ _)
  · have HE := Lib.hid (tok_ok (l := s.data.toList) (by rw [sizeB]; exact hbig))
    go_enter Tryd.func13, Tryd.ntmps13
    go_wp2
    go_loopw [5, 6, 7] (fun v l a wr => TRel s w v l a wr) (fun _ _ a _ => s.size - (intOf a).toNat)
    case atStart => exact ⟨0, 0, [], 1, Nat.zero_le _, Nat.le_refl _, rfl, rfl, by omega, by omega, rfl, ⟨by rfl, Or.inl ⟨rfl, rfl⟩⟩, Below.refl _ _, by rw [List.drop_zero, catT_nil, HE.out]⟩
    case round =>
      obtain ⟨k, n, acc, l0, hk, hn, rfl, rfl, hl1, hl2, hal, hown, hbr, heq⟩ := hrel
      have HA := Lib.hid hal
      have HO := Lib.hid hown
      have HB := Lib.hid hbr
      have HEQ := Lib.hid heq
      have hsz := hbr.size
      clear hal hown hbr heq
      by_cases hlt : k < s.size
      · have hes := Lib.hid (ext_size s k (by omega))
        have hed := Lib.hid (ext_drop s k)
        obtain ⟨q, hq⟩ : ∃ q, q = s.extract k s.size := ⟨_, rfl⟩
        have HQ := Lib.hid hq
        rw [← hq] at hes hed
        have hqs : q.size + k = s.size := by have := hes.out; omega
        clear hq
        obtain ⟨b, hb⟩ : ∃ b, blL q.data.toList = b := ⟨_, rfl⟩
        have HBL := Lib.hid hb
        have hble : b ≤ q.size := by rw [← hb]; exact blL_le _
        clear hb
        by_cases hb0 : 0 < b
        · obtain ⟨c, hc⟩ : ∃ c, Lib.countByte (s.extract k (k + b)).data.toList 10 = c := ⟨_, rfl⟩
          have HC := Lib.hid hc
          have hcf : feeds ((s.data.toList.drop k).take b) = c := by
            rw [← hc, ext_mid, show k + b - k = b by omega]; rfl
          have hcb : c ≤ b := by
            rw [← hcf]; unfold feeds
            have := List.count_le_length (a := (10 : UInt8)) (l := (s.data.toList.drop k).take b)
            rw [List.length_take] at this; omega
          have HR := Lib.hid (trel_blank (b := b) (c := c) HA.out HO.out HB.out HEQ.out (by rw [← hed.out]; exact HBL.out) hb0 hcf hcb hn hl1 hl2 (by omega))
          clear hc hcf
          go_wp2_with fail
          rw [← HQ.out]
          refine (blank_any _ _ (by unfold maxLen; omega) (by omega)).mono ?_
          rintro e w' ⟨rfl, rfl⟩
          rw [HBL.out]
          go_wp2_with fail
          refine (Tryd.strings_Count_one _ 10 _).mono ?_
          rintro e w' ⟨rfl, rfl⟩
          rw [HC.out]
          go_wp2_with fail
          go_roundw
          case rel => exact HR.out
          case measure => simp [intOf]; omega
        · have hb1 : b = 0 := by omega
          subst hb1
          obtain ⟨kk, t, m, er, hnx⟩ : ∃ kk t m er, nxV q.data.toList = (kk, t, m, er) := ⟨_, _, _, _, rfl⟩
          have HNX := Lib.hid hnx
          have hq0 : 0 < q.size := by omega
          by_cases her : er = 0
          · subst her
            have hm0 : 0 < m := (nx_right hnx).2.2.1
            have hmq : m ≤ q.size := by have := (nx_right hnx).2.2.2; rwa [sizeB] at this
            clear hnx
            go_wp2_with fail
            rw [← HQ.out]
            refine (blank_any _ _ (by unfold maxLen; omega) (by omega)).mono ?_
            rintro e w' ⟨rfl, rfl⟩
            rw [HBL.out]
            go_wp2_with fail
            rw [← HQ.out]
            refine (first_any _ _ (by unfold maxLen; omega) (by omega)).mono ?_
            rintro e w1 ⟨rfl, hb1⟩
            rw [HNX.out]
            have HB1 := Lib.hid (btwo HB.out (hb1.mono (Nat.le_refl _)))
            have HO1 := Lib.hid (own_go HO.out hb1)
            have hsz1 := hb1.size
            clear hb1
            obtain ⟨W, hW⟩ : ∃ W, W = ((w1.alloc (.cells #[.int .i64 kk, .string (bs t), .int .i64 l0] 29)).alloc (.cells #[.int .i64 kk, .string (bs t), .int .i64 l0] 29)) := ⟨_, rfl⟩
            have HWB := Lib.hid (show Below w1.heap.size w1 W by rw [hW]; exact btwo (bnew _ _) (bnew _ _))
            have HW := Lib.hid hW
            have HOW := Lib.hid (own_go HO1.out HWB.out)
            have HNEW := Lib.hid (show ∀ (j : Nat) (u : Value), (tokCells ⟨kk, t, l0⟩)[j]? = some u → W.cell? ((⟨w1.heap.size + 1, 0, none⟩ : Addr).add j) = some u from by rw [hW]; exact new_three' (by simp) _ _ _ _)
            have hWs : W.heap.size = w1.heap.size + 2 := by rw [hW]; simp
            clear hW
            go_wp2_with (at_builtin; rw [← HW.out]; refine wpList_append_lies _ rfl (.tmp 51) (.tmp 53) _ rfl w.heap.size 29 i0 _ 3 32 Tryd.underlying23 hi hz0 hz1 hz2 rfl (by omega) _ n (toksCells acc) rfl HOW.out ⟨w1.heap.size + 1, 0, none⟩ 1 1 (tokCells ⟨kk, t, l0⟩) rfl rfl HNEW.out (tok_one _) (by omega) (by unfold maxLen; omega) (by omega) (by omega) _ rfl ?_; intro gg cap w4 hown4 hgrow hat hlt4)
            have HR := Lib.hid (trel_tok HA.out HEQ.out (by rw [← hed.out]; exact HBL.out) (by rw [← hed.out]; exact HNX.out) hm0 hn hl1 hl2 (by omega) (btwo HB1.out HWB.out) (fun j hj => (HOW.out.lt j hj).1) hown4 hgrow)
            clear hown4 hgrow hat hlt4
            go_wp2_with fail
            go_roundw
            case rel => exact HR.out
            case measure => simp [intOf]; omega
          · have e1 : (er == 0) = false := by simpa using her
            have e2 : (er != 0) = true := by simpa using her
            have HF := Lib.hid (show tokV s.data.toList = ([], l0, er) by
              rw [← HEQ.out, lex_bad l0 (by intro e; rw [← hed.out] at e; have : q.data.toList.length = 0 := by rw [e]; rfl
                                            rw [sizeB] at this; omega) (by rw [← hed.out]; exact HBL.out) (by rw [← hed.out, HNX.out]) her]
              unfold catT; rw [if_neg her])
            clear her
            go_wp2_with fail
            rw [← HQ.out]
            refine (blank_any _ _ (by unfold maxLen; omega) (by omega)).mono ?_
            rintro e w' ⟨rfl, rfl⟩
            rw [HBL.out]
            go_wp2_with fail
            rw [← HQ.out]
            refine (first_any _ _ (by unfold maxLen; omega) (by omega)).mono ?_
            rintro e w1 ⟨rfl, hb1⟩
            rw [HNX.out]
            have HB1 := Lib.hid (btwo HB.out hb1)
            clear hb1
            go_wp2_with fail
            go_ret3
            exact tok_fail HF.out (btwo HB1.out (bnew _ _))
      · have HF := Lib.hid (show catT acc ([], 0, 0) = tokV s.data.toList by rw [← HEQ.out, dropE (by omega), lex_nil])
        go_wp2_with fail
        go_ret3
        exact tok_done HF.out HA.out HO.out HB.out
end Go.Proofs.YtngkhggofjeflaaDoor
