/- Contracts of a lower layer, in a namespace of their own. -/
import Derived.WalkKit
import Derived.Shelf.Small.Strs
import Derived.Deep.AppendLies
import Derived.Test.YtfgnekbkcmpdiaaGreatDoorRows
import Derived.Test.YtfgnekbkcmpdiaaGreatDoorShelf
import Derived.WalkSpells
import Derived.WalkLawsBesides
import Derived.Lib.Hide
import Derived.Outline
import Derived.Deep.QuietTactic
import Derived.BigQuiet
import Derived.Laws.StructEq
import Derived.Laws.IdiomStrings
import Derived.Deep.RegionHeld3
import Derived.Deep.DeepFit
import Derived.Lib.Join
import Derived.Shelf.Strings.OnBuilder
/- Plain functions and lemmas on lists of bytes: what a line, its letters and its words are. Nothing here speaks of the program. -/
namespace Go.Proofs.YtfgnekbkcmpdiaaGreatDoor.T
set_option linter.unusedVariables false

def punL : List Int := [32, 46, 44, 59, 58, 33, 63, 34, 45, 91, 93, 60, 62, 123, 125]
def punB : List UInt8 := [32, 46, 44, 59, 58, 33, 63, 34, 45, 91, 93, 60, 62, 123, 125]
def ltr (n : Int) : Bool := decide (32 ≤ n) && decide (n ≤ 126) && !punL.contains n
def inl (n : Int) : Bool := decide (32 ≤ n) && decide (n ≤ 126)
def okL (l : List UInt8) : Bool := l.all fun c => inl (c.toNat : Int)
def vErr (l : List UInt8) : Int := if 120 < l.length then 3 else if okL l then 0 else 2

theorem ret_int {a b : Int} {k : IntKind} (h : b = a) : Ending.returned (.int k a) = Ending.returned (.int k b) := by rw [h]
theorem ret_bool {a b : Bool} (h : a = b) : Ending.returned (.bool a) = Ending.returned (.bool b) := by rw [h]
theorem okL_take_succ (l : List UInt8) (k : Nat) (h : k < l.length) : okL (l.take (k + 1)) = (okL (l.take k) && inl (l[k].toNat : Int)) := by
  unfold okL
  rw [List.take_succ_eq_append_getElem h, List.all_append]
  simp
theorem okL_false {l : List UInt8} {k : Nat} (h : k < l.length) (hf : inl (l[k].toNat : Int) = false) : okL l = false := by
  unfold okL
  rw [List.all_eq_false]
  exact ⟨l[k], List.getElem_mem h, by simp [hf]⟩
theorem getB (s : ByteArray) (k : Nat) (h : k < s.size) : s[k] = s.data.toList[k]'(by simpa using h) := rfl
theorem sizeB (s : ByteArray) : s.data.toList.length = s.size := rfl
theorem vErr_big {s : ByteArray} (h : 120 < s.size) : vErr s.data.toList = 3 := by
  unfold vErr; rw [if_pos (by rw [sizeB]; exact h)]
theorem vErr_bad {s : ByteArray} (h : s.size ≤ 120) {k : Nat} (hk : k < s.size) (hf : inl (s[k].toNat : Int) = false) : vErr s.data.toList = 2 := by
  unfold vErr; rw [if_neg (by rw [sizeB]; omega), okL_false (l := s.data.toList) (k := k) (by rw [sizeB]; exact hk) hf]; rfl
theorem vErr_ok {s : ByteArray} (h : s.size ≤ 120) (hf : okL s.data.toList = true) : vErr s.data.toList = 0 := by
  unfold vErr; rw [if_neg (by rw [sizeB]; omega), hf]; rfl
theorem okL_step {s : ByteArray} {k : Nat} (hk : k < s.size) (h : okL (s.data.toList.take k) = true) (hf : inl (s[k].toNat : Int) = true) : okL (s.data.toList.take (k + 1)) = true := by
  rw [okL_take_succ _ _ (by rw [sizeB]; exact hk), h]; exact hf
theorem okL_all {s : ByteArray} {k : Nat} (hk : s.size ≤ k) (h : okL (s.data.toList.take k) = true) : okL s.data.toList = true := by
  rw [List.take_of_length_le (by rw [sizeB]; exact hk)] at h; exact h

theorem idx_all : ∀ m : Fin 256, decide (Lib.indexByte punB m.val.toUInt8 < 0) = !punL.contains (m.val : Int) := by decide +kernel
theorem idx_pun (n : Int) (h0 : 0 ≤ n) (h1 : n ≤ 255) : decide (Lib.indexByte punB n.toNat.toUInt8 < 0) = !punL.contains n := by
  have h := idx_all ⟨n.toNat, by omega⟩
  simp only [Int.toNat_of_nonneg h0] at h
  exact h
theorem ltr_inl {n : Int} (h : ltr n = true) : inl n = true := by
  unfold ltr at h; unfold inl; simp at h ⊢; exact h.1
theorem ltr_of {n : Int} (h0 : 0 ≤ n) (h1 : n ≤ 255) (h : inl n = true) : decide (Lib.indexByte punB n.toNat.toUInt8 < 0) = ltr n := by
  rw [idx_pun n h0 h1]; unfold ltr; unfold inl at h; simp at h ⊢; simp [h.1, h.2]
theorem ltr_not {n : Int} (h : inl n = false) : ltr n = false := by
  cases e : ltr n with
  | false => rfl
  | true => rw [ltr_inl e] at h; cases h

/-! ### The words of a line -/
def fAt (l : List UInt8) (i : Nat) : Bool := match l[i]? with
  | some c => ltr (c.toNat : Int)
  | none => false
def wst (F : Nat → Bool) : Nat → List (Nat × Nat) × Nat
  | 0 => ([], 0)
  | k + 1 => if F k then wst F k else (if (wst F k).2 < k then (wst F k).1 ++ [((wst F k).2, k)] else (wst F k).1, k + 1)
def spansOf (l : List UInt8) : List (Nat × Nat) := if vErr l = 0 then (wst (fAt l) (l.length + 1)).1 else []
def pairCells (L : List (Nat × Nat)) : List Value := L.flatMap fun p => [.int .i64 (p.1 : Int), .int .i64 (p.2 : Int)]

theorem pairCells_snoc (L : List (Nat × Nat)) (a b : Nat) : pairCells (L ++ [(a, b)]) = pairCells L ++ [.int .i64 (a : Int), .int .i64 (b : Int)] := by
  simp [pairCells]
theorem pairCells_length (L : List (Nat × Nat)) : (pairCells L).length = L.length * 2 := by
  induction L with
  | nil => rfl
  | cons p r ih => simp [pairCells] at ih ⊢; omega
theorem pairCells_at (L : List (Nat × Nat)) (i : Nat) (h : i < L.length) : (pairCells L)[2 * i]? = some (.int .i64 (L[i].1 : Int)) ∧ (pairCells L)[2 * i + 1]? = some (.int .i64 (L[i].2 : Int)) := by
  induction L generalizing i with
  | nil => simp at h
  | cons p r ih =>
    cases i with
    | zero => exact ⟨rfl, rfl⟩
    | succ j =>
      have := ih j (by simpa using h)
      have e1 : 2 * (j + 1) = 2 * j + 1 + 1 := by omega
      rw [e1]
      simpa [pairCells] using this
theorem wst_le (F : Nat → Bool) (k : Nat) : (wst F k).2 ≤ k ∧ (wst F k).1.length ≤ k := by
  induction k with
  | zero => exact ⟨Nat.le_refl _, Nat.le_refl _⟩
  | succ k ih =>
    unfold wst
    split
    · exact ⟨by omega, by omega⟩
    · split <;> simp <;> omega
theorem wst_yes {F : Nat → Bool} {k f : Nat} {L : List (Nat × Nat)} (h : wst F k = (L, f)) (hf : F k = true) : wst F (k + 1) = (L, f) := by
  rw [wst, if_pos hf, h]
theorem wst_cut {F : Nat → Bool} {k f : Nat} {L : List (Nat × Nat)} (h : wst F k = (L, f)) (hf : F k = false) (hlt : f < k) : wst F (k + 1) = (L ++ [(f, k)], k + 1) := by
  rw [wst, if_neg (by simp [hf]), h]; simp [hlt]
theorem wst_skip {F : Nat → Bool} {k f : Nat} {L : List (Nat × Nat)} (h : wst F k = (L, f)) (hf : F k = false) (hlt : ¬ f < k) : wst F (k + 1) = (L, k + 1) := by
  rw [wst, if_neg (by simp [hf]), h]; simp [hlt]
theorem fAt_lt {s : ByteArray} {k : Nat} (h : k < s.size) : fAt s.data.toList k = ltr (s[k].toNat : Int) := by
  unfold fAt; rw [List.getElem?_eq_getElem (by rw [sizeB]; exact h)]; rfl
theorem fAt_ge {s : ByteArray} {k : Nat} (h : s.size ≤ k) : fAt s.data.toList k = false := by
  unfold fAt; rw [List.getElem?_eq_none (by rw [sizeB]; exact h)]
theorem spansOf_err {l : List UInt8} (h : vErr l ≠ 0) : spansOf l = [] := by unfold spansOf; rw [if_neg h]
theorem spansOf_ok {l : List UInt8} (h : vErr l = 0) : spansOf l = (wst (fAt l) (l.length + 1)).1 := by unfold spansOf; rw [if_pos h]
theorem vErr_small {l : List UInt8} (h : vErr l = 0) : l.length ≤ 120 := by
  unfold vErr at h; split at h
  · cases h
  · omega
theorem vErr_val (l : List UInt8) : vErr l = 0 ∨ vErr l = 2 ∨ vErr l = 3 := by
  unfold vErr; split
  · simp
  · split <;> simp

def sp (L : List (Nat × Nat)) (i : Nat) : Nat × Nat := L[i]?.getD (0, 0)
theorem sp_lt {L : List (Nat × Nat)} {i : Nat} (h : i < L.length) : sp L i = L[i] := by simp [sp, h]
theorem take_step {L M : List (Nat × Nat)} {k : Nat} (hl : k < L.length) (hm : k < M.length) (h : L.take k = M.take k) (e : sp L k = sp M k) : L.take (k + 1) = M.take (k + 1) := by
  rw [List.take_succ_eq_append_getElem hl, List.take_succ_eq_append_getElem hm, h, ← sp_lt hl, ← sp_lt hm, e]
/-- What the reference has behind k bytes: the words that have ended, and the one that has not. -/
def rst (L : List (Nat × Nat)) (f k : Nat) : List (Nat × Nat) := if f < k then L ++ [(f, k)] else L
theorem rst_false {F : Nat → Bool} {k f : Nat} {L : List (Nat × Nat)} (h : wst F k = (L, f)) (hf : F k = false) : ∃ L' f', wst F (k + 1) = (L', f') ∧ rst L' f' (k + 1) = rst L f k := by
  by_cases hlt : f < k
  · exact ⟨_, _, wst_cut h hf hlt, by simp [rst, hlt]⟩
  · exact ⟨_, _, wst_skip h hf hlt, by simp [rst, hlt]⟩
theorem wst_prev {F : Nat → Bool} {k f : Nat} {L : List (Nat × Nat)} (h : wst F k = (L, f)) : f < k ↔ 0 < k ∧ F (k - 1) = true := by
  cases k with
  | zero => simp
  | succ j =>
    simp only [Nat.add_sub_cancel]
    cases hf : F j with
    | true =>
      have := (wst_le F j).1
      rw [wst, if_pos hf] at h
      rw [h] at this
      simp only at this
      simp; omega
    | false =>
      rw [wst, if_neg (by simp [hf])] at h
      have : f = j + 1 := by injection h with _ h2; exact h2.symm
      simp [this]
theorem rst_end {F : Nat → Bool} {k f : Nat} {L : List (Nat × Nat)} (h : wst F k = (L, f)) (hf : F k = false) : (wst F (k + 1)).1 = rst L f k := by
  by_cases hlt : f < k
  · rw [wst_cut h hf hlt]; simp [rst, hlt]
  · rw [wst_skip h hf hlt]; simp [rst, hlt]
theorem rst_len {L : List (Nat × Nat)} {f k : Nat} : (rst L f k).length ≤ L.length + 1 := by unfold rst; split <;> simp
theorem pairCells_set (L : List (Nat × Nat)) (a b c : Nat) : (pairCells (L ++ [(a, b)])).set (L.length * 2 + 1) (.int .i64 (c : Int)) = pairCells (L ++ [(a, c)]) := by
  rw [pairCells_snoc, pairCells_snoc, List.set_append, if_neg (by rw [pairCells_length]; omega), pairCells_length, show L.length * 2 + 1 - L.length * 2 = 1 from by omega]
  rfl
theorem pun_at : ∀ (k : Nat) (_ : k < 15) (h : k < (⟨#[32, 46, 44, 59, 58, 33, 63, 34, 45, 91, 93, 60, 62, 123, 125]⟩ : ByteArray).size),
    punL[k]? = some (((⟨#[32, 46, 44, 59, 58, 33, 63, 34, 45, 91, 93, 60, 62, 123, 125]⟩ : ByteArray)[k]'h).toNat : Int) := by
  intro k hk h
  match k, hk with
  | 0, _ => rfl
  | 1, _ => rfl
  | 2, _ => rfl
  | 3, _ => rfl
  | 4, _ => rfl
  | 5, _ => rfl
  | 6, _ => rfl
  | 7, _ => rfl
  | 8, _ => rfl
  | 9, _ => rfl
  | 10, _ => rfl
  | 11, _ => rfl
  | 12, _ => rfl
  | 13, _ => rfl
  | 14, _ => rfl
theorem ltr_hit {n : Int} {k : Nat} (h : punL[k]? = some n) : ltr n = false := by
  have : punL.contains n = true := by simpa using List.mem_of_getElem? h
  unfold ltr; rw [this]; simp
theorem ltr_miss {n : Int} (h1 : 32 ≤ n) (h2 : n ≤ 126) (h : ∀ j, j < 15 → punL[j]? ≠ some n) : ltr n = true := by
  have : punL.contains n = false := by
    cases e : punL.contains n with
    | false => rfl
    | true =>
      obtain ⟨j, hj⟩ := List.getElem?_of_mem (show n ∈ punL by simpa using e)
      have hlt : j < 15 := (List.getElem?_eq_some_iff.1 hj).1
      exact absurd hj (h j hlt)
  unfold ltr; rw [this]; simp [h1, h2]
/-! ### The world -/
theorem new_two (w : World) (t : TypeId) (x y : Value) : ∀ (j : Nat) (u : Value), [x, y][j]? = some u → (w.alloc (.cells #[x, y] t)).cell? ((⟨w.heap.size, 0, none⟩ : Addr).add j) = some u := by
  intro j u hj
  match j, hj with
  | 0, hj => simp at hj; subst hj; simp [Addr.add]
  | 1, hj => simp at hj; subst hj; simp [Addr.add]
theorem one_two (k k' : IntKind) (a b : Int) : ∀ u ∈ [Value.int k a, Value.int k' b], u.oneCell' = true := by
  intro u hu; simp at hu; rcases hu with rfl | rfl <;> rfl
end Go.Proofs.YtfgnekbkcmpdiaaGreatDoor.T
/- Contracts of the small functions: what a byte of a line is, what a letter is, the error of a line. -/
namespace Go.Proofs.YtfgnekbkcmpdiaaGreatDoor.T
open Go.RowKit
set_option linter.unusedVariables false

set_option maxHeartbeats 400000 in
theorem belongs_any (n : Int) (w : World) (h0 : 0 ≤ n) (h1 : n ≤ 255) :
    Calls Tryz.prog 119 #[.int .u8 n] w fun e w' => e = .returned (.bool (inl n)) ∧ w = w' := by
  by_cases h2 : 32 ≤ n
  · by_cases h3 : n ≤ 126
    · have : inl n = true := by simp [inl, h2, h3]
      rw [this]
      go_enter Tryz.func119, Tryz.ntmps119
      go_wp2
      go_ret
      exact ⟨rfl, rfl⟩
    · have : inl n = false := by simp [inl, h2, h3]
      rw [this]
      go_enter Tryz.func119, Tryz.ntmps119
      go_wp2
      go_ret
      exact ⟨rfl, rfl⟩
  · have : inl n = false := by simp [inl, h2]
    rw [this]
    go_enter Tryz.func119, Tryz.ntmps119
    go_wp2
    go_ret
    exact ⟨rfl, rfl⟩
theorem belongs_yes (n : Int) (w : World) (h0 : 0 ≤ n) (h1 : n ≤ 255) (h : inl n = true) :
    Calls Tryz.prog 119 #[.int .u8 n] w fun e w' => e = .returned (.bool true) ∧ w = w' := h ▸ belongs_any n w h0 h1
theorem belongs_no (n : Int) (w : World) (h0 : 0 ≤ n) (h1 : n ≤ 255) (h : inl n = false) :
    Calls Tryz.prog 119 #[.int .u8 n] w fun e w' => e = .returned (.bool false) ∧ w = w' := h ▸ belongs_any n w h0 h1

set_option maxHeartbeats 400000 in
theorem letter_any (n : Int) (w : World) (h0 : 0 ≤ n) (h1 : n ≤ 255) :
    Calls Tryz.prog 105 #[.int .u8 n] w fun e w' => e = .returned (.bool (ltr n)) ∧ w = w' := by
  cases hi : inl n with
  | false =>
    rw [ltr_not hi]
    have HI := Lib.hid hi
    clear hi
    go_enter Tryz.func105, Tryz.ntmps105
    go_wp2_with (go_at_call 119; refine (belongs_no _ _ (by omega) (by omega) HI.out).mono ?_; rintro e w' ⟨rfl, rfl⟩)
    go_ret
    exact ⟨rfl, rfl⟩
  | true =>
    have HL := Lib.hid (ltr_of h0 h1 hi)
    have HI := Lib.hid hi
    clear hi
    go_enter Tryz.func105, Tryz.ntmps105
    go_wp2_with (first | (go_at_call 119; refine (belongs_yes _ _ (by omega) (by omega) HI.out).mono ?_; rintro e w' ⟨rfl, rfl⟩) | (go_at_call 99; refine (Tryz.strings_IndexByte _ _ _).mono ?_; rintro e w' ⟨rfl, rfl⟩))
    go_ret
    exact ⟨ret_bool HL.out, rfl⟩
end Go.Proofs.YtfgnekbkcmpdiaaGreatDoor.T
/- Contracts of text.Words: the spans of the words of a line. -/
namespace Go.Proofs.YtfgnekbkcmpdiaaGreatDoor.T
open Go.RowKit
set_option linter.unusedVariables false

theorem own_slice {w : World} {B : Nat} {t : TypeId} {z : Nat} {v : Value} {n : Nat} {xs : List Value} (h : w.ownsRow B t z v n xs) : ∃ A c, v = .slice A n c := by
  rcases h.2 with ⟨rfl, rfl⟩ | ⟨g, c, cur, rfl, _⟩
  · exact ⟨_, _, rfl⟩
  · exact ⟨_, _, rfl⟩
end Go.Proofs.YtfgnekbkcmpdiaaGreatDoor.T
/- Contract of slices.Equal on spans: it tells whether two lists of spans are one. -/
namespace Go.Proofs.YtfgnekbkcmpdiaaGreatDoor.T
open Go.RowKit
set_option linter.unusedVariables false

/-- A slice value that reads as the spans L. -/
def SpansIn (w : World) (A : Option Addr) (L : List (Nat × Nat)) : Prop :=
  0 < L.length → ∃ g, A = some ⟨g, 0, none⟩ ∧ g < w.heap.size ∧ ∀ i, i < L.length → w.cell? ⟨g, i * 2, none⟩ = some (.int .i64 ((sp L i).1 : Int)) ∧ w.cell? ⟨g, i * 2 + 1, none⟩ = some (.int .i64 ((sp L i).2 : Int))
theorem SpansIn.below {w w' : World} {A : Option Addr} {L : List (Nat × Nat)} (h : SpansIn w A L) (hb : Below w.heap.size w w') : SpansIn w' A L := by
  intro h0
  obtain ⟨g, e, hlt, hc⟩ := h h0
  exact ⟨g, e, Nat.lt_of_lt_of_le hlt hb.size, fun i hi => ⟨(hb.cell (p := ⟨g, i * 2, none⟩) hlt).trans (hc i hi).1, (hb.cell (p := ⟨g, i * 2 + 1, none⟩) hlt).trans (hc i hi).2⟩⟩

theorem sp_eq {L M : List (Nat × Nat)} {k : Nat} (h1 : (((sp L k).1 : Int) == ((sp M k).1 : Int)) = true) (h2 : (((sp L k).2 : Int) == ((sp M k).2 : Int)) = true) : sp L k = sp M k := by
  simp at h1 h2; exact Prod.ext (by omega) (by omega)
theorem sp_ne1 {L M : List (Nat × Nat)} {k : Nat} (h1 : (((sp L k).1 : Int) == ((sp M k).1 : Int)) = false) (hl : k < L.length) (hm : k < M.length) : decide (L = M) = false := by
  refine decide_eq_false (fun e => ?_); subst e; simp at h1
theorem sp_ne2 {L M : List (Nat × Nat)} {k : Nat} (h1 : (((sp L k).2 : Int) == ((sp M k).2 : Int)) = false) (hl : k < L.length) (hm : k < M.length) : decide (L = M) = false := by
  refine decide_eq_false (fun e => ?_); subst e; simp at h1
theorem take_end {L M : List (Nat × Nat)} {k : Nat} (hl : L.length ≤ k) (hm : M.length ≤ k) (h : L.take k = M.take k) : decide (L = M) = true := by
  rw [List.take_of_length_le hl, List.take_of_length_le hm] at h; exact decide_eq_true h
end Go.Proofs.YtfgnekbkcmpdiaaGreatDoor.T
/- Contracts of Fold, of the program and of the reference: the string with small letters in the place of capitals. -/
namespace Go.Proofs.YtfgnekbkcmpdiaaGreatDoor.T
open Go.RowKit
set_option linter.unusedVariables false

def foldB (c : UInt8) : UInt8 := if 65 ≤ c.toNat ∧ c.toNat ≤ 90 then c + 32 else c
def foldL (l : List UInt8) : List UInt8 := l.map foldB
def bt (l : List UInt8) (j : Nat) : Int := ((l[j]?.getD 0).toNat : Int)
def fb (n : Int) : Int := if 65 ≤ n ∧ n ≤ 90 then n + 32 else n
def mixAt (l : List UInt8) (k j : Nat) : Int := if j < k then fb (bt l j) else bt l j
theorem bt_bd (l : List UInt8) (j : Nat) : 0 ≤ bt l j ∧ bt l j ≤ 255 := by
  unfold bt; have := (l[j]?.getD 0).toNat_lt; omega
theorem foldB_int (c : UInt8) : ((foldB c).toNat : Int) = fb (c.toNat : Int) := by
  unfold foldB fb
  have := c.toNat_lt
  by_cases h : 65 ≤ c.toNat ∧ c.toNat ≤ 90
  · rw [if_pos h, if_pos (by omega), UInt8.toNat_add]
    have : (32 : UInt8).toNat = 32 := rfl
    omega
  · rw [if_neg h, if_neg (by omega)]
theorem foldL_len (l : List UInt8) : (foldL l).length = l.length := by simp [foldL]
theorem mix_end (l : List UInt8) (j : Nat) (h : j < l.length) : mixAt l l.length j = (((foldL l)[j]'(by rw [foldL_len]; exact h)).toNat : Int) := by
  unfold mixAt foldL; rw [if_pos h, List.getElem_map, foldB_int]; unfold bt; rw [List.getElem?_eq_getElem h]; rfl
theorem mix_zero (l : List UInt8) (j : Nat) : mixAt l 0 j = bt l j := by unfold mixAt; rw [if_neg (by omega)]
theorem mix_same (l : List UInt8) (k j : Nat) (h : j ≠ k) : mixAt l (k + 1) j = mixAt l k j := by
  unfold mixAt
  by_cases e : j < k
  · rw [if_pos e, if_pos (by omega)]
  · rw [if_neg e, if_neg (by omega)]
theorem mix_at (l : List UInt8) (k : Nat) : mixAt l k k = bt l k := by unfold mixAt; rw [if_neg (by omega)]
theorem mix_new (l : List UInt8) (k : Nat) : mixAt l (k + 1) k = fb (bt l k) := by unfold mixAt; rw [if_pos (by omega)]

def FRel (l : List UInt8) (B : Nat) (w : World) (k : Nat) (wr : World) : Prop :=
  Below B w wr ∧ B < wr.heap.size ∧ (∀ j, j < l.length → wr.cell? ⟨B, j, none⟩ = some (.int .u8 (mixAt l k j))) ∧ ∀ j, j < l.length → wr.frozen? ⟨B, j, none⟩ = false
theorem frel_start (s : ByteArray) (w : World) (cap : Nat) : FRel s.data.toList w.heap.size w 0 (w.drew.alloc (.cells (bytesRow s cap) 5 ((bytesRow s cap).size, (bytesRow s cap).size + 1))) := by
  refine ⟨(Below.drew (Below.refl _ _)).alloc (Nat.le_refl _) _, by simp, fun j hj => ?_, fun j hj => ?_⟩
  · rw [show (⟨w.heap.size, j, none⟩ : Addr) = ⟨w.drew.heap.size, j, none⟩ from rfl, World.cell?_alloc_mark, bytesRow_at _ _ _ (by simpa using hj), mix_zero]
    unfold bt
    rw [List.getElem?_eq_getElem hj]
    simp
  · rw [show (⟨w.heap.size, j, none⟩ : Addr) = ⟨w.drew.heap.size, j, none⟩ from rfl, World.frozen?_alloc_mark]
    have : s.size ≤ (bytesRow s cap).size := by simp [bytesRow]
    have hj' : j < s.size := hj
    simp; omega
theorem frel_skip {l : List UInt8} {B k : Nat} {w wr : World} (h : FRel l B w k wr) (hb : ¬ (65 ≤ bt l k ∧ bt l k ≤ 90)) : FRel l B w (k + 1) wr := by
  refine ⟨h.1, h.2.1, fun j hj => ?_, h.2.2.2⟩
  rw [h.2.2.1 j hj]
  by_cases e : j = k
  · subst e; rw [mix_at, mix_new]; unfold fb; rw [if_neg hb]
  · rw [mix_same _ _ _ e]
theorem frel_set {l : List UInt8} {B k : Nat} {w wr : World} {x : Int} (h : FRel l B w k wr) (hk : k < l.length) (hx : x = fb (bt l k)) : FRel l B w (k + 1) (wr.setCell ⟨B, k, none⟩ (.int .u8 x)) := by
  refine ⟨h.1.setCell (Nat.le_refl _) _, by simpa using h.2.1, fun j hj => ?_, fun j hj => (World.frozen?_setCell _ _ _ _).trans (h.2.2.2 j hj)⟩
  by_cases e : j = k
  · subst e; rw [World.cell?_setCell_same _ _ _ (h.2.2.1 j hj), mix_new, hx]
  · rw [World.cell?_setCell_other _ _ _ _ (by first | (simp; done) | (simp; omega)), h.2.2.1 j hj, mix_same _ _ _ e]

theorem fold_back {s : ByteArray} {w wr : World} (h : FRel s.data.toList w.heap.size w s.size wr) (cap : Nat) :
    (convert 36 9 (.slice (some ⟨w.heap.size, 0, none⟩) s.size cap)).run Tryz.prog wr = .ok (.string ⟨(foldL s.data.toList).toArray⟩) wr := by
  have hl : s.size = (foldL s.data.toList).length := by rw [foldL_len]; rfl
  have h2 : ∀ j (hj : j < (foldL s.data.toList).length), wr.cell? ((⟨w.heap.size, 0, none⟩ : Addr).add j) = some (.int .u8 ((foldL s.data.toList)[j].toNat : Int)) := by
    intro j hj
    have hj' : j < s.data.toList.length := by rw [foldL_len] at hj; exact hj
    have e : ((⟨w.heap.size, 0, none⟩ : Addr).add j) = ⟨w.heap.size, j, none⟩ := by simp [Addr.add]; omega
    rw [e, h.2.2.1 j hj']
    exact congrArg (fun x => some (Value.int .u8 x)) (mix_end s.data.toList j hj')
  have := run_convert_bytes_back (P := Tryz.prog) wr 36 9 5 ⟨w.heap.size, 0, none⟩ cap (foldL s.data.toList) Tryz.underlying36 Tryz.underlying5 Tryz.underlying9 h2
  rw [← hl] at this
  exact this

set_option maxHeartbeats 1000000 in
theorem tfold_any (s : ByteArray) (w : World) (hs : s.size ≤ maxLen) :
    Calls Tryz.prog 72 #[.string s] w fun e w' => e = .returned (.string ⟨(foldL s.data.toList).toArray⟩) ∧ Below w.heap.size w w' := by
  unfold maxLen at hs
  have hcv := fun w s => run_bytes_of_string (P := Tryz.prog) w 9 36 5 s Tryz.underlying9 Tryz.underlying36 Tryz.underlying5
  go_enter Tryz.func72, Tryz.ntmps72
  go_wp2
  generalize grownCap w s.size 0 5 = cap
  go_loopw [10] (fun i wr => ∃ k : Nat, k ≤ s.size ∧ i = .int .i64 (k : Int) ∧ FRel s.data.toList w.heap.size w k wr) (fun i _ => s.size - (intOf i).toNat)
  case atStart => exact ⟨0, Nat.zero_le _, rfl, frel_start s w cap⟩
  case round =>
    obtain ⟨k, hk, rfl, hrl⟩ := hrel
    obtain ⟨hb0, hb1⟩ := bt_bd s.data.toList k
    have HR := Lib.hid hrl
    by_cases hlt : k < s.size
    · have hc := hrl.2.2.1 k hlt
      rw [mix_at] at hc
      have hfz := hrl.2.2.2 k hlt
      clear hrl
      by_cases h1 : 65 ≤ bt s.data.toList k
      · by_cases h2 : bt s.data.toList k ≤ 90
        · go_wp2
          go_roundw
          case rel => exact ⟨k + 1, by omega, by go_num, frel_set HR.out hlt (by unfold fb; rw [if_pos ⟨h1, h2⟩]; omega)⟩
          case measure => simp [intOf]; omega
        · go_wp2
          go_roundw
          case rel => exact ⟨k + 1, by omega, by go_num, frel_skip HR.out (by omega)⟩
          case measure => simp [intOf]; omega
      · go_wp2
        go_roundw
        case rel => exact ⟨k + 1, by omega, by go_num, frel_skip HR.out (by omega)⟩
        case measure => simp [intOf]; omega
    · clear hrl
      obtain rfl : k = s.size := by omega
      have hback : (convert 36 9 (.slice (some ⟨w.heap.size, 0, none⟩) s.size cap)).run Tryz.prog wr = .ok (.string ⟨(foldL s.data.toList).toArray⟩) wr :=
        fold_back HR.out cap
      go_wp2
      go_ret
      exact ⟨rfl, HR.out.1⟩
end Go.Proofs.YtfgnekbkcmpdiaaGreatDoor.T
/- Contract of text.Word. -/
namespace Go.Proofs.YtfgnekbkcmpdiaaGreatDoor.T
open Go.RowKit
set_option linter.unusedVariables false

theorem wst_in (F : Nat → Bool) (k : Nat) : ∀ p ∈ (wst F k).1, p.1 < p.2 ∧ p.2 + 1 ≤ k := by
  induction k with
  | zero => intro p hp; simp [wst] at hp
  | succ k ih =>
    intro p hp
    unfold wst at hp
    split at hp
    · have := ih p hp; omega
    · split at hp
      · rename_i hlt
        simp only [List.mem_append, List.mem_singleton] at hp
        rcases hp with hp | rfl
        · have := ih p hp; omega
        · exact ⟨hlt, Nat.le_refl _⟩
      · have := ih p hp; omega
theorem sp_mem {L : List (Nat × Nat)} {j : Nat} (h : j < L.length) : sp L j ∈ L := by rw [sp_lt h]; exact List.getElem_mem h
theorem span_in {s : ByteArray} {j : Nat} (h : j < (spansOf s.data.toList).length) : (sp (spansOf s.data.toList) j).1 < (sp (spansOf s.data.toList) j).2 ∧ (sp (spansOf s.data.toList) j).2 ≤ s.size := by
  have hm := sp_mem h
  unfold spansOf at hm ⊢
  split at hm
  · rename_i hv
    rw [if_pos hv]
    have := wst_in (fAt s.data.toList) (s.data.toList.length + 1) _ hm
    rw [sizeB] at this
    refine ⟨this.1, ?_⟩
    have h2 := this.2
    rw [sizeB]
    omega
  · simp at hm
theorem tfold_cut (s : ByteArray) (a b : Nat) (w : World) (h : s.size ≤ 120) :
    Calls Tryz.prog 72 #[.string (s.extract a b)] w fun e w' => e = .returned (.string ⟨(foldL (s.extract a b).data.toList).toArray⟩) ∧ Below w.heap.size w w' :=
  tfold_any _ _ (by rw [ByteArray.size_extract]; unfold maxLen; omega)
def cutL (l : List UInt8) (a b : Nat) : List UInt8 := List.take (b - a) (List.drop a l)
def wordL (l : List UInt8) (j : Nat) : List UInt8 := foldL (cutL l (sp (spansOf l) j).1 (sp (spansOf l) j).2)
def wordB (s : ByteArray) (j : Nat) : ByteArray := ⟨(wordL s.data.toList j).toArray⟩
def wordVal (s : ByteArray) (i : Int) : ByteArray × Int :=
  if vErr s.data.toList ≠ 0 then (⟨#[]⟩, vErr s.data.toList) else if i < 0 ∨ ((spansOf s.data.toList).length : Int) ≤ i then (⟨#[]⟩, 6) else (wordB s i.toNat, 0)
def WordPost (s : ByteArray) (i : Int) (w : World) (e : Ending) (w' : World) : Prop :=
  e = .returned (.tuple #[.string (wordVal s i).1, .int .i64 (wordVal s i).2]) ∧ Below w.heap.size w w'
theorem word_post {s : ByteArray} {i : Int} {w w' : World} {x : ByteArray} {n : Int} (h : wordVal s i = (x, n)) (hb : Below w.heap.size w w') : WordPost s i w (.returned (.tuple #[.string x, .int .i64 n])) w' := ⟨by rw [h], hb⟩
theorem wordVal_err {s : ByteArray} {i : Int} {x : Int} (h : vErr s.data.toList = x) (hx : x ≠ 0) : wordVal s i = (⟨#[]⟩, x) := by subst h; unfold wordVal; rw [if_pos hx]
theorem wordVal_out {s : ByteArray} {i : Int} (h : vErr s.data.toList = 0) (hx : i < 0 ∨ ((spansOf s.data.toList).length : Int) ≤ i) : wordVal s i = (⟨#[]⟩, 6) := by unfold wordVal; rw [if_neg (by simp [h]), if_pos hx]
theorem wordVal_in {s : ByteArray} {j : Nat} (h : vErr s.data.toList = 0) (hx : j < (spansOf s.data.toList).length) : wordVal s (j : Int) = (wordB s j, 0) := by
  unfold wordVal; rw [if_neg (by simp [h]), if_neg (by omega), Int.toNat_natCast]

end Go.Proofs.YtfgnekbkcmpdiaaGreatDoor.T
/- Contract of text.Same: it compares the folded words of two lines. -/
namespace Go.Proofs.YtfgnekbkcmpdiaaGreatDoor.T
open Go.RowKit
set_option linter.unusedVariables false

def wordsL (l : List UInt8) : List (List UInt8) := (List.range (spansOf l).length).map (wordL l)
def sameL (l m : List UInt8) : Bool := decide (vErr l = 0 ∧ vErr m = 0 ∧ wordsL l = wordsL m)
def SamePost (s t : ByteArray) (w : World) (e : Ending) (w' : World) : Prop := e = .returned (.bool (sameL s.data.toList t.data.toList)) ∧ Below w.heap.size w w'
theorem wordsL_len (l : List UInt8) : (wordsL l).length = (spansOf l).length := by simp [wordsL]
theorem sameL_err1 {l m : List UInt8} (h : vErr l ≠ 0) : sameL l m = false := decide_eq_false (fun e => h e.1)
theorem sameL_err2 {l m : List UInt8} (h : vErr m ≠ 0) : sameL l m = false := decide_eq_false (fun e => h e.2.1)
theorem sameL_len {l m : List UInt8} (h : (spansOf l).length ≠ (spansOf m).length) : sameL l m = false := decide_eq_false (fun e => h (by rw [← wordsL_len, ← wordsL_len, e.2.2]))
theorem wordsL_at {l : List UInt8} {k : Nat} (h : k < (spansOf l).length) : (wordsL l)[k]? = some (wordL l k) := by unfold wordsL; simp [h]
theorem sameL_ne {l m : List UInt8} {k : Nat} (hl : k < (spansOf l).length) (hm : k < (spansOf m).length) (h : wordL l k ≠ wordL m k) : sameL l m = false := by
  refine decide_eq_false (fun e => h ?_)
  have h1 := wordsL_at hl
  rw [e.2.2, wordsL_at hm] at h1
  exact (Option.some.inj h1).symm
theorem sameL_yes {l m : List UInt8} (h0 : vErr l = 0) (h1 : vErr m = 0) (hlen : (spansOf l).length = (spansOf m).length) (h : ∀ k, k < (spansOf l).length → wordL l k = wordL m k) : sameL l m = true := by
  refine decide_eq_true ⟨h0, h1, ?_⟩
  unfold wordsL
  rw [← hlen]
  exact List.map_congr_left (fun k hk => h k (by simpa using hk))
theorem same_post {s t : ByteArray} {w w' : World} {x : Bool} (h : sameL s.data.toList t.data.toList = x) (hb : Below w.heap.size w w') : SamePost s t w (.returned (.bool x)) w' := ⟨by rw [h], hb⟩
theorem btwo {w w1 w2 : World} (h : Below w.heap.size w w1) (h2 : Below w1.heap.size w1 w2) : Below w.heap.size w w2 := h.trans (h2.mono h.size)

theorem keep5 {wr W w3 : World} {g g' o1 o2 o3 o4 : Nat} {v1 v2 v3 v4 : Value} (hb : Below W.heap.size W w3) (hg : g < wr.heap.size) (hg' : g' < wr.heap.size)
    (h : Below wr.heap.size wr W ∧ W.cell? ⟨g, o1, none⟩ = some v1 ∧ W.cell? ⟨g, o2, none⟩ = some v2 ∧ W.cell? ⟨g', o3, none⟩ = some v3 ∧ W.cell? ⟨g', o4, none⟩ = some v4) :
    Below wr.heap.size wr w3 ∧ w3.cell? ⟨g, o1, none⟩ = some v1 ∧ w3.cell? ⟨g, o2, none⟩ = some v2 ∧ w3.cell? ⟨g', o3, none⟩ = some v3 ∧ w3.cell? ⟨g', o4, none⟩ = some v4 := by
  have l1 : g < W.heap.size := Nat.lt_of_lt_of_le hg h.1.size
  have l2 : g' < W.heap.size := Nat.lt_of_lt_of_le hg' h.1.size
  exact ⟨btwo h.1 hb, (hb.cell (p := ⟨g, o1, none⟩) l1).trans h.2.1, (hb.cell (p := ⟨g, o2, none⟩) l1).trans h.2.2.1, (hb.cell (p := ⟨g', o3, none⟩) l2).trans h.2.2.2.1, (hb.cell (p := ⟨g', o4, none⟩) l2).trans h.2.2.2.2⟩
end Go.Proofs.YtfgnekbkcmpdiaaGreatDoor.T
/- Contract of the statements' own check of the chapter's example: it answers true. -/
namespace Go.Proofs.YtfgnekbkcmpdiaaGreatDoor.T
open Go.RowKit
set_option linter.unusedVariables false

theorem bdr {B : Nat} {a w : World} (h : Below B a w) (n : Nat) : Below B a (w.drewN n) := ⟨h.os, h.tape, h.output, h.size, h.block⟩
def exL : List (Nat × Nat) := [(0, 4), (5, 13), (14, 18), (20, 26)]
def exA : List UInt8 := [65, 114, 109, 97, 32, 118, 105, 114, 117, 109, 113, 117, 101, 32, 99, 97, 110, 111, 44, 32, 84, 114, 111, 105, 97, 101]
def exB : List UInt8 := [97, 114, 109, 97, 32, 86, 73, 82, 85, 77, 81, 85, 69, 59, 32, 99, 97, 110, 111, 32, 84, 114, 111, 105, 97, 101, 33]
def exC : List UInt8 := [97, 114, 109, 97, 32, 118, 105, 114, 117, 109, 32, 113, 117, 101, 32, 99, 97, 110, 111, 32, 84, 114, 111, 105, 97, 101]
theorem ex_spans : spansOf exA = exL := by decide +kernel
theorem ex_err : vErr exA = 0 := by decide +kernel
theorem ex_word : wordL exA 3 = [116, 114, 111, 105, 97, 101] := by decide +kernel
theorem ex_same : sameL exA exB = true := by decide +kernel
theorem ex_other : sameL exA exC = false := by decide +kernel

def ExWords (w : World) (e : Ending) (w' : World) : Prop := ∃ A c, e = .returned (.tuple #[.slice A 4 c, .int .i64 0]) ∧ SpansIn w' A exL ∧ Below w.heap.size w w'
def ExWord (w : World) (e : Ending) (w' : World) : Prop := e = .returned (.tuple #[.string ⟨#[116, 114, 111, 105, 97, 101]⟩, .int .i64 0]) ∧ Below w.heap.size w w'
end Go.Proofs.YtfgnekbkcmpdiaaGreatDoor.T
/- Contract of the reference's letters. -/
namespace Go.Proofs.YtfgnekbkcmpdiaaGreatDoor.T
open Go.RowKit
set_option linter.unusedVariables false

set_option maxHeartbeats 1000000 in
theorem rletter_any (n : Int) (w : World) (h0 : 0 ≤ n) (h1 : n ≤ 255) :
    Calls Tryz.prog 77 #[.int .u8 n] w fun e w' => e = .returned (.bool (ltr n)) ∧ w = w' := by
  by_cases h2 : n < 32
  · have HL := Lib.hid (show ltr n = false by simp [ltr]; omega)
    go_enter Tryz.func77, Tryz.ntmps77
    go_wp2
    go_ret
    exact ⟨ret_bool HL.out.symm, rfl⟩
  · by_cases h3 : 126 < n
    · have HL := Lib.hid (show ltr n = false by simp [ltr]; omega)
      go_enter Tryz.func77, Tryz.ntmps77
      go_wp2
      go_ret
      exact ⟨ret_bool HL.out.symm, rfl⟩
    · have h4 : 32 ≤ n := by omega
      have h5 : n ≤ 126 := by omega
      go_enter Tryz.func77, Tryz.ntmps77
      go_wp2
      go_loop [3] (fun i => ∃ k : Nat, k ≤ 15 ∧ i = .int .i64 k ∧ ∀ j, j < k → punL[j]? ≠ some n) (fun i => 15 - (intOf i).toNat)
      case atStart => exact ⟨0, Nat.zero_le _, rfl, fun j hj => by omega⟩
      case round =>
        obtain ⟨k, hk, rfl, hall⟩ := hrel
        have HA := Lib.hid hall
        clear hall
        by_cases hlt : k < 15
        · have HP := Lib.hid (pun_at k hlt)
          go_wp2
          · have ht : ((((⟨#[32, 46, 44, 59, 58, 33, 63, 34, 45, 91, 93, 60, 62, 123, 125]⟩ : ByteArray)[k]'(by exact hlt)).toNat : Int) == n) = true := by assumption
            have HE := Lib.hid (show ltr n = false from ltr_hit (k := k) (by rw [HP.out (by exact hlt)]; simpa using ht))
            go_ret
            exact ⟨ret_bool HE.out.symm, rfl⟩
          · have ht : ((((⟨#[32, 46, 44, 59, 58, 33, 63, 34, 45, 91, 93, 60, 62, 123, 125]⟩ : ByteArray)[k]'(by exact hlt)).toNat : Int) == n) = false := by assumption
            go_round
            case rel => exact ⟨k + 1, by omega, by go_num, fun j hj => by
              by_cases e : j = k
              · subst e; rw [HP.out (by exact hlt)]; simpa using ht
              · exact HA.out j (by omega)⟩
            case measure => simp [intOf]; omega
        · have HE := Lib.hid (show ltr n = true from ltr_miss h4 h5 (fun j hj => HA.out j (by omega)))
          go_wp2
          go_ret
          exact ⟨ret_bool HE.out.symm, rfl⟩
end Go.Proofs.YtfgnekbkcmpdiaaGreatDoor.T
/- Contract of the reference's Words. -/
namespace Go.Proofs.YtfgnekbkcmpdiaaGreatDoor.T
open Go.RowKit
set_option linter.unusedVariables false

end Go.Proofs.YtfgnekbkcmpdiaaGreatDoor.T
/- Contract of the reference's Fold. -/
namespace Go.Proofs.YtfgnekbkcmpdiaaGreatDoor.T
open Go.RowKit
set_option linter.unusedVariables false

theorem Tryz.infoByte : (Tryz.prog.info? 5).map (fun i => (i.zero, i.size, i.bytes)) = some (some (.int .u8 0), 1, 1) := by kernel_rfl

def halfAt (l : List UInt8) (k j : Nat) : Int := if j < k then fb (bt l j) else 0
theorem half_same (l : List UInt8) (k j : Nat) (h : j ≠ k) : halfAt l (k + 1) j = halfAt l k j := by
  unfold halfAt
  by_cases e : j < k
  · rw [if_pos e, if_pos (by omega)]
  · rw [if_neg e, if_neg (by omega)]
theorem half_new (l : List UInt8) (k : Nat) : halfAt l (k + 1) k = fb (bt l k) := by unfold halfAt; rw [if_pos (by omega)]
def GRel (l : List UInt8) (B : Nat) (w : World) (k : Nat) (wr : World) : Prop :=
  Below B w wr ∧ B < wr.heap.size ∧ (∀ j, j < l.length → wr.cell? ⟨B, j, none⟩ = some (.int .u8 (halfAt l k j))) ∧ ∀ j, j < l.length → wr.frozen? ⟨B, j, none⟩ = false
theorem grel_start {s : ByteArray} {w w1 : World} (hown : w1.ownsRow w.heap.size 5 1 (.slice (some ⟨w.heap.size, 0, none⟩) s.size s.size) s.size (madeCells (Value.int .u8 0).cells (s.size * 1)).toList) (hg : w.grownBy w1 none) :
    GRel s.data.toList w.heap.size w 0 w1 := by
  refine ⟨(Below.refl _ _).grown hg (Nat.le_refl _) (fun k h => by cases h), (hown.lt w.heap.size rfl).2, fun j hj => ?_, fun j hj => hown.frozenAt j⟩
  have hj' : j < s.size := hj
  rw [hown.cellAt j (by omega), show (Value.int .u8 0).cells = #[.int .u8 0] from rfl, toList_madeCells_one, List.getElem?_replicate, if_pos (by omega)]
  unfold halfAt; rw [if_neg (by omega)]
theorem grel_set {l : List UInt8} {B k : Nat} {w wr : World} {x y : Int} (h : GRel l B w k wr) (hk : k < l.length) (hx : y = fb (bt l k)) : GRel l B w (k + 1) ((wr.setCell ⟨B, k, none⟩ (.int .u8 x)).setCell ⟨B, k, none⟩ (.int .u8 y)) := by
  refine ⟨(h.1.setCell (Nat.le_refl _) _).setCell (Nat.le_refl _) _, by simpa using h.2.1, fun j hj => ?_, fun j hj => (World.frozen?_setCell _ _ _ _).trans ((World.frozen?_setCell _ _ _ _).trans (h.2.2.2 j hj))⟩
  by_cases e : j = k
  · subst e; rw [World.cell?_setCell_same _ _ _ (World.cell?_setCell_same _ _ _ (h.2.2.1 j hj)), half_new, hx]
  · rw [World.cell?_setCell_other _ _ _ _ (by first | (simp; done) | (simp; omega)), World.cell?_setCell_other _ _ _ _ (by first | (simp; done) | (simp; omega)), h.2.2.1 j hj, half_same _ _ _ e]
theorem grel_one {l : List UInt8} {B k : Nat} {w wr : World} {x : Int} (h : GRel l B w k wr) (hk : k < l.length) (hx : x = fb (bt l k)) : GRel l B w (k + 1) (wr.setCell ⟨B, k, none⟩ (.int .u8 x)) := by
  refine ⟨h.1.setCell (Nat.le_refl _) _, by simpa using h.2.1, fun j hj => ?_, fun j hj => (World.frozen?_setCell _ _ _ _).trans (h.2.2.2 j hj)⟩
  by_cases e : j = k
  · subst e; rw [World.cell?_setCell_same _ _ _ (h.2.2.1 j hj), half_new, hx]
  · rw [World.cell?_setCell_other _ _ _ _ (by first | (simp; done) | (simp; omega)), h.2.2.1 j hj, half_same _ _ _ e]
theorem bt_at {s : ByteArray} {k : Nat} (h : k < s.size) : bt s.data.toList k = (s[k].toNat : Int) := by
  unfold bt; rw [List.getElem?_eq_getElem (by rw [sizeB]; exact h)]; rfl
theorem gold_back {s : ByteArray} {w wr : World} (h : GRel s.data.toList w.heap.size w s.size wr) (cap : Nat) :
    (convert 36 9 (.slice (some ⟨w.heap.size, 0, none⟩) s.size cap)).run Tryz.prog wr = .ok (.string ⟨(foldL s.data.toList).toArray⟩) wr := by
  refine fold_back ⟨h.1, h.2.1, fun j hj => ?_, h.2.2.2⟩ cap
  have hj' : j < s.size := hj
  rw [h.2.2.1 j hj]
  unfold halfAt mixAt
  rw [if_pos hj', if_pos hj']

end Go.Proofs.YtfgnekbkcmpdiaaGreatDoor.T
/- Contracts of the reference's All and Word. -/
namespace Go.Proofs.YtfgnekbkcmpdiaaGreatDoor.T
open Go.RowKit
set_option linter.unusedVariables false

theorem Tryz.infoString : (Tryz.prog.info? 9).map (fun i => (i.zero, i.size, i.bytes)) = some (some (.string ⟨#[]⟩), 1, 16) := by kernel_rfl
theorem own_below {w w' : World} {base z n : Nat} {t : TypeId} {v : Value} {xs : List Value} (h : w.ownsRow base t z v n xs) (hb : Below w.heap.size w w') : w'.ownsRow base t z v n xs :=
  h.kept (row := none) ⟨hb.os, hb.tape, hb.output, hb.size, fun k hk _ => hb.block k hk⟩ (by
    cases e : v.ownBlock with
    | none => exact .inl rfl
    | some k => exact .inr (by simp))
def wordsB (s : ByteArray) (k : Nat) : List Value := (List.range k).map (fun j => Value.string (wordB s j))
theorem wordsB_succ (s : ByteArray) (k : Nat) : wordsB s (k + 1) = wordsB s k ++ [.string (wordB s k)] := by simp [wordsB, List.range_succ]
theorem wordsB_len (s : ByteArray) (k : Nat) : (wordsB s k).length = k := by simp [wordsB]
def wcount (s : ByteArray) : Nat := (spansOf s.data.toList).length
def AllPost (s : ByteArray) (w : World) (e : Ending) (w' : World) : Prop :=
  ∃ A c, e = .returned (.tuple #[.slice A (wcount s) c, .int .i64 (vErr s.data.toList)]) ∧ w'.ownsRow w.heap.size 9 1 (.slice A (wcount s) c) (wcount s) (wordsB s (wcount s)) ∧ Below w.heap.size w w'
theorem all_err {s : ByteArray} {w w' : World} {x : Int} (hx : vErr s.data.toList = x) (h : x ≠ 0) (hb : Below w.heap.size w w') : AllPost s w (.returned (.tuple #[.slice none 0 0, .int .i64 x])) w' := by
  subst hx
  have e : wcount s = 0 := by unfold wcount; rw [spansOf_err h]; rfl
  exact ⟨none, 0, by rw [e], by rw [e]; exact World.ownsRow_nil _ _ _ _, hb⟩
theorem all_ok {s : ByteArray} {w w' : World} {v : Value} (h : vErr s.data.toList = 0) (hown : w'.ownsRow w.heap.size 9 1 v (wcount s) (wordsB s (wcount s))) (hb : Below w.heap.size w w') : AllPost s w (.returned (.tuple #[v, .int .i64 0])) w' := by
  obtain ⟨A, c, rfl⟩ := own_slice hown
  exact ⟨A, c, by rw [h], hown, hb⟩
theorem one_str (s : ByteArray) : ∀ u ∈ [Value.string s], u.oneCell' = true := by
  intro u hu; simp at hu; subst hu; rfl
theorem new_one (w : World) (t : TypeId) (x : Value) : ∀ (j : Nat) (u : Value), [x][j]? = some u → (w.alloc (.cells #[x] t)).cell? ((⟨w.heap.size, 0, none⟩ : Addr).add j) = some u := by
  intro j u hj
  match j, hj with
  | 0, hj => simp at hj; subst hj; simp [Addr.add]
theorem keep2 {W w3 : World} {g o1 o2 : Nat} {v1 v2 : Value} (hb : Below W.heap.size W w3) (hg : g < W.heap.size)
    (h : W.cell? ⟨g, o1, none⟩ = some v1 ∧ W.cell? ⟨g, o2, none⟩ = some v2) : w3.cell? ⟨g, o1, none⟩ = some v1 ∧ w3.cell? ⟨g, o2, none⟩ = some v2 :=
  ⟨(hb.cell (p := ⟨g, o1, none⟩) hg).trans h.1, (hb.cell (p := ⟨g, o2, none⟩) hg).trans h.2⟩
theorem keepA {W w3 : World} {B g o1 o2 : Nat} {r : Option Nat} {v1 v2 : Value} (hb : W.grownBy w3 r) (hr : ∀ x, r = some x → B ≤ x) (hg : g < B) (hg2 : g < W.heap.size)
    (h : W.cell? ⟨g, o1, none⟩ = some v1 ∧ W.cell? ⟨g, o2, none⟩ = some v2) : w3.cell? ⟨g, o1, none⟩ = some v1 ∧ w3.cell? ⟨g, o2, none⟩ = some v2 :=
  ⟨(hb.cell_far ⟨g, o1, none⟩ hg2 (fun e => by have := hr _ e.symm; simp at this; omega)).trans h.1, (hb.cell_far ⟨g, o2, none⟩ hg2 (fun e => by have := hr _ e.symm; simp at this; omega)).trans h.2⟩
theorem keepC {W : World} {g o1 o2 : Nat} {v1 v2 : Value} {o : Obj} (h : W.cell? ⟨g, o1, none⟩ = some v1 ∧ W.cell? ⟨g, o2, none⟩ = some v2) (hg : g < W.heap.size) : (W.alloc o).cell? ⟨g, o1, none⟩ = some v1 ∧ (W.alloc o).cell? ⟨g, o2, none⟩ = some v2 :=
  ⟨(World.cell?_alloc_lt W o ⟨g, o1, none⟩ hg).trans h.1, (World.cell?_alloc_lt W o ⟨g, o2, none⟩ hg).trans h.2⟩
theorem all_below {w1 wr w3 w4 : World} {o : Obj} {r : Option Nat} (h1 : Below w1.heap.size w1 wr) (h2 : Below wr.drew.heap.size wr.drew w3) (h3 : (w3.alloc o).grownBy w4 r) (h4 : ∀ x, r = some x → w1.heap.size ≤ x) : Below w1.heap.size w1 w4 := by
  have h5 : Below w1.heap.size w1 w3 := h1.drew.trans (h2.mono h1.size)
  exact (h5.alloc h5.size o).grown h3 (by have := h5.size; simp; omega) h4
theorem ownsRow_base {w : World} {base base' z n : Nat} {t : TypeId} {v : Value} {xs : List Value} (h : w.ownsRow base t z v n xs) (hb : base' ≤ base) : w.ownsRow base' t z v n xs := by
  refine ⟨h.1, ?_⟩
  rcases h.2 with h' | ⟨g, cap, cur, h1, h2, h3⟩
  · exact .inl h'
  · exact .inr ⟨g, cap, cur, h1, Nat.le_trans hb h2, h3⟩
end Go.Proofs.YtfgnekbkcmpdiaaGreatDoor.T
/- Contract of the reference's Equal on lists of strings. -/
namespace Go.Proofs.YtfgnekbkcmpdiaaGreatDoor.T
open Go.RowKit
set_option linter.unusedVariables false

/-- A slice value that reads as n strings. -/
def StrsIn (w : World) (A : Option Addr) (n : Nat) (f : Nat → ByteArray) : Prop :=
  0 < n → ∃ g off, A = some ⟨g, off, none⟩ ∧ g < w.heap.size ∧ ∀ i, i < n → w.cell? ⟨g, off + i, none⟩ = some (.string (f i))
theorem StrsIn.below {w w' : World} {A : Option Addr} {n : Nat} {f : Nat → ByteArray} (h : StrsIn w A n f) (hb : Below w.heap.size w w') : StrsIn w' A n f := by
  intro h0
  obtain ⟨g, off, e, hlt, hc⟩ := h h0
  exact ⟨g, off, e, Nat.lt_of_lt_of_le hlt hb.size, fun i hi => (hb.cell (p := ⟨g, off + i, none⟩) hlt).trans (hc i hi)⟩

/-! ### Equal on lists of strings -/
theorem bytes_eq_of {a b : ByteArray} (h : (a.toList == b.toList) = true) : a = b := by
  rw [ByteArray.toList_eq, ByteArray.toList_eq] at h
  obtain ⟨⟨x⟩⟩ := a
  obtain ⟨⟨y⟩⟩ := b
  simpa using h
theorem range_map_yes {n : Nat} {f h : Nat → ByteArray} (e : ∀ j, j < n → f j = h j) : decide ((List.range n).map f = (List.range n).map h) = true :=
  decide_eq_true (List.map_congr_left (fun j hj => e j (by simpa using hj)))
theorem range_map_no {n k : Nat} {f h : Nat → ByteArray} (hk : k < n) (e : ((f k).toList == (h k).toList) = false) : decide ((List.range n).map f = (List.range n).map h) = false := by
  refine decide_eq_false (fun e2 => ?_)
  have h1 : ((List.range n).map f)[k]? = ((List.range n).map h)[k]? := by rw [e2]
  have h2 : f k = h k := by simpa [hk] using h1
  rw [h2] at e
  simp at e
end Go.Proofs.YtfgnekbkcmpdiaaGreatDoor.T
/- Contracts of the reference's Word and Same. -/
namespace Go.Proofs.YtfgnekbkcmpdiaaGreatDoor.T
open Go.RowKit
set_option linter.unusedVariables false

theorem wordsB_at {s : ByteArray} {k j : Nat} (h : j < k) : (wordsB s k)[j]? = some (.string (wordB s j)) := by unfold wordsB; simp [h]
theorem all_reads {s : ByteArray} {w : World} {B n c : Nat} {A : Option Addr} (h : w.ownsRow B 9 1 (.slice A n c) n (wordsB s n)) : StrsIn w A n (wordB s) := by
  intro h0
  obtain ⟨g, c', hv, _, hlt⟩ := h.form h0
  injection hv with h1 h2 h3
  subst h1; subst h3
  exact ⟨g, 0, rfl, hlt, fun i hi => by rw [Nat.zero_add, h.cellAt _ (by omega)]; exact wordsB_at hi⟩
theorem sameL_eq {s t : ByteArray} (h0 : vErr s.data.toList = 0) (h1 : vErr t.data.toList = 0) :
    decide ((List.range (wcount s)).map (wordB s) = (List.range (wcount t)).map (wordB t)) = sameL s.data.toList t.data.toList := by
  have e : ∀ u : ByteArray, (List.range (wcount u)).map (wordB u) = (wordsL u.data.toList).map (fun l => (⟨l.toArray⟩ : ByteArray)) := by
    intro u; unfold wordsL wcount wordB; rw [List.map_map]; rfl
  unfold sameL
  rw [e, e, decide_eq_decide]
  constructor
  · intro h
    refine ⟨h0, h1, ?_⟩
    have h2 := congrArg (List.map (fun b : ByteArray => b.data.toList)) h
    simpa [List.map_map, Function.comp_def] using h2
  · intro h
    rw [h.2.2]

end Go.Proofs.YtfgnekbkcmpdiaaGreatDoor.T
/- Plain functions and lemmas on words that are put together: the result, its error, and where the words lie in it. Nothing here speaks of the program. -/
namespace Go.Proofs.YtfgnekbkcmpdiaaGreatDoor.T
set_option linter.unusedVariables false

def allLtr (l : List UInt8) : Bool := l.all fun c => ltr (c.toNat : Int)
def err1 (l : List UInt8) : Int := if l = [] then 7 else if allLtr l then 0 else 2
def joinF (f : Nat → List UInt8) : Nat → List UInt8
  | 0 => []
  | k + 1 => joinF f k ++ (if 0 < k then [32] else []) ++ f k
def jst (f : Nat → List UInt8) : Nat → Int
  | 0 => 0
  | k + 1 => if jst f k ≠ 0 then jst f k else err1 (f k)
def sums (f : Nat → List UInt8) : Nat → Nat
  | 0 => 0
  | k + 1 => sums f k + 1 + (f k).length
def joinVal (f : Nat → List UInt8) (n : Nat) : List UInt8 × Int :=
  if jst f n ≠ 0 then ([], jst f n) else if 120 < (joinF f n).length then ([], 3) else (joinF f n, 0)

theorem err1_val (l : List UInt8) : err1 l = 0 ∨ err1 l = 2 ∨ err1 l = 7 := by unfold err1; split <;> (try split) <;> simp
theorem err1_empty {l : List UInt8} (h : l = []) : err1 l = 7 := by unfold err1; rw [if_pos h]
theorem err1_bad {l : List UInt8} (h : l ≠ []) (h2 : allLtr l = false) : err1 l = 2 := by unfold err1; rw [if_neg h, h2]; rfl
theorem err1_ok {l : List UInt8} (h : l ≠ []) (h2 : allLtr l = true) : err1 l = 0 := by unfold err1; rw [if_neg h, h2]; rfl
theorem jst_step {f : Nat → List UInt8} {k : Nat} (h : jst f k = 0) : jst f (k + 1) = err1 (f k) := by rw [jst, if_neg (by simp [h])]
theorem jst_stay {f : Nat → List UInt8} {k n : Nat} (hk : k ≤ n) (h : jst f k ≠ 0) : jst f n = jst f k := by
  induction n with
  | zero => rw [show k = 0 from by omega]
  | succ n ih =>
    by_cases e : k = n + 1
    · rw [e]
    · have := ih (by omega)
      rw [jst, if_pos (by rw [this]; exact h), this]
theorem jst_stop {f : Nat → List UInt8} {k n : Nat} {x : Int} (hk : k < n) (h : jst f k = 0) (hx : err1 (f k) = x) (h0 : x ≠ 0) : jst f n = x := by
  have h1 : jst f (k + 1) = x := by rw [jst_step h, hx]
  rw [jst_stay (k := k + 1) (by omega) (by rw [h1]; exact h0), h1]
theorem jst_ok {f : Nat → List UInt8} {n : Nat} (h : jst f n = 0) : ∀ k, k < n → err1 (f k) = 0 := by
  induction n with
  | zero => intro k hk; omega
  | succ n ih =>
    have h0 : jst f n = 0 := by
      by_cases e : jst f n = 0
      · exact e
      · rw [jst, if_pos e] at h; exact h
    intro k hk
    by_cases e : k = n
    · subst e; rw [jst_step h0] at h; exact h
    · exact ih h0 k (by omega)
theorem err1_zero {l : List UInt8} (h : err1 l = 0) : l ≠ [] ∧ allLtr l = true := by
  unfold err1 at h
  split at h
  · cases h
  · rename_i h1
    split at h
    · rename_i h2; exact ⟨h1, h2⟩
    · cases h
theorem sums_mono (f : Nat → List UInt8) {k n : Nat} (h : k ≤ n) : sums f k ≤ sums f n := by
  induction n with
  | zero => rw [show k = 0 from by omega]; exact Nat.le_refl _
  | succ n ih =>
    by_cases e : k = n + 1
    · rw [e]; exact Nat.le_refl _
    · have := ih (by omega); rw [sums]; omega
theorem joinF_len (f : Nat → List UInt8) (n : Nat) : (joinF f n).length ≤ sums f n := by
  induction n with
  | zero => simp [joinF, sums]
  | succ n ih =>
    rw [joinF, sums]
    by_cases h : 0 < n
    · rw [if_pos h]; simp; omega
    · rw [if_neg h]; simp; omega
theorem joinF_succ_len (f : Nat → List UInt8) (k : Nat) : (joinF f (k + 1)).length = (joinF f k).length + (if 0 < k then 1 else 0) + (f k).length := by
  rw [joinF]
  by_cases h : 0 < k
  · rw [if_pos h, if_pos h]; simp; omega
  · rw [if_neg h, if_neg h]; simp
theorem joinF_mono (f : Nat → List UInt8) {k n : Nat} (h : k ≤ n) : (joinF f k).length ≤ (joinF f n).length := by
  induction n with
  | zero => rw [show k = 0 from by omega]; exact Nat.le_refl _
  | succ n ih =>
    by_cases e : k = n + 1
    · rw [e]; exact Nat.le_refl _
    · have := ih (by omega); rw [joinF_succ_len]; omega
theorem lib_join (f : Nat → List UInt8) (n : Nat) : Lib.join ((List.range n).map f) [32] = joinF f n := by
  have h : ∀ m, joinF f (m + 1) = f 0 ++ ((List.range m).map (fun i => 32 :: f (i + 1))).flatten := by
    intro m
    induction m with
    | zero => simp [joinF]
    | succ m ih => rw [joinF, if_pos (by omega), ih, List.range_succ]; simp
  cases n with
  | zero => rfl
  | succ m =>
    rw [h m, List.range_succ_eq_map, List.map_cons, Lib.join_cons]
    unfold Lib.joinTail
    simp [List.map_map, Function.comp_def]

/-! ### Where the words lie -/
def startAt (f : Nat → List UInt8) (k : Nat) : Nat := (joinF f k).length + (if 0 < k then 1 else 0)
def spansJ (f : Nat → List UInt8) (k : Nat) : List (Nat × Nat) := (List.range k).map fun i => (startAt f i, (joinF f (i + 1)).length)
theorem startAt_end (f : Nat → List UInt8) (k : Nat) : startAt f k + (f k).length = (joinF f (k + 1)).length := by unfold startAt; rw [joinF_succ_len]
theorem joinF_pre (f : Nat → List UInt8) {k n : Nat} (h : k ≤ n) : ∃ r, joinF f n = joinF f k ++ r ∧ (k < n → 0 < k → ∃ r', r = 32 :: r') := by
  induction n with
  | zero => rw [show k = 0 from by omega]; exact ⟨[], by simp, fun h => by omega⟩
  | succ n ih =>
    by_cases e : k = n + 1
    · subst e; exact ⟨[], by simp, fun h => by omega⟩
    · obtain ⟨r, hr, hr2⟩ := ih (by omega)
      refine ⟨r ++ ((if 0 < n then [32] else []) ++ f n), by rw [joinF, hr]; simp, fun _ hk => ?_⟩
      by_cases e2 : k = n
      · subst e2
        have : r = [] := by simpa using hr
        subst this
        rw [if_pos hk]; exact ⟨f k, rfl⟩
      · obtain ⟨r', hr'⟩ := hr2 (by omega) hk
        rw [hr']; exact ⟨_, rfl⟩
theorem at_word (f : Nat → List UInt8) {k n i : Nat} (h : k < n) (hi : i < (f k).length) : (joinF f n)[startAt f k + i]? = (f k)[i]? := by
  obtain ⟨r, hr, _⟩ := joinF_pre f (show k + 1 ≤ n from h)
  rw [hr, List.getElem?_append_left (by rw [← startAt_end]; omega), joinF]
  unfold startAt
  by_cases h0 : 0 < k
  · rw [if_pos h0, if_pos h0, List.getElem?_append_right (by simp)]
    congr 1
    simp
  · rw [if_neg h0, if_neg h0, List.getElem?_append_right (by simp)]
    congr 1
    simp
theorem at_gap (f : Nat → List UInt8) {k n : Nat} (h0 : 0 < k) (h : k ≤ n) : fAt (joinF f n) (joinF f k).length = false := by
  by_cases e : k = n
  · subst e; unfold fAt; rw [List.getElem?_eq_none (Nat.le_refl _)]
  · obtain ⟨r, hr, h2⟩ := joinF_pre f h
    obtain ⟨r', hr'⟩ := h2 (by omega) h0
    unfold fAt
    rw [hr, hr', List.getElem?_append_right (Nat.le_refl _), Nat.sub_self]
    rfl
theorem at_letter (f : Nat → List UInt8) {k n i : Nat} (h : k < n) (hi : i < (f k).length) (ha : allLtr (f k) = true) : fAt (joinF f n) (startAt f k + i) = true := by
  unfold fAt
  rw [at_word f h hi, List.getElem?_eq_getElem hi]
  unfold allLtr at ha
  exact List.all_eq_true.1 ha _ (List.getElem_mem hi)
theorem wst_run (F : Nat → Bool) {a f0 : Nat} {L : List (Nat × Nat)} (h : wst F a = (L, f0)) (m : Nat) (hm : ∀ i, i < m → F (a + i) = true) : wst F (a + m) = (L, f0) := by
  induction m with
  | zero => exact h
  | succ m ih =>
    have h1 := ih (fun i hi => hm i (by omega))
    exact wst_yes (k := a + m) h1 (hm m (by omega))
theorem spansJ_succ (f : Nat → List UInt8) (k : Nat) : spansJ f (k + 1) = spansJ f k ++ [(startAt f k, (joinF f (k + 1)).length)] := by simp [spansJ, List.range_succ]
theorem wst_words (f : Nat → List UInt8) (n : Nat) (hok : ∀ k, k < n → err1 (f k) = 0) (k : Nat) (hk : k ≤ n) : wst (fAt (joinF f n)) (startAt f k) = (spansJ f k, startAt f k) := by
  induction k with
  | zero => rfl
  | succ k ih =>
    have h1 := ih (by omega)
    obtain ⟨hne, ha⟩ := err1_zero (hok k (by omega))
    have h2 := wst_run _ h1 (f k).length (fun i hi => at_letter f (by omega) hi ha)
    rw [startAt_end] at h2
    have hlen : 0 < (f k).length := List.length_pos_iff.2 hne
    have h3 := wst_cut h2 (at_gap f (by omega) hk) (by rw [← startAt_end]; omega)
    rw [← spansJ_succ] at h3
    unfold startAt
    rw [if_pos (by omega)]
    exact h3
theorem joinF_okL (f : Nat → List UInt8) (n : Nat) (hok : ∀ k, k < n → err1 (f k) = 0) : okL (joinF f n) = true := by
  induction n with
  | zero => rfl
  | succ n ih =>
    have h1 := ih (fun k hk => hok k (by omega))
    obtain ⟨_, ha⟩ := err1_zero (hok n (by omega))
    have h2 : okL (f n) = true := by
      unfold okL; unfold allLtr at ha
      rw [List.all_eq_true] at ha ⊢
      exact fun c hc => ltr_inl (ha c hc)
    unfold okL at h1 h2 ⊢
    rw [joinF, List.all_append, List.all_append, h1, h2]
    by_cases e : 0 < n
    · rw [if_pos e]; rfl
    · rw [if_neg e]; rfl
theorem spans_joined (f : Nat → List UInt8) (n : Nat) (hok : ∀ k, k < n → err1 (f k) = 0) (hlen : (joinF f n).length ≤ 120) : vErr (joinF f n) = 0 ∧ spansOf (joinF f n) = spansJ f n := by
  have hv : vErr (joinF f n) = 0 := by unfold vErr; rw [if_neg (by omega), joinF_okL f n hok]; rfl
  refine ⟨hv, ?_⟩
  rw [spansOf_ok hv]
  cases n with
  | zero => rfl
  | succ m =>
    have := wst_words f (m + 1) hok (m + 1) (Nat.le_refl _)
    rw [show startAt f (m + 1) = (joinF f (m + 1)).length + 1 from by unfold startAt; rw [if_pos (by omega)]] at this
    rw [this]
theorem spansJ_len (f : Nat → List UInt8) (n : Nat) : (spansJ f n).length = n := by simp [spansJ]
theorem spansJ_at (f : Nat → List UInt8) {n k : Nat} (h : k < n) : sp (spansJ f n) k = (startAt f k, (joinF f (k + 1)).length) := by
  unfold sp spansJ; simp [h]
theorem cut_word (f : Nat → List UInt8) {n k : Nat} (h : k < n) : List.take ((joinF f (k + 1)).length - startAt f k) (List.drop (startAt f k) (joinF f n)) = f k := by
  rw [show (joinF f (k + 1)).length - startAt f k = (f k).length from by rw [← startAt_end]; omega]
  apply List.ext_getElem?
  intro i
  by_cases hi : i < (f k).length
  · rw [List.getElem?_take_of_lt hi, List.getElem?_drop, at_word f h hi]
  · rw [List.getElem?_eq_none (by rw [List.length_take]; omega), List.getElem?_eq_none (by omega)]
end Go.Proofs.YtfgnekbkcmpdiaaGreatDoor.T
/- Contracts of Sum and slices.Clone on lists of strings. -/
namespace Go.Proofs.YtfgnekbkcmpdiaaGreatDoor.T
open Go.RowKit
set_option linter.unusedVariables false

theorem empty_of {x : ByteArray} (h : x.size = 0) : x.data.toList = [] := by
  have : x.data.toList.length = 0 := h
  exact List.eq_nil_of_length_eq_zero this
theorem nonempty_of {x : ByteArray} (h : x.size ≠ 0) : x.data.toList ≠ [] := by
  intro e
  have : x.data.toList.length = 0 := by rw [e]; rfl
  exact h this
/-- A slice value that reads as n strings. -/
def StrArg (w : World) (A : Option Addr) (n : Nat) (f : Nat → ByteArray) : Prop :=
  (∀ i, i < n → (f i).size ≤ 140737488355328) ∧ (0 < n → ∃ b off, A = some ⟨b, off, none⟩ ∧ b < w.heap.size ∧ ∀ i, i < n → w.cell? ⟨b, off + i, none⟩ = some (.string (f i)))
theorem StrArg.below {w w' : World} {A : Option Addr} {n : Nat} {f : Nat → ByteArray} (h : StrArg w A n f) (hb : Below w.heap.size w w') : StrArg w' A n f := by
  refine ⟨h.1, fun h0 => ?_⟩
  obtain ⟨b, off, e, hlt, hc⟩ := h.2 h0
  exact ⟨b, off, e, Nat.lt_of_lt_of_le hlt hb.size, fun i hi => (hb.cell (p := ⟨b, off + i, none⟩) hlt).trans (hc i hi)⟩
def lists (f : Nat → ByteArray) (i : Nat) : List UInt8 := (f i).data.toList

def SumPost (lim : Int) (S : Nat) (w : World) (e : Ending) (w' : World) : Prop := ∃ T : Nat, e = .returned (.int .i64 (T : Int)) ∧ ((T : Int) ≤ lim → T = S) ∧ w = w'
theorem own_strs {w : World} {base n : Nat} {v : Value} {f : Nat → ByteArray} (h : w.ownsRow base 9 1 v n ((List.range n).map (fun i => Value.string (f i)))) (hs : ∀ i, i < n → (f i).size ≤ 140737488355328) :
    ∃ A c, v = .slice A n c ∧ n ≤ c ∧ StrArg w A n f := by
  rcases h.2 with ⟨rfl, rfl⟩ | ⟨g, c, cur, rfl, hb, hg, hnc, _⟩
  · exact ⟨none, 0, rfl, Nat.le_refl _, hs, fun h0 => by omega⟩
  · refine ⟨_, c, rfl, hnc, hs, fun h0 => ?_⟩
    obtain ⟨g', c', hv, _, hlt⟩ := h.form h0
    injection hv with h1 h2 h3
    injection h1 with h1
    injection h1 with h1
    subst h1
    exact ⟨g, 0, rfl, hlt, fun i hi => by rw [Nat.zero_add, h.cellAt _ (by omega)]; simp [hi]⟩
def ClonePost (n : Nat) (f : Nat → ByteArray) (w : World) (e : Ending) (w' : World) : Prop := ∃ A c, e = .returned (.slice A n c) ∧ n ≤ c ∧ StrArg w' A n f ∧ Below w.heap.size w w'
end Go.Proofs.YtfgnekbkcmpdiaaGreatDoor.T
/- Contract of onlyLetters. -/
namespace Go.Proofs.YtfgnekbkcmpdiaaGreatDoor.T
open Go.RowKit
set_option linter.unusedVariables false

theorem all_step {s : ByteArray} {k : Nat} (hk : k < s.size) (h : allLtr (s.data.toList.take k) = true) (hf : ltr (s[k].toNat : Int) = true) : allLtr (s.data.toList.take (k + 1)) = true := by
  unfold allLtr at *
  rw [List.take_succ_eq_append_getElem (by rw [sizeB]; exact hk), List.all_append, h]
  simp [← getB s k hk, hf]
theorem all_no {s : ByteArray} {k : Nat} (hk : k < s.size) (hf : ltr (s[k].toNat : Int) = false) : allLtr s.data.toList = false := by
  unfold allLtr
  rw [List.all_eq_false]
  exact ⟨s.data.toList[k]'(by rw [sizeB]; exact hk), List.getElem_mem _, by rw [← getB s k hk]; simp [hf]⟩
theorem all_end {s : ByteArray} {k : Nat} (hk : s.size ≤ k) (h : allLtr (s.data.toList.take k) = true) : allLtr s.data.toList = true := by
  rw [List.take_of_length_le (by rw [sizeB]; exact hk)] at h; exact h
set_option maxHeartbeats 400000 in
theorem only_any (s : ByteArray) (w : World) (hs : s.size ≤ maxLen) :
    Calls Tryz.prog 90 #[.string s] w fun e w' => e = .returned (.bool (allLtr s.data.toList)) ∧ w = w' := by
  unfold maxLen at hs
  go_enter Tryz.func90, Tryz.ntmps90
  go_wp2
  go_loop [3] (fun i => ∃ k : Nat, k ≤ s.size ∧ i = .int .i64 k ∧ allLtr (s.data.toList.take k) = true) (fun i => s.size - (intOf i).toNat)
  case atStart => exact ⟨0, Nat.zero_le _, rfl, rfl⟩
  case round =>
    obtain ⟨k, hk, rfl, hok⟩ := hrel
    have HOK := Lib.hid hok
    clear hok
    by_cases hlt : k < s.size
    · have hb : (s[k].toNat : Int) ≤ 255 := by have := s[k].toNat_lt; omega
      cases hi : ltr (s[k].toNat : Int) with
      | true =>
        have HI := Lib.hid hi
        clear hi
        go_wp2_with (go_at_call 105; refine (letter_any _ _ (by omega) (by omega)).mono ?_; rintro e w' ⟨rfl, rfl⟩; rw [HI.out])
        go_round
        case rel => exact ⟨k + 1, by omega, by go_num, all_step hlt HOK.out HI.out⟩
        case measure => simp [intOf]; omega
      | false =>
        have HI := Lib.hid hi
        have HE := Lib.hid (all_no hlt hi)
        clear hi
        go_wp2_with (go_at_call 105; refine (letter_any _ _ (by omega) (by omega)).mono ?_; rintro e w' ⟨rfl, rfl⟩; rw [HI.out])
        go_ret
        exact ⟨ret_bool HE.out.symm, rfl⟩
    · have HE := Lib.hid (all_end (by omega) HOK.out)
      go_wp2
      go_ret
      exact ⟨ret_bool HE.out.symm, rfl⟩

end Go.Proofs.YtfgnekbkcmpdiaaGreatDoor.T
/- Contract of text.Join. -/
namespace Go.Proofs.YtfgnekbkcmpdiaaGreatDoor.T
open Go.RowKit
set_option linter.unusedVariables false

def JoinPost (g : Nat → List UInt8) (n : Nat) (w : World) (e : Ending) (w' : World) : Prop :=
  e = .returned (.tuple #[.string ⟨(joinVal g n).1.toArray⟩, .int .i64 (joinVal g n).2]) ∧ Below w.heap.size w w'
theorem join_post {g : Nat → List UInt8} {n : Nat} {w w' : World} {x : List UInt8} {i : Int} {b : ByteArray} (h : joinVal g n = (x, i)) (hx : b = ⟨x.toArray⟩) (hb : Below w.heap.size w w') : JoinPost g n w (.returned (.tuple #[.string b, .int .i64 i])) w' := by
  subst hx; exact ⟨by rw [h], hb⟩
theorem joinVal_err {g : Nat → List UInt8} {n : Nat} {x : Int} (h : jst g n = x) (h0 : x ≠ 0) : joinVal g n = ([], x) := by subst h; unfold joinVal; rw [if_pos h0]
theorem joinVal_big {g : Nat → List UInt8} {n : Nat} (h : jst g n = 0) (h1 : 120 < (joinF g n).length) : joinVal g n = ([], 3) := by unfold joinVal; rw [if_neg (by simp [h]), if_pos h1]
theorem joinVal_ok {g : Nat → List UInt8} {n : Nat} (h : jst g n = 0) (h1 : ¬ 120 < (joinF g n).length) : joinVal g n = (joinF g n, 0) := by unfold joinVal; rw [if_neg (by simp [h]), if_neg h1]
theorem jn_any (n c b off : Nat) (f : Nat → ByteArray) (w : World) (hlt : b < w.heap.size) (hn : n ≤ 60) (hc : n ≤ c) (hcc : ∀ i, i < n → w.cell? ⟨b, off + i, none⟩ = some (.string (f i))) (hl : (joinF (lists f) n).length ≤ 500) :
    Calls Tryz.prog 65 #[.slice (some ⟨b, off, none⟩) n c, .string ⟨#[32]⟩] w fun e w' => e = .returned (.string ⟨(joinF (lists f) n).toArray⟩) ∧ Below w.heap.size w w' := by
  have e1 : ((List.range n).map f).length = n := by simp
  have e2 : Lib.join (((List.range n).map f).map (·.data.toList)) (⟨#[32]⟩ : ByteArray).data.toList = joinF (lists f) n := by
    rw [← lib_join, List.map_map]; rfl
  have := Tryz.strings_Join b off c ((List.range n).map f) ⟨#[32]⟩ w (fun j x hj => by
    have hj' : j < n := by have := (List.getElem?_eq_some_iff.1 hj).1; simpa using this
    rw [hcc j hj']
    simpa [hj'] using hj) hlt (by rw [e1]; omega) (by rw [e1]; exact hc) (by rw [e2]; omega)
  rw [e1, e2] at this
  exact this

set_option maxHeartbeats 1000000 in
theorem tjoin_any (n c : Nat) (f : Nat → ByteArray) (A : Option Addr) (w : World) (hn : n ≤ 60) (hnc : n ≤ c) (hA : StrArg w A n f) (hl : (joinF (lists f) n).length ≤ 500) :
    Calls Tryz.prog 71 #[.slice A n c] w (JoinPost (lists f) n w) := by
  by_cases h0 : 0 < n
  · obtain ⟨b, off, rfl, hlt0, hcc⟩ := hA.2 h0
    have HC := Lib.hid hcc
    have HA := Lib.hid hA.1
    clear hA hcc
    go_enter Tryz.func71, Tryz.ntmps71
    go_wp2
    go_loopw [4, 9] (fun t i wr => ∃ k T : Nat, k ≤ n ∧ i = .int .i64 k ∧ t = .int .i64 T ∧ T = (joinF (lists f) k).length ∧ T ≤ 500 ∧ jst (lists f) k = 0 ∧ wr = w) (fun _ i _ => n - (intOf i).toNat)
    case atStart => exact ⟨0, 0, Nat.zero_le _, rfl, rfl, rfl, by omega, rfl, rfl⟩
    case round =>
      obtain ⟨k, T, hk, rfl, rfl, hT, hTb, hj, rfl⟩ := hrel
      have HT := Lib.hid hT
      have HJ := Lib.hid hj
      clear hT hj
      by_cases hlt : k < n
      · have hc := HC.out k hlt
        have hz := HA.out k hlt
        have hzm : (f k).size ≤ maxLen := by unfold maxLen; omega
        obtain ⟨x, hx⟩ : ∃ x, x = f k := ⟨_, rfl⟩
        rw [← hx] at hc hz hzm
        have HX := Lib.hid hx
        clear hx
        by_cases hx0 : x.size = 0
        · have HE := Lib.hid (joinVal_err (jst_stop hlt HJ.out (err1_empty (show lists f k = [] by unfold lists; rw [← HX.out]; exact empty_of hx0)) (by omega)) (by omega))
          have hx1 : x.toList = [] := by rw [ByteArray.toList_eq]; exact empty_of hx0
          have hx2 : x.toList.isEmpty = true := by rw [hx1]; rfl
          clear hx0 hx1
          go_wp2
          go_ret2
          exact join_post HE.out rfl (Below.refl _ _)
        · have hx2 : x.toList.isEmpty = false := by
            rw [ByteArray.toList_eq]
            cases e : x.data.toList with
            | nil => exact absurd e (nonempty_of hx0)
            | cons => rfl
          have HX0 := Lib.hid (nonempty_of hx0)
          clear hx0
          cases hal : allLtr x.data.toList with
          | false =>
            have HE := Lib.hid (joinVal_err (jst_stop hlt HJ.out (err1_bad (show lists f k ≠ [] by unfold lists; rw [← HX.out]; exact HX0.out) (by unfold lists; rw [← HX.out]; exact hal)) (by omega)) (by omega))
            have HAL := Lib.hid hal
            clear hal
            go_wp2_with (go_at_call 90; refine (only_any _ _ hzm).mono ?_; rintro e w' ⟨rfl, rfl⟩; rw [HAL.out])
            go_ret2
            exact join_post HE.out rfl (Below.refl _ _)
          | true =>
            have HJ2 := Lib.hid (show jst (lists f) (k + 1) = 0 by rw [jst_step HJ.out]; exact err1_ok (by unfold lists; rw [← HX.out]; exact HX0.out) (by unfold lists; rw [← HX.out]; exact hal))
            have HAL := Lib.hid hal
            have hlen := joinF_succ_len (lists f) k
            rw [← HT.out, show (lists f k).length = x.size by unfold lists; rw [← HX.out]; rfl] at hlen
            have hmono := joinF_mono (lists f) (show k + 1 ≤ n from hlt)
            clear hal
            by_cases hk0 : 0 < k
            · rw [if_pos hk0] at hlen
              have HLEN := Lib.hid hlen
              have hb5 : T + 1 + x.size ≤ 500 := by omega
              clear hlen hmono
              go_wp2_with (go_at_call 90; refine (only_any _ _ hzm).mono ?_; rintro e w' ⟨rfl, rfl⟩; rw [HAL.out])
              go_roundw
              case rel => exact ⟨k + 1, T + 1 + x.size, by omega, by go_num, by go_num, HLEN.out.symm, hb5, HJ2.out, by trivial⟩
              case measure => simp [intOf]; omega
            · rw [if_neg hk0] at hlen
              have HLEN := Lib.hid hlen
              have hb5 : T + x.size ≤ 500 := by omega
              clear hlen hmono
              go_wp2_with (go_at_call 90; refine (only_any _ _ hzm).mono ?_; rintro e w' ⟨rfl, rfl⟩; rw [HAL.out])
              go_roundw
              case rel => exact ⟨k + 1, T + x.size, by omega, by go_num, by go_num, by have := HLEN.out; omega, hb5, HJ2.out, by trivial⟩
              case measure => simp [intOf]; omega
      · obtain rfl : k = n := by omega
        by_cases hbig : 120 < T
        · have HE := Lib.hid (joinVal_big HJ.out (by rw [← HT.out]; exact hbig))
          go_wp2
          go_ret2
          exact join_post HE.out rfl (Below.refl _ _)
        · have HE := Lib.hid (joinVal_ok HJ.out (by rw [← HT.out]; exact hbig))
          go_wp2_with fail
          refine (jn_any k c b off f _ hlt0 hn hnc HC.out hl).mono ?_
          rintro e w2 ⟨rfl, hb2⟩
          go_wp2_with fail
          go_ret2
          exact join_post HE.out rfl hb2
  · obtain rfl : n = 0 := by omega
    go_enter Tryz.func71, Tryz.ntmps71
    go_wp2
    refine wp_loop_rounds 1 ?_
    rw [rounds_succ]
    go_wp2_with fail
    refine (Tryz.strings_Join_none A c _ _).mono ?_
    rintro e w' ⟨rfl, rfl⟩
    go_wp2_with fail
    go_ret2
    exact join_post (x := []) (i := 0) rfl rfl (Below.refl _ _)
end Go.Proofs.YtfgnekbkcmpdiaaGreatDoor.T
