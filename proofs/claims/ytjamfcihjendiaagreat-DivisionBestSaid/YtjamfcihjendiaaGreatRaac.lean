/- Several texts in one: OT. -/
import Derived.WalkKit
import Derived.Shelf.Small.Strs
import Derived.Deep.AppendLies
import Derived.Test.YtjamfcihjendiaaGreatRows
import Derived.Test.YtjamfcihjendiaaGreatRaab
import Derived.WalkSpells
import Derived.WalkLawsBesides
import Derived.Lib.Hide
import Derived.Outline
import Derived.Deep.QuietTactic
import Derived.BigQuiet
import Derived.Laws.StructEq
import Derived.Laws.IdiomStrings
import Derived.Deep.RegionHeld3
import Derived.Deep.DeepFit
import Derived.Lib.Join
import Derived.Shelf.Strings.OnBuilder
namespace Go.Proofs.YtjamfcihjendiaaGreat.T
set_option linter.unusedVariables false

def punL : List Int := [32, 46, 44, 59, 58, 33, 63, 34, 45, 91, 93, 60, 62, 123, 125]
def punB : List UInt8 := [32, 46, 44, 59, 58, 33, 63, 34, 45, 91, 93, 60, 62, 123, 125]
def ltr (n : Int) : Bool := decide (32 ≤ n) && decide (n ≤ 126) && !punL.contains n
def inl (n : Int) : Bool := decide (32 ≤ n) && decide (n ≤ 126)
def okL (l : List UInt8) : Bool := l.all fun c => inl (c.toNat : Int)
def vErr (l : List UInt8) : Int := if 120 < l.length then 3 else if okL l then 0 else 2

theorem ret_int {a b : Int} {k : IntKind} (h : b = a) : Ending.returned (.int k a) = Ending.returned (.int k b) := by rw [h]
theorem ret_bool {a b : Bool} (h : a = b) : Ending.returned (.bool a) = Ending.returned (.bool b) := by rw [h]
theorem getB (s : ByteArray) (k : Nat) (h : k < s.size) : s[k] = s.data.toList[k]'(by simpa using h) := rfl
theorem sizeB (s : ByteArray) : s.data.toList.length = s.size := rfl
theorem idx_all : ∀ m : Fin 256, decide (Lib.indexByte punB m.val.toUInt8 < 0) = !punL.contains (m.val : Int) := by decide +kernel
theorem idx_pun (n : Int) (h0 : 0 ≤ n) (h1 : n ≤ 255) : decide (Lib.indexByte punB n.toNat.toUInt8 < 0) = !punL.contains n := by
  have h := idx_all ⟨n.toNat, by omega⟩
  simp only [Int.toNat_of_nonneg h0] at h
  exact h
theorem ltr_inl {n : Int} (h : ltr n = true) : inl n = true := by
  unfold ltr at h; unfold inl; simp at h ⊢; exact h.1
theorem ltr_of {n : Int} (h0 : 0 ≤ n) (h1 : n ≤ 255) (h : inl n = true) : decide (Lib.indexByte punB n.toNat.toUInt8 < 0) = ltr n := by
  rw [idx_pun n h0 h1]; unfold ltr; unfold inl at h; simp at h ⊢; simp [h.1, h.2]
theorem ltr_not {n : Int} (h : inl n = false) : ltr n = false := by
  cases e : ltr n with
  | false => rfl
  | true => rw [ltr_inl e] at h; cases h

def fAt (l : List UInt8) (i : Nat) : Bool := match l[i]? with
  | some c => ltr (c.toNat : Int)
  | none => false
def wst (F : Nat → Bool) : Nat → List (Nat × Nat) × Nat
  | 0 => ([], 0)
  | k + 1 => if F k then wst F k else (if (wst F k).2 < k then (wst F k).1 ++ [((wst F k).2, k)] else (wst F k).1, k + 1)
def spansOf (l : List UInt8) : List (Nat × Nat) := if vErr l = 0 then (wst (fAt l) (l.length + 1)).1 else []
def sp (L : List (Nat × Nat)) (i : Nat) : Nat × Nat := L[i]?.getD (0, 0)
theorem pun_at : ∀ (k : Nat) (_ : k < 15) (h : k < (⟨#[32, 46, 44, 59, 58, 33, 63, 34, 45, 91, 93, 60, 62, 123, 125]⟩ : ByteArray).size),
    punL[k]? = some (((⟨#[32, 46, 44, 59, 58, 33, 63, 34, 45, 91, 93, 60, 62, 123, 125]⟩ : ByteArray)[k]'h).toNat : Int) := by
  intro k hk h
  match k, hk with
  | 0, _ => rfl
  | 1, _ => rfl
  | 2, _ => rfl
  | 3, _ => rfl
  | 4, _ => rfl
  | 5, _ => rfl
  | 6, _ => rfl
  | 7, _ => rfl
  | 8, _ => rfl
  | 9, _ => rfl
  | 10, _ => rfl
  | 11, _ => rfl
  | 12, _ => rfl
  | 13, _ => rfl
  | 14, _ => rfl
theorem ltr_hit {n : Int} {k : Nat} (h : punL[k]? = some n) : ltr n = false := by
  have : punL.contains n = true := by simpa using List.mem_of_getElem? h
  unfold ltr; rw [this]; simp
theorem ltr_miss {n : Int} (h1 : 32 ≤ n) (h2 : n ≤ 126) (h : ∀ j, j < 15 → punL[j]? ≠ some n) : ltr n = true := by
  have : punL.contains n = false := by
    cases e : punL.contains n with
    | false => rfl
    | true =>
      obtain ⟨j, hj⟩ := List.getElem?_of_mem (show n ∈ punL by simpa using e)
      have hlt : j < 15 := (List.getElem?_eq_some_iff.1 hj).1
      exact absurd hj (h j hlt)
  unfold ltr; rw [this]; simp [h1, h2]
end Go.Proofs.YtjamfcihjendiaaGreat.T
namespace Go.Proofs.YtjamfcihjendiaaGreat.T
open Go.RowKit
set_option linter.unusedVariables false

set_option maxHeartbeats 400000 in
theorem belongs_any (n : Int) (w : World) (h0 : 0 ≤ n) (h1 : n ≤ 255) :
    Calls Tryz.prog 116 #[.int .u8 n] w fun e w' => e = .returned (.bool (inl n)) ∧ w = w' := by
  by_cases h2 : 32 ≤ n
  · by_cases h3 : n ≤ 126
    · have : inl n = true := by simp [inl, h2, h3]
      rw [this]
      go_enter Tryz.func116, Tryz.ntmps116
      go_wp2
      go_ret
      exact ⟨rfl, rfl⟩
    · have : inl n = false := by simp [inl, h2, h3]
      rw [this]
      go_enter Tryz.func116, Tryz.ntmps116
      go_wp2
      go_ret
      exact ⟨rfl, rfl⟩
  · have : inl n = false := by simp [inl, h2]
    rw [this]
    go_enter Tryz.func116, Tryz.ntmps116
    go_wp2
    go_ret
    exact ⟨rfl, rfl⟩
theorem belongs_yes (n : Int) (w : World) (h0 : 0 ≤ n) (h1 : n ≤ 255) (h : inl n = true) :
    Calls Tryz.prog 116 #[.int .u8 n] w fun e w' => e = .returned (.bool true) ∧ w = w' := h ▸ belongs_any n w h0 h1
theorem belongs_no (n : Int) (w : World) (h0 : 0 ≤ n) (h1 : n ≤ 255) (h : inl n = false) :
    Calls Tryz.prog 116 #[.int .u8 n] w fun e w' => e = .returned (.bool false) ∧ w = w' := h ▸ belongs_any n w h0 h1

set_option maxHeartbeats 400000 in
theorem letter_any (n : Int) (w : World) (h0 : 0 ≤ n) (h1 : n ≤ 255) :
    Calls Tryz.prog 107 #[.int .u8 n] w fun e w' => e = .returned (.bool (ltr n)) ∧ w = w' := by
  cases hi : inl n with
  | false =>
    rw [ltr_not hi]
    have HI := Lib.hid hi
    clear hi
    go_enter Tryz.func107, Tryz.ntmps107
    go_wp2_with (go_at_call 116; refine (belongs_no _ _ (by omega) (by omega) HI.out).mono ?_; rintro e w' ⟨rfl, rfl⟩)
    go_ret
    exact ⟨rfl, rfl⟩
  | true =>
    have HL := Lib.hid (ltr_of h0 h1 hi)
    have HI := Lib.hid hi
    clear hi
    go_enter Tryz.func107, Tryz.ntmps107
    go_wp2_with (first | (go_at_call 116; refine (belongs_yes _ _ (by omega) (by omega) HI.out).mono ?_; rintro e w' ⟨rfl, rfl⟩) | (go_at_call 117; refine (Tryz.strings_IndexByte _ _ _).mono ?_; rintro e w' ⟨rfl, rfl⟩))
    go_ret
    exact ⟨ret_bool HL.out, rfl⟩
end Go.Proofs.YtjamfcihjendiaaGreat.T
namespace Go.Proofs.YtjamfcihjendiaaGreat.T
open Go.RowKit
set_option linter.unusedVariables false

theorem own_slice {w : World} {B : Nat} {t : TypeId} {z : Nat} {v : Value} {n : Nat} {xs : List Value} (h : w.ownsRow B t z v n xs) : ∃ A c, v = .slice A n c := by
  rcases h.2 with ⟨rfl, rfl⟩ | ⟨g, c, cur, rfl, _⟩
  · exact ⟨_, _, rfl⟩
  · exact ⟨_, _, rfl⟩
end Go.Proofs.YtjamfcihjendiaaGreat.T
namespace Go.Proofs.YtjamfcihjendiaaGreat.T
open Go.RowKit
set_option linter.unusedVariables false

def SpansIn (w : World) (A : Option Addr) (L : List (Nat × Nat)) : Prop :=
  0 < L.length → ∃ g, A = some ⟨g, 0, none⟩ ∧ g < w.heap.size ∧ ∀ i, i < L.length → w.cell? ⟨g, i * 2, none⟩ = some (.int .i64 ((sp L i).1 : Int)) ∧ w.cell? ⟨g, i * 2 + 1, none⟩ = some (.int .i64 ((sp L i).2 : Int))
theorem SpansIn.below {w w' : World} {A : Option Addr} {L : List (Nat × Nat)} (h : SpansIn w A L) (hb : Below w.heap.size w w') : SpansIn w' A L := by
  intro h0
  obtain ⟨g, e, hlt, hc⟩ := h h0
  exact ⟨g, e, Nat.lt_of_lt_of_le hlt hb.size, fun i hi => ⟨(hb.cell (p := ⟨g, i * 2, none⟩) hlt).trans (hc i hi).1, (hb.cell (p := ⟨g, i * 2 + 1, none⟩) hlt).trans (hc i hi).2⟩⟩

end Go.Proofs.YtjamfcihjendiaaGreat.T
namespace Go.Proofs.YtjamfcihjendiaaGreat.T
open Go.RowKit
set_option linter.unusedVariables false

def foldB (c : UInt8) : UInt8 := if 65 ≤ c.toNat ∧ c.toNat ≤ 90 then c + 32 else c
def foldL (l : List UInt8) : List UInt8 := l.map foldB
def bt (l : List UInt8) (j : Nat) : Int := ((l[j]?.getD 0).toNat : Int)
def fb (n : Int) : Int := if 65 ≤ n ∧ n ≤ 90 then n + 32 else n
def mixAt (l : List UInt8) (k j : Nat) : Int := if j < k then fb (bt l j) else bt l j
theorem bt_bd (l : List UInt8) (j : Nat) : 0 ≤ bt l j ∧ bt l j ≤ 255 := by
  unfold bt; have := (l[j]?.getD 0).toNat_lt; omega
theorem foldB_int (c : UInt8) : ((foldB c).toNat : Int) = fb (c.toNat : Int) := by
  unfold foldB fb
  have := c.toNat_lt
  by_cases h : 65 ≤ c.toNat ∧ c.toNat ≤ 90
  · rw [if_pos h, if_pos (by omega), UInt8.toNat_add]
    have : (32 : UInt8).toNat = 32 := rfl
    omega
  · rw [if_neg h, if_neg (by omega)]
theorem foldL_len (l : List UInt8) : (foldL l).length = l.length := by simp [foldL]
theorem mix_end (l : List UInt8) (j : Nat) (h : j < l.length) : mixAt l l.length j = (((foldL l)[j]'(by rw [foldL_len]; exact h)).toNat : Int) := by
  unfold mixAt foldL; rw [if_pos h, List.getElem_map, foldB_int]; unfold bt; rw [List.getElem?_eq_getElem h]; rfl
theorem mix_zero (l : List UInt8) (j : Nat) : mixAt l 0 j = bt l j := by unfold mixAt; rw [if_neg (by omega)]
theorem mix_same (l : List UInt8) (k j : Nat) (h : j ≠ k) : mixAt l (k + 1) j = mixAt l k j := by
  unfold mixAt
  by_cases e : j < k
  · rw [if_pos e, if_pos (by omega)]
  · rw [if_neg e, if_neg (by omega)]
theorem mix_at (l : List UInt8) (k : Nat) : mixAt l k k = bt l k := by unfold mixAt; rw [if_neg (by omega)]
theorem mix_new (l : List UInt8) (k : Nat) : mixAt l (k + 1) k = fb (bt l k) := by unfold mixAt; rw [if_pos (by omega)]

def FRel (l : List UInt8) (B : Nat) (w : World) (k : Nat) (wr : World) : Prop :=
  Below B w wr ∧ B < wr.heap.size ∧ (∀ j, j < l.length → wr.cell? ⟨B, j, none⟩ = some (.int .u8 (mixAt l k j))) ∧ ∀ j, j < l.length → wr.frozen? ⟨B, j, none⟩ = false
theorem frel_start (s : ByteArray) (w : World) (cap : Nat) : FRel s.data.toList w.heap.size w 0 (w.drew.alloc (.cells (bytesRow s cap) 5 ((bytesRow s cap).size, (bytesRow s cap).size + 1))) := by
  refine ⟨(Below.drew (Below.refl _ _)).alloc (Nat.le_refl _) _, by simp, fun j hj => ?_, fun j hj => ?_⟩
  · rw [show (⟨w.heap.size, j, none⟩ : Addr) = ⟨w.drew.heap.size, j, none⟩ from rfl, World.cell?_alloc_mark, bytesRow_at _ _ _ (by simpa using hj), mix_zero]
    unfold bt
    rw [List.getElem?_eq_getElem hj]
    simp
  · rw [show (⟨w.heap.size, j, none⟩ : Addr) = ⟨w.drew.heap.size, j, none⟩ from rfl, World.frozen?_alloc_mark]
    have : s.size ≤ (bytesRow s cap).size := by simp [bytesRow]
    have hj' : j < s.size := hj
    simp; omega
theorem frel_skip {l : List UInt8} {B k : Nat} {w wr : World} (h : FRel l B w k wr) (hb : ¬ (65 ≤ bt l k ∧ bt l k ≤ 90)) : FRel l B w (k + 1) wr := by
  refine ⟨h.1, h.2.1, fun j hj => ?_, h.2.2.2⟩
  rw [h.2.2.1 j hj]
  by_cases e : j = k
  · subst e; rw [mix_at, mix_new]; unfold fb; rw [if_neg hb]
  · rw [mix_same _ _ _ e]
theorem frel_set {l : List UInt8} {B k : Nat} {w wr : World} {x : Int} (h : FRel l B w k wr) (hk : k < l.length) (hx : x = fb (bt l k)) : FRel l B w (k + 1) (wr.setCell ⟨B, k, none⟩ (.int .u8 x)) := by
  refine ⟨h.1.setCell (Nat.le_refl _) _, by simpa using h.2.1, fun j hj => ?_, fun j hj => (World.frozen?_setCell _ _ _ _).trans (h.2.2.2 j hj)⟩
  by_cases e : j = k
  · subst e; rw [World.cell?_setCell_same _ _ _ (h.2.2.1 j hj), mix_new, hx]
  · rw [World.cell?_setCell_other _ _ _ _ (by first | (simp; done) | (simp; omega)), h.2.2.1 j hj, mix_same _ _ _ e]

theorem fold_back {s : ByteArray} {w wr : World} (h : FRel s.data.toList w.heap.size w s.size wr) (cap : Nat) :
    (convert 116 9 (.slice (some ⟨w.heap.size, 0, none⟩) s.size cap)).run Tryz.prog wr = .ok (.string ⟨(foldL s.data.toList).toArray⟩) wr := by
  have hl : s.size = (foldL s.data.toList).length := by rw [foldL_len]; rfl
  have h2 : ∀ j (hj : j < (foldL s.data.toList).length), wr.cell? ((⟨w.heap.size, 0, none⟩ : Addr).add j) = some (.int .u8 ((foldL s.data.toList)[j].toNat : Int)) := by
    intro j hj
    have hj' : j < s.data.toList.length := by rw [foldL_len] at hj; exact hj
    have e : ((⟨w.heap.size, 0, none⟩ : Addr).add j) = ⟨w.heap.size, j, none⟩ := by simp [Addr.add]; omega
    rw [e, h.2.2.1 j hj']
    exact congrArg (fun x => some (Value.int .u8 x)) (mix_end s.data.toList j hj')
  have := run_convert_bytes_back (P := Tryz.prog) wr 116 9 5 ⟨w.heap.size, 0, none⟩ cap (foldL s.data.toList) Tryz.underlying116 Tryz.underlying5 Tryz.underlying9 h2
  rw [← hl] at this
  exact this

set_option maxHeartbeats 1000000 in
theorem tfold_any (s : ByteArray) (w : World) (hs : s.size ≤ maxLen) :
    Calls Tryz.prog 76 #[.string s] w fun e w' => e = .returned (.string ⟨(foldL s.data.toList).toArray⟩) ∧ Below w.heap.size w w' := by
  unfold maxLen at hs
  have hcv := fun w s => run_bytes_of_string (P := Tryz.prog) w 9 116 5 s Tryz.underlying9 Tryz.underlying116 Tryz.underlying5
  go_enter Tryz.func76, Tryz.ntmps76
  go_wp2
  generalize grownCap w s.size 0 5 = cap
  go_loopw [10] (fun i wr => ∃ k : Nat, k ≤ s.size ∧ i = .int .i64 (k : Int) ∧ FRel s.data.toList w.heap.size w k wr) (fun i _ => s.size - (intOf i).toNat)
  case atStart => exact ⟨0, Nat.zero_le _, rfl, frel_start s w cap⟩
  case round =>
    obtain ⟨k, hk, rfl, hrl⟩ := hrel
    obtain ⟨hb0, hb1⟩ := bt_bd s.data.toList k
    have HR := Lib.hid hrl
    by_cases hlt : k < s.size
    · have hc := hrl.2.2.1 k hlt
      rw [mix_at] at hc
      have hfz := hrl.2.2.2 k hlt
      clear hrl
      by_cases h1 : 65 ≤ bt s.data.toList k
      · by_cases h2 : bt s.data.toList k ≤ 90
        · go_wp2
          go_roundw
          case rel => exact ⟨k + 1, by omega, by go_num, frel_set HR.out hlt (by unfold fb; rw [if_pos ⟨h1, h2⟩]; omega)⟩
          case measure => simp [intOf]; omega
        · go_wp2
          go_roundw
          case rel => exact ⟨k + 1, by omega, by go_num, frel_skip HR.out (by omega)⟩
          case measure => simp [intOf]; omega
      · go_wp2
        go_roundw
        case rel => exact ⟨k + 1, by omega, by go_num, frel_skip HR.out (by omega)⟩
        case measure => simp [intOf]; omega
    · clear hrl
      obtain rfl : k = s.size := by omega
      have hback : (convert 116 9 (.slice (some ⟨w.heap.size, 0, none⟩) s.size cap)).run Tryz.prog wr = .ok (.string ⟨(foldL s.data.toList).toArray⟩) wr :=
        fold_back HR.out cap
      go_wp2
      go_ret
      exact ⟨rfl, HR.out.1⟩
end Go.Proofs.YtjamfcihjendiaaGreat.T
namespace Go.Proofs.YtjamfcihjendiaaGreat.T
open Go.RowKit
set_option linter.unusedVariables false

def cutL (l : List UInt8) (a b : Nat) : List UInt8 := List.take (b - a) (List.drop a l)
def wordL (l : List UInt8) (j : Nat) : List UInt8 := foldL (cutL l (sp (spansOf l) j).1 (sp (spansOf l) j).2)
end Go.Proofs.YtjamfcihjendiaaGreat.T
namespace Go.Proofs.YtjamfcihjendiaaGreat.T
open Go.RowKit
set_option linter.unusedVariables false

def wordsL (l : List UInt8) : List (List UInt8) := (List.range (spansOf l).length).map (wordL l)
def sameL (l m : List UInt8) : Bool := decide (vErr l = 0 ∧ vErr m = 0 ∧ wordsL l = wordsL m)
theorem wordsL_len (l : List UInt8) : (wordsL l).length = (spansOf l).length := by simp [wordsL]
theorem sameL_len {l m : List UInt8} (h : (spansOf l).length ≠ (spansOf m).length) : sameL l m = false := decide_eq_false (fun e => h (by rw [← wordsL_len, ← wordsL_len, e.2.2]))
theorem wordsL_at {l : List UInt8} {k : Nat} (h : k < (spansOf l).length) : (wordsL l)[k]? = some (wordL l k) := by unfold wordsL; simp [h]
theorem sameL_ne {l m : List UInt8} {k : Nat} (hl : k < (spansOf l).length) (hm : k < (spansOf m).length) (h : wordL l k ≠ wordL m k) : sameL l m = false := by
  refine decide_eq_false (fun e => h ?_)
  have h1 := wordsL_at hl
  rw [e.2.2, wordsL_at hm] at h1
  exact (Option.some.inj h1).symm
theorem btwo {w w1 w2 : World} (h : Below w.heap.size w w1) (h2 : Below w1.heap.size w1 w2) : Below w.heap.size w w2 := h.trans (h2.mono h.size)

end Go.Proofs.YtjamfcihjendiaaGreat.T
namespace Go.Proofs.YtjamfcihjendiaaGreat.T
open Go.RowKit
set_option linter.unusedVariables false

def exL : List (Nat × Nat) := [(0, 4), (5, 13), (14, 18), (20, 26)]
end Go.Proofs.YtjamfcihjendiaaGreat.T
namespace Go.Proofs.YtjamfcihjendiaaGreat.T
open Go.RowKit
set_option linter.unusedVariables false

set_option maxHeartbeats 1000000 in
theorem rletter_any (n : Int) (w : World) (h0 : 0 ≤ n) (h1 : n ≤ 255) :
    Calls Tryz.prog 64 #[.int .u8 n] w fun e w' => e = .returned (.bool (ltr n)) ∧ w = w' := by
  by_cases h2 : n < 32
  · have HL := Lib.hid (show ltr n = false by simp [ltr]; omega)
    go_enter Tryz.func64, Tryz.ntmps64
    go_wp2
    go_ret
    exact ⟨ret_bool HL.out.symm, rfl⟩
  · by_cases h3 : 126 < n
    · have HL := Lib.hid (show ltr n = false by simp [ltr]; omega)
      go_enter Tryz.func64, Tryz.ntmps64
      go_wp2
      go_ret
      exact ⟨ret_bool HL.out.symm, rfl⟩
    · have h4 : 32 ≤ n := by omega
      have h5 : n ≤ 126 := by omega
      go_enter Tryz.func64, Tryz.ntmps64
      go_wp2
      go_loop [3] (fun i => ∃ k : Nat, k ≤ 15 ∧ i = .int .i64 k ∧ ∀ j, j < k → punL[j]? ≠ some n) (fun i => 15 - (intOf i).toNat)
      case atStart => exact ⟨0, Nat.zero_le _, rfl, fun j hj => by omega⟩
      case round =>
        obtain ⟨k, hk, rfl, hall⟩ := hrel
        have HA := Lib.hid hall
        clear hall
        by_cases hlt : k < 15
        · have HP := Lib.hid (pun_at k hlt)
          go_wp2
          · have ht : ((((⟨#[32, 46, 44, 59, 58, 33, 63, 34, 45, 91, 93, 60, 62, 123, 125]⟩ : ByteArray)[k]'(by exact hlt)).toNat : Int) == n) = true := by assumption
            have HE := Lib.hid (show ltr n = false from ltr_hit (k := k) (by rw [HP.out (by exact hlt)]; simpa using ht))
            go_ret
            exact ⟨ret_bool HE.out.symm, rfl⟩
          · have ht : ((((⟨#[32, 46, 44, 59, 58, 33, 63, 34, 45, 91, 93, 60, 62, 123, 125]⟩ : ByteArray)[k]'(by exact hlt)).toNat : Int) == n) = false := by assumption
            go_round
            case rel => exact ⟨k + 1, by omega, by go_num, fun j hj => by
              by_cases e : j = k
              · subst e; rw [HP.out (by exact hlt)]; simpa using ht
              · exact HA.out j (by omega)⟩
            case measure => simp [intOf]; omega
        · have HE := Lib.hid (show ltr n = true from ltr_miss h4 h5 (fun j hj => HA.out j (by omega)))
          go_wp2
          go_ret
          exact ⟨ret_bool HE.out.symm, rfl⟩
end Go.Proofs.YtjamfcihjendiaaGreat.T
namespace Go.Proofs.YtjamfcihjendiaaGreat.T
open Go.RowKit
set_option linter.unusedVariables false

end Go.Proofs.YtjamfcihjendiaaGreat.T
namespace Go.Proofs.YtjamfcihjendiaaGreat.T
open Go.RowKit
set_option linter.unusedVariables false

theorem Tryz.infoByte : (Tryz.prog.info? 5).map (fun i => (i.zero, i.size, i.bytes)) = some (some (.int .u8 0), 1, 1) := by kernel_rfl

def halfAt (l : List UInt8) (k j : Nat) : Int := if j < k then fb (bt l j) else 0
theorem half_same (l : List UInt8) (k j : Nat) (h : j ≠ k) : halfAt l (k + 1) j = halfAt l k j := by
  unfold halfAt
  by_cases e : j < k
  · rw [if_pos e, if_pos (by omega)]
  · rw [if_neg e, if_neg (by omega)]
theorem half_new (l : List UInt8) (k : Nat) : halfAt l (k + 1) k = fb (bt l k) := by unfold halfAt; rw [if_pos (by omega)]
def GRel (l : List UInt8) (B : Nat) (w : World) (k : Nat) (wr : World) : Prop :=
  Below B w wr ∧ B < wr.heap.size ∧ (∀ j, j < l.length → wr.cell? ⟨B, j, none⟩ = some (.int .u8 (halfAt l k j))) ∧ ∀ j, j < l.length → wr.frozen? ⟨B, j, none⟩ = false
theorem grel_start {s : ByteArray} {w w1 : World} (hown : w1.ownsRow w.heap.size 5 1 (.slice (some ⟨w.heap.size, 0, none⟩) s.size s.size) s.size (madeCells (Value.int .u8 0).cells (s.size * 1)).toList) (hg : w.grownBy w1 none) :
    GRel s.data.toList w.heap.size w 0 w1 := by
  refine ⟨(Below.refl _ _).grown hg (Nat.le_refl _) (fun k h => by cases h), (hown.lt w.heap.size rfl).2, fun j hj => ?_, fun j hj => hown.frozenAt j⟩
  have hj' : j < s.size := hj
  rw [hown.cellAt j (by omega), show (Value.int .u8 0).cells = #[.int .u8 0] from rfl, toList_madeCells_one, List.getElem?_replicate, if_pos (by omega)]
  unfold halfAt; rw [if_neg (by omega)]
theorem grel_set {l : List UInt8} {B k : Nat} {w wr : World} {x y : Int} (h : GRel l B w k wr) (hk : k < l.length) (hx : y = fb (bt l k)) : GRel l B w (k + 1) ((wr.setCell ⟨B, k, none⟩ (.int .u8 x)).setCell ⟨B, k, none⟩ (.int .u8 y)) := by
  refine ⟨(h.1.setCell (Nat.le_refl _) _).setCell (Nat.le_refl _) _, by simpa using h.2.1, fun j hj => ?_, fun j hj => (World.frozen?_setCell _ _ _ _).trans ((World.frozen?_setCell _ _ _ _).trans (h.2.2.2 j hj))⟩
  by_cases e : j = k
  · subst e; rw [World.cell?_setCell_same _ _ _ (World.cell?_setCell_same _ _ _ (h.2.2.1 j hj)), half_new, hx]
  · rw [World.cell?_setCell_other _ _ _ _ (by first | (simp; done) | (simp; omega)), World.cell?_setCell_other _ _ _ _ (by first | (simp; done) | (simp; omega)), h.2.2.1 j hj, half_same _ _ _ e]
theorem grel_one {l : List UInt8} {B k : Nat} {w wr : World} {x : Int} (h : GRel l B w k wr) (hk : k < l.length) (hx : x = fb (bt l k)) : GRel l B w (k + 1) (wr.setCell ⟨B, k, none⟩ (.int .u8 x)) := by
  refine ⟨h.1.setCell (Nat.le_refl _) _, by simpa using h.2.1, fun j hj => ?_, fun j hj => (World.frozen?_setCell _ _ _ _).trans (h.2.2.2 j hj)⟩
  by_cases e : j = k
  · subst e; rw [World.cell?_setCell_same _ _ _ (h.2.2.1 j hj), half_new, hx]
  · rw [World.cell?_setCell_other _ _ _ _ (by first | (simp; done) | (simp; omega)), h.2.2.1 j hj, half_same _ _ _ e]
theorem bt_at {s : ByteArray} {k : Nat} (h : k < s.size) : bt s.data.toList k = (s[k].toNat : Int) := by
  unfold bt; rw [List.getElem?_eq_getElem (by rw [sizeB]; exact h)]; rfl
theorem gold_back {s : ByteArray} {w wr : World} (h : GRel s.data.toList w.heap.size w s.size wr) (cap : Nat) :
    (convert 116 9 (.slice (some ⟨w.heap.size, 0, none⟩) s.size cap)).run Tryz.prog wr = .ok (.string ⟨(foldL s.data.toList).toArray⟩) wr := by
  refine fold_back ⟨h.1, h.2.1, fun j hj => ?_, h.2.2.2⟩ cap
  have hj' : j < s.size := hj
  rw [h.2.2.1 j hj]
  unfold halfAt mixAt
  rw [if_pos hj', if_pos hj']

set_option maxHeartbeats 1000000 in
theorem rfold_any (s : ByteArray) (w : World) (hs : s.size ≤ 1000000) :
    Calls Tryz.prog 63 #[.string s] w fun e w' => e = .returned (.string ⟨(foldL s.data.toList).toArray⟩) ∧ Below w.heap.size w w' := by
  obtain ⟨i0, hi, hz0, hz1, hz2⟩ := info_parts Tryz.infoByte
  go_enter Tryz.func63, Tryz.ntmps63
  go_wp2_with (at_make; refine wpList_make_full _ rfl _ _ 116 rfl w.heap.size 5 i0 (.int .u8 0) 1 Tryz.underlying116 hi hz0 hz1 .i64 .i64 _ _ s.size rfl rfl rfl rfl (by rw [hz2]; omega) (by unfold maxLen; omega) (Nat.le_refl _) ?_; intro w1 hown hg; have R := Lib.hid (grel_start hown hg); clear hown hg)
  go_loopw [4] (fun i wr => ∃ k : Nat, k ≤ s.size ∧ i = .int .i64 (k : Int) ∧ GRel s.data.toList w.heap.size w k wr) (fun i _ => s.size - (intOf i).toNat)
  case atStart => exact ⟨0, Nat.zero_le _, rfl, R.out⟩
  case round =>
    obtain ⟨k, hk, rfl, hrl⟩ := hrel
    clear R
    have HR := Lib.hid hrl
    by_cases hlt : k < s.size
    · have hc := hrl.2.2.1 k hlt
      have hfz := hrl.2.2.2 k hlt
      have hb1 : (s[k].toNat : Int) ≤ 255 := by have := s[k].toNat_lt; omega
      clear hrl
      by_cases h1 : 65 ≤ (s[k].toNat : Int)
      · by_cases h2 : (s[k].toNat : Int) ≤ 90
        · go_wp2
          go_roundw
          case rel => exact ⟨k + 1, by omega, by go_num, grel_set HR.out hlt (by rw [bt_at hlt]; unfold fb; rw [if_pos ⟨h1, h2⟩]; omega)⟩
          case measure => simp [intOf]; omega
        · go_wp2
          go_roundw
          case rel => exact ⟨k + 1, by omega, by go_num, grel_one HR.out hlt (by rw [bt_at hlt]; unfold fb; rw [if_neg (by omega)])⟩
          case measure => simp [intOf]; omega
      · go_wp2
        go_roundw
        case rel => exact ⟨k + 1, by omega, by go_num, grel_one HR.out hlt (by rw [bt_at hlt]; unfold fb; rw [if_neg (by omega)])⟩
        case measure => simp [intOf]; omega
    · clear hrl
      obtain rfl : k = s.size := by omega
      have hback := gold_back HR.out s.size
      go_wp2
      go_ret
      exact ⟨rfl, HR.out.1⟩
end Go.Proofs.YtjamfcihjendiaaGreat.T
namespace Go.Proofs.YtjamfcihjendiaaGreat.T
open Go.RowKit
set_option linter.unusedVariables false

theorem one_str (s : ByteArray) : ∀ u ∈ [Value.string s], u.oneCell' = true := by
  intro u hu; simp at hu; subst hu; rfl
theorem new_one (w : World) (t : TypeId) (x : Value) : ∀ (j : Nat) (u : Value), [x][j]? = some u → (w.alloc (.cells #[x] t)).cell? ((⟨w.heap.size, 0, none⟩ : Addr).add j) = some u := by
  intro j u hj
  match j, hj with
  | 0, hj => simp at hj; subst hj; simp [Addr.add]
end Go.Proofs.YtjamfcihjendiaaGreat.T
namespace Go.Proofs.YtjamfcihjendiaaGreat.T
open Go.RowKit
set_option linter.unusedVariables false

def StrsIn (w : World) (A : Option Addr) (n : Nat) (f : Nat → ByteArray) : Prop :=
  0 < n → ∃ g off, A = some ⟨g, off, none⟩ ∧ g < w.heap.size ∧ ∀ i, i < n → w.cell? ⟨g, off + i, none⟩ = some (.string (f i))
theorem StrsIn.below {w w' : World} {A : Option Addr} {n : Nat} {f : Nat → ByteArray} (h : StrsIn w A n f) (hb : Below w.heap.size w w') : StrsIn w' A n f := by
  intro h0
  obtain ⟨g, off, e, hlt, hc⟩ := h h0
  exact ⟨g, off, e, Nat.lt_of_lt_of_le hlt hb.size, fun i hi => (hb.cell (p := ⟨g, off + i, none⟩) hlt).trans (hc i hi)⟩

end Go.Proofs.YtjamfcihjendiaaGreat.T
namespace Go.Proofs.YtjamfcihjendiaaGreat.T
open Go.RowKit
set_option linter.unusedVariables false

end Go.Proofs.YtjamfcihjendiaaGreat.T
namespace Go.Proofs.YtjamfcihjendiaaGreat.T
set_option linter.unusedVariables false

def allLtr (l : List UInt8) : Bool := l.all fun c => ltr (c.toNat : Int)
def err1 (l : List UInt8) : Int := if l = [] then 7 else if allLtr l then 0 else 2
def joinF (f : Nat → List UInt8) : Nat → List UInt8
  | 0 => []
  | k + 1 => joinF f k ++ (if 0 < k then [32] else []) ++ f k
def jst (f : Nat → List UInt8) : Nat → Int
  | 0 => 0
  | k + 1 => if jst f k ≠ 0 then jst f k else err1 (f k)
def joinVal (f : Nat → List UInt8) (n : Nat) : List UInt8 × Int :=
  if jst f n ≠ 0 then ([], jst f n) else if 120 < (joinF f n).length then ([], 3) else (joinF f n, 0)

theorem err1_empty {l : List UInt8} (h : l = []) : err1 l = 7 := by unfold err1; rw [if_pos h]
theorem err1_bad {l : List UInt8} (h : l ≠ []) (h2 : allLtr l = false) : err1 l = 2 := by unfold err1; rw [if_neg h, h2]; rfl
theorem err1_ok {l : List UInt8} (h : l ≠ []) (h2 : allLtr l = true) : err1 l = 0 := by unfold err1; rw [if_neg h, h2]; rfl
theorem jst_step {f : Nat → List UInt8} {k : Nat} (h : jst f k = 0) : jst f (k + 1) = err1 (f k) := by rw [jst, if_neg (by simp [h])]
theorem jst_stay {f : Nat → List UInt8} {k n : Nat} (hk : k ≤ n) (h : jst f k ≠ 0) : jst f n = jst f k := by
  induction n with
  | zero => rw [show k = 0 from by omega]
  | succ n ih =>
    by_cases e : k = n + 1
    · rw [e]
    · have := ih (by omega)
      rw [jst, if_pos (by rw [this]; exact h), this]
theorem jst_stop {f : Nat → List UInt8} {k n : Nat} {x : Int} (hk : k < n) (h : jst f k = 0) (hx : err1 (f k) = x) (h0 : x ≠ 0) : jst f n = x := by
  have h1 : jst f (k + 1) = x := by rw [jst_step h, hx]
  rw [jst_stay (k := k + 1) (by omega) (by rw [h1]; exact h0), h1]
theorem joinF_succ_len (f : Nat → List UInt8) (k : Nat) : (joinF f (k + 1)).length = (joinF f k).length + (if 0 < k then 1 else 0) + (f k).length := by
  rw [joinF]
  by_cases h : 0 < k
  · rw [if_pos h, if_pos h]; simp; omega
  · rw [if_neg h, if_neg h]; simp
theorem joinF_mono (f : Nat → List UInt8) {k n : Nat} (h : k ≤ n) : (joinF f k).length ≤ (joinF f n).length := by
  induction n with
  | zero => rw [show k = 0 from by omega]; exact Nat.le_refl _
  | succ n ih =>
    by_cases e : k = n + 1
    · rw [e]; exact Nat.le_refl _
    · have := ih (by omega); rw [joinF_succ_len]; omega
theorem lib_join (f : Nat → List UInt8) (n : Nat) : Lib.join ((List.range n).map f) [32] = joinF f n := by
  have h : ∀ m, joinF f (m + 1) = f 0 ++ ((List.range m).map (fun i => 32 :: f (i + 1))).flatten := by
    intro m
    induction m with
    | zero => simp [joinF]
    | succ m ih => rw [joinF, if_pos (by omega), ih, List.range_succ]; simp
  cases n with
  | zero => rfl
  | succ m =>
    rw [h m, List.range_succ_eq_map, List.map_cons, Lib.join_cons]
    unfold Lib.joinTail
    simp [List.map_map, Function.comp_def]

end Go.Proofs.YtjamfcihjendiaaGreat.T
namespace Go.Proofs.YtjamfcihjendiaaGreat.T
open Go.RowKit
set_option linter.unusedVariables false

theorem empty_of {x : ByteArray} (h : x.size = 0) : x.data.toList = [] := by
  have : x.data.toList.length = 0 := h
  exact List.eq_nil_of_length_eq_zero this
theorem nonempty_of {x : ByteArray} (h : x.size ≠ 0) : x.data.toList ≠ [] := by
  intro e
  have : x.data.toList.length = 0 := by rw [e]; rfl
  exact h this
def StrArg (w : World) (A : Option Addr) (n : Nat) (f : Nat → ByteArray) : Prop :=
  (∀ i, i < n → (f i).size ≤ 140737488355328) ∧ (0 < n → ∃ b off, A = some ⟨b, off, none⟩ ∧ b < w.heap.size ∧ ∀ i, i < n → w.cell? ⟨b, off + i, none⟩ = some (.string (f i)))
theorem StrArg.below {w w' : World} {A : Option Addr} {n : Nat} {f : Nat → ByteArray} (h : StrArg w A n f) (hb : Below w.heap.size w w') : StrArg w' A n f := by
  refine ⟨h.1, fun h0 => ?_⟩
  obtain ⟨b, off, e, hlt, hc⟩ := h.2 h0
  exact ⟨b, off, e, Nat.lt_of_lt_of_le hlt hb.size, fun i hi => (hb.cell (p := ⟨b, off + i, none⟩) hlt).trans (hc i hi)⟩
def lists (f : Nat → ByteArray) (i : Nat) : List UInt8 := (f i).data.toList

def ClonePost (n : Nat) (f : Nat → ByteArray) (w : World) (e : Ending) (w' : World) : Prop := ∃ A c, e = .returned (.slice A n c) ∧ n ≤ c ∧ StrArg w' A n f ∧ Below w.heap.size w w'
end Go.Proofs.YtjamfcihjendiaaGreat.T
namespace Go.Proofs.YtjamfcihjendiaaGreat.T
open Go.RowKit
set_option linter.unusedVariables false

theorem all_step {s : ByteArray} {k : Nat} (hk : k < s.size) (h : allLtr (s.data.toList.take k) = true) (hf : ltr (s[k].toNat : Int) = true) : allLtr (s.data.toList.take (k + 1)) = true := by
  unfold allLtr at *
  rw [List.take_succ_eq_append_getElem (by rw [sizeB]; exact hk), List.all_append, h]
  simp [← getB s k hk, hf]
theorem all_no {s : ByteArray} {k : Nat} (hk : k < s.size) (hf : ltr (s[k].toNat : Int) = false) : allLtr s.data.toList = false := by
  unfold allLtr
  rw [List.all_eq_false]
  exact ⟨s.data.toList[k]'(by rw [sizeB]; exact hk), List.getElem_mem _, by rw [← getB s k hk]; simp [hf]⟩
theorem all_end {s : ByteArray} {k : Nat} (hk : s.size ≤ k) (h : allLtr (s.data.toList.take k) = true) : allLtr s.data.toList = true := by
  rw [List.take_of_length_le (by rw [sizeB]; exact hk)] at h; exact h
set_option maxHeartbeats 400000 in
theorem only_any (s : ByteArray) (w : World) (hs : s.size ≤ maxLen) :
    Calls Tryz.prog 93 #[.string s] w fun e w' => e = .returned (.bool (allLtr s.data.toList)) ∧ w = w' := by
  unfold maxLen at hs
  go_enter Tryz.func93, Tryz.ntmps93
  go_wp2
  go_loop [3] (fun i => ∃ k : Nat, k ≤ s.size ∧ i = .int .i64 k ∧ allLtr (s.data.toList.take k) = true) (fun i => s.size - (intOf i).toNat)
  case atStart => exact ⟨0, Nat.zero_le _, rfl, rfl⟩
  case round =>
    obtain ⟨k, hk, rfl, hok⟩ := hrel
    have HOK := Lib.hid hok
    clear hok
    by_cases hlt : k < s.size
    · have hb : (s[k].toNat : Int) ≤ 255 := by have := s[k].toNat_lt; omega
      cases hi : ltr (s[k].toNat : Int) with
      | true =>
        have HI := Lib.hid hi
        clear hi
        go_wp2_with (go_at_call 107; refine (letter_any _ _ (by omega) (by omega)).mono ?_; rintro e w' ⟨rfl, rfl⟩; rw [HI.out])
        go_round
        case rel => exact ⟨k + 1, by omega, by go_num, all_step hlt HOK.out HI.out⟩
        case measure => simp [intOf]; omega
      | false =>
        have HI := Lib.hid hi
        have HE := Lib.hid (all_no hlt hi)
        clear hi
        go_wp2_with (go_at_call 107; refine (letter_any _ _ (by omega) (by omega)).mono ?_; rintro e w' ⟨rfl, rfl⟩; rw [HI.out])
        go_ret
        exact ⟨ret_bool HE.out.symm, rfl⟩
    · have HE := Lib.hid (all_end (by omega) HOK.out)
      go_wp2
      go_ret
      exact ⟨ret_bool HE.out.symm, rfl⟩

end Go.Proofs.YtjamfcihjendiaaGreat.T
namespace Go.Proofs.YtjamfcihjendiaaGreat.T
open Go.RowKit
set_option linter.unusedVariables false

def JoinPost (g : Nat → List UInt8) (n : Nat) (w : World) (e : Ending) (w' : World) : Prop :=
  e = .returned (.tuple #[.string ⟨(joinVal g n).1.toArray⟩, .int .i64 (joinVal g n).2]) ∧ Below w.heap.size w w'
theorem join_post {g : Nat → List UInt8} {n : Nat} {w w' : World} {x : List UInt8} {i : Int} {b : ByteArray} (h : joinVal g n = (x, i)) (hx : b = ⟨x.toArray⟩) (hb : Below w.heap.size w w') : JoinPost g n w (.returned (.tuple #[.string b, .int .i64 i])) w' := by
  subst hx; exact ⟨by rw [h], hb⟩
theorem joinVal_err {g : Nat → List UInt8} {n : Nat} {x : Int} (h : jst g n = x) (h0 : x ≠ 0) : joinVal g n = ([], x) := by subst h; unfold joinVal; rw [if_pos h0]
theorem joinVal_big {g : Nat → List UInt8} {n : Nat} (h : jst g n = 0) (h1 : 120 < (joinF g n).length) : joinVal g n = ([], 3) := by unfold joinVal; rw [if_neg (by simp [h]), if_pos h1]
theorem joinVal_ok {g : Nat → List UInt8} {n : Nat} (h : jst g n = 0) (h1 : ¬ 120 < (joinF g n).length) : joinVal g n = (joinF g n, 0) := by unfold joinVal; rw [if_neg (by simp [h]), if_neg h1]
theorem jn_any (n c b off : Nat) (f : Nat → ByteArray) (w : World) (hlt : b < w.heap.size) (hn : n ≤ 60) (hc : n ≤ c) (hcc : ∀ i, i < n → w.cell? ⟨b, off + i, none⟩ = some (.string (f i))) (hl : (joinF (lists f) n).length ≤ 500) :
    Calls Tryz.prog 94 #[.slice (some ⟨b, off, none⟩) n c, .string ⟨#[32]⟩] w fun e w' => e = .returned (.string ⟨(joinF (lists f) n).toArray⟩) ∧ Below w.heap.size w w' := by
  have e1 : ((List.range n).map f).length = n := by simp
  have e2 : Lib.join (((List.range n).map f).map (·.data.toList)) (⟨#[32]⟩ : ByteArray).data.toList = joinF (lists f) n := by
    rw [← lib_join, List.map_map]; rfl
  have := Tryz.strings_Join b off c ((List.range n).map f) ⟨#[32]⟩ w (fun j x hj => by
    have hj' : j < n := by have := (List.getElem?_eq_some_iff.1 hj).1; simpa using this
    rw [hcc j hj']
    simpa [hj'] using hj) hlt (by rw [e1]; omega) (by rw [e1]; exact hc) (by rw [e2]; omega)
  rw [e1, e2] at this
  exact this

set_option maxHeartbeats 1000000 in
theorem tjoin_any (n c : Nat) (f : Nat → ByteArray) (A : Option Addr) (w : World) (hn : n ≤ 60) (hnc : n ≤ c) (hA : StrArg w A n f) (hl : (joinF (lists f) n).length ≤ 500) :
    Calls Tryz.prog 75 #[.slice A n c] w (JoinPost (lists f) n w) := by
  by_cases h0 : 0 < n
  · obtain ⟨b, off, rfl, hlt0, hcc⟩ := hA.2 h0
    have HC := Lib.hid hcc
    have HA := Lib.hid hA.1
    clear hA hcc
    go_enter Tryz.func75, Tryz.ntmps75
    go_wp2
    go_loopw [4, 9] (fun t i wr => ∃ k T : Nat, k ≤ n ∧ i = .int .i64 k ∧ t = .int .i64 T ∧ T = (joinF (lists f) k).length ∧ T ≤ 500 ∧ jst (lists f) k = 0 ∧ wr = w) (fun _ i _ => n - (intOf i).toNat)
    case atStart => exact ⟨0, 0, Nat.zero_le _, rfl, rfl, rfl, by omega, rfl, rfl⟩
    case round =>
      obtain ⟨k, T, hk, rfl, rfl, hT, hTb, hj, rfl⟩ := hrel
      have HT := Lib.hid hT
      have HJ := Lib.hid hj
      clear hT hj
      by_cases hlt : k < n
      · have hc := HC.out k hlt
        have hz := HA.out k hlt
        have hzm : (f k).size ≤ maxLen := by unfold maxLen; omega
        obtain ⟨x, hx⟩ : ∃ x, x = f k := ⟨_, rfl⟩
        rw [← hx] at hc hz hzm
        have HX := Lib.hid hx
        clear hx
        by_cases hx0 : x.size = 0
        · have HE := Lib.hid (joinVal_err (jst_stop hlt HJ.out (err1_empty (show lists f k = [] by unfold lists; rw [← HX.out]; exact empty_of hx0)) (by omega)) (by omega))
          have hx1 : x.toList = [] := by rw [ByteArray.toList_eq]; exact empty_of hx0
          have hx2 : x.toList.isEmpty = true := by rw [hx1]; rfl
          clear hx0 hx1
          go_wp2
          go_ret2
          exact join_post HE.out rfl (Below.refl _ _)
        · have hx2 : x.toList.isEmpty = false := by
            rw [ByteArray.toList_eq]
            cases e : x.data.toList with
            | nil => exact absurd e (nonempty_of hx0)
            | cons => rfl
          have HX0 := Lib.hid (nonempty_of hx0)
          clear hx0
          cases hal : allLtr x.data.toList with
          | false =>
            have HE := Lib.hid (joinVal_err (jst_stop hlt HJ.out (err1_bad (show lists f k ≠ [] by unfold lists; rw [← HX.out]; exact HX0.out) (by unfold lists; rw [← HX.out]; exact hal)) (by omega)) (by omega))
            have HAL := Lib.hid hal
            clear hal
            go_wp2_with (go_at_call 93; refine (only_any _ _ hzm).mono ?_; rintro e w' ⟨rfl, rfl⟩; rw [HAL.out])
            go_ret2
            exact join_post HE.out rfl (Below.refl _ _)
          | true =>
            have HJ2 := Lib.hid (show jst (lists f) (k + 1) = 0 by rw [jst_step HJ.out]; exact err1_ok (by unfold lists; rw [← HX.out]; exact HX0.out) (by unfold lists; rw [← HX.out]; exact hal))
            have HAL := Lib.hid hal
            have hlen := joinF_succ_len (lists f) k
            rw [← HT.out, show (lists f k).length = x.size by unfold lists; rw [← HX.out]; rfl] at hlen
            have hmono := joinF_mono (lists f) (show k + 1 ≤ n from hlt)
            clear hal
            by_cases hk0 : 0 < k
            · rw [if_pos hk0] at hlen
              have HLEN := Lib.hid hlen
              have hb5 : T + 1 + x.size ≤ 500 := by omega
              clear hlen hmono
              go_wp2_with (go_at_call 93; refine (only_any _ _ hzm).mono ?_; rintro e w' ⟨rfl, rfl⟩; rw [HAL.out])
              go_roundw
              case rel => exact ⟨k + 1, T + 1 + x.size, by omega, by go_num, by go_num, HLEN.out.symm, hb5, HJ2.out, by trivial⟩
              case measure => simp [intOf]; omega
            · rw [if_neg hk0] at hlen
              have HLEN := Lib.hid hlen
              have hb5 : T + x.size ≤ 500 := by omega
              clear hlen hmono
              go_wp2_with (go_at_call 93; refine (only_any _ _ hzm).mono ?_; rintro e w' ⟨rfl, rfl⟩; rw [HAL.out])
              go_roundw
              case rel => exact ⟨k + 1, T + x.size, by omega, by go_num, by go_num, by have := HLEN.out; omega, hb5, HJ2.out, by trivial⟩
              case measure => simp [intOf]; omega
      · obtain rfl : k = n := by omega
        by_cases hbig : 120 < T
        · have HE := Lib.hid (joinVal_big HJ.out (by rw [← HT.out]; exact hbig))
          go_wp2
          go_ret2
          exact join_post HE.out rfl (Below.refl _ _)
        · have HE := Lib.hid (joinVal_ok HJ.out (by rw [← HT.out]; exact hbig))
          go_wp2_with fail
          refine (jn_any k c b off f _ hlt0 hn hnc HC.out hl).mono ?_
          rintro e w2 ⟨rfl, hb2⟩
          go_wp2_with fail
          go_ret2
          exact join_post HE.out rfl hb2
  · obtain rfl : n = 0 := by omega
    go_enter Tryz.func75, Tryz.ntmps75
    go_wp2
    refine wp_loop_rounds 1 ?_
    rw [rounds_succ]
    go_wp2_with fail
    refine (Tryz.strings_Join_none A c _ _).mono ?_
    rintro e w' ⟨rfl, rfl⟩
    go_wp2_with fail
    go_ret2
    exact join_post (x := []) (i := 0) rfl rfl (Below.refl _ _)
end Go.Proofs.YtjamfcihjendiaaGreat.T
