/- Contracts of Fold, of the program and of the reference: the string with small letters in the place of capitals. -/
import Derived.Test.YtpmdfpfbnmoinaaDoorWd
import Derived.Laws.IdiomStrings
namespace Go.Proofs.YtpmdfpfbnmoinaaDoor
open Go.RowKit
set_option linter.unusedVariables false

def foldB (c : UInt8) : UInt8 := if 65 ≤ c.toNat ∧ c.toNat ≤ 90 then c + 32 else c
def foldL (l : List UInt8) : List UInt8 := l.map foldB
def bt (l : List UInt8) (j : Nat) : Int := ((l[j]?.getD 0).toNat : Int)
def fb (n : Int) : Int := if 65 ≤ n ∧ n ≤ 90 then n + 32 else n
def mixAt (l : List UInt8) (k j : Nat) : Int := if j < k then fb (bt l j) else bt l j
theorem bt_bd (l : List UInt8) (j : Nat) : 0 ≤ bt l j ∧ bt l j ≤ 255 := by
  unfold bt; have := (l[j]?.getD 0).toNat_lt; omega
theorem foldB_int (c : UInt8) : ((foldB c).toNat : Int) = fb (c.toNat : Int) := by
  unfold foldB fb
  have := c.toNat_lt
  by_cases h : 65 ≤ c.toNat ∧ c.toNat ≤ 90
  · rw [if_pos h, if_pos (by omega), UInt8.toNat_add]
    have : (32 : UInt8).toNat = 32 := rfl
    omega
  · rw [if_neg h, if_neg (by omega)]
theorem foldL_len (l : List UInt8) : (foldL l).length = l.length := by simp [foldL]
theorem mix_end (l : List UInt8) (j : Nat) (h : j < l.length) : mixAt l l.length j = (((foldL l)[j]'(by rw [foldL_len]; exact h)).toNat : Int) := by
  unfold mixAt foldL; rw [if_pos h, List.getElem_map, foldB_int]; unfold bt; rw [List.getElem?_eq_getElem h]; rfl
theorem mix_zero (l : List UInt8) (j : Nat) : mixAt l 0 j = bt l j := by unfold mixAt; rw [if_neg (by omega)]
theorem mix_same (l : List UInt8) (k j : Nat) (h : j ≠ k) : mixAt l (k + 1) j = mixAt l k j := by
  unfold mixAt
  by_cases e : j < k
  · rw [if_pos e, if_pos (by omega)]
  · rw [if_neg e, if_neg (by omega)]
theorem mix_at (l : List UInt8) (k : Nat) : mixAt l k k = bt l k := by unfold mixAt; rw [if_neg (by omega)]
theorem mix_new (l : List UInt8) (k : Nat) : mixAt l (k + 1) k = fb (bt l k) := by unfold mixAt; rw [if_pos (by omega)]

def FRel (l : List UInt8) (B : Nat) (w : World) (k : Nat) (wr : World) : Prop :=
  Below B w wr ∧ B < wr.heap.size ∧ (∀ j, j < l.length → wr.cell? ⟨B, j, none⟩ = some (.int .u8 (mixAt l k j))) ∧ ∀ j, j < l.length → wr.frozen? ⟨B, j, none⟩ = false
theorem frel_start (s : ByteArray) (w : World) (cap : Nat) : FRel s.data.toList w.heap.size w 0 (w.drew.alloc (.cells (bytesRow s cap) 5 ((bytesRow s cap).size, (bytesRow s cap).size + 1))) := by
  refine ⟨(Below.drew (Below.refl _ _)).alloc (Nat.le_refl _) _, by simp, fun j hj => ?_, fun j hj => ?_⟩
  · rw [show (⟨w.heap.size, j, none⟩ : Addr) = ⟨w.drew.heap.size, j, none⟩ from rfl, World.cell?_alloc_mark, bytesRow_at _ _ _ (by simpa using hj), mix_zero]
    unfold bt
    rw [List.getElem?_eq_getElem hj]
    simp
  · rw [show (⟨w.heap.size, j, none⟩ : Addr) = ⟨w.drew.heap.size, j, none⟩ from rfl, World.frozen?_alloc_mark]
    have : s.size ≤ (bytesRow s cap).size := by simp [bytesRow]
    have hj' : j < s.size := hj
    simp; omega
theorem frel_skip {l : List UInt8} {B k : Nat} {w wr : World} (h : FRel l B w k wr) (hb : ¬ (65 ≤ bt l k ∧ bt l k ≤ 90)) : FRel l B w (k + 1) wr := by
  refine ⟨h.1, h.2.1, fun j hj => ?_, h.2.2.2⟩
  rw [h.2.2.1 j hj]
  by_cases e : j = k
  · subst e; rw [mix_at, mix_new]; unfold fb; rw [if_neg hb]
  · rw [mix_same _ _ _ e]
theorem frel_set {l : List UInt8} {B k : Nat} {w wr : World} {x : Int} (h : FRel l B w k wr) (hk : k < l.length) (hx : x = fb (bt l k)) : FRel l B w (k + 1) (wr.setCell ⟨B, k, none⟩ (.int .u8 x)) := by
  refine ⟨h.1.setCell (Nat.le_refl _) _, by simpa using h.2.1, fun j hj => ?_, fun j hj => (World.frozen?_setCell _ _ _ _).trans (h.2.2.2 j hj)⟩
  by_cases e : j = k
  · subst e; rw [World.cell?_setCell_same _ _ _ (h.2.2.1 j hj), mix_new, hx]
  · rw [World.cell?_setCell_other _ _ _ _ (by first | (simp; done) | (simp; omega)), h.2.2.1 j hj, mix_same _ _ _ e]

theorem fold_back {s : ByteArray} {w wr : World} (h : FRel s.data.toList w.heap.size w s.size wr) (cap : Nat) :
    (convert 36 9 (.slice (some ⟨w.heap.size, 0, none⟩) s.size cap)).run Tryd.prog wr = .ok (.string ⟨(foldL s.data.toList).toArray⟩) wr := by
  have hl : s.size = (foldL s.data.toList).length := by rw [foldL_len]; rfl
  have h2 : ∀ j (hj : j < (foldL s.data.toList).length), wr.cell? ((⟨w.heap.size, 0, none⟩ : Addr).add j) = some (.int .u8 ((foldL s.data.toList)[j].toNat : Int)) := by
    intro j hj
    have hj' : j < s.data.toList.length := by rw [foldL_len] at hj; exact hj
    have e : ((⟨w.heap.size, 0, none⟩ : Addr).add j) = ⟨w.heap.size, j, none⟩ := by simp [Addr.add]; omega
    rw [e, h.2.2.1 j hj']
    exact congrArg (fun x => some (Value.int .u8 x)) (mix_end s.data.toList j hj')
  have := run_convert_bytes_back (P := Tryd.prog) wr 36 9 5 ⟨w.heap.size, 0, none⟩ cap (foldL s.data.toList) Tryd.underlying36 Tryd.underlying5 Tryd.underlying9 h2
  rw [← hl] at this
  exact this

set_option maxHeartbeats 1000000 in
theorem tfold_any (s : ByteArray) (w : World) (hs : s.size ≤ maxLen) :
    Calls Tryd.prog 37 #[.string s] w fun e w' => e = .returned (.string ⟨(foldL s.data.toList).toArray⟩) ∧ Below w.heap.size w w' := by
  unfold maxLen at hs
  have hcv := fun w s => run_bytes_of_string (P := Tryd.prog) w 9 36 5 s Tryd.underlying9 Tryd.underlying36 Tryd.underlying5
  go_enter Tryd.func37, Tryd.ntmps37
  go_wp2
  generalize grownCap w s.size 0 5 = cap
  go_loopw [10] (fun i wr => ∃ k : Nat, k ≤ s.size ∧ i = .int .i64 (k : Int) ∧ FRel s.data.toList w.heap.size w k wr) (fun i _ => s.size - (intOf i).toNat)
  case atStart => exact ⟨0, Nat.zero_le _, rfl, frel_start s w cap⟩
  case round =>
    obtain ⟨k, hk, rfl, hrl⟩ := hrel
    obtain ⟨hb0, hb1⟩ := bt_bd s.data.toList k
    have HR := Lib.hid hrl
    by_cases hlt : k < s.size
    · have hc := hrl.2.2.1 k hlt
      rw [mix_at] at hc
      have hfz := hrl.2.2.2 k hlt
      clear hrl
      by_cases h1 : 65 ≤ bt s.data.toList k
      · by_cases h2 : bt s.data.toList k ≤ 90
        · go_wp2
          go_roundw
          case rel => exact ⟨k + 1, by omega, by go_num, frel_set HR.out hlt (by unfold fb; rw [if_pos ⟨h1, h2⟩]; omega)⟩
          case measure => simp [intOf]; omega
        · go_wp2
          go_roundw
          case rel => exact ⟨k + 1, by omega, by go_num, frel_skip HR.out (by omega)⟩
          case measure => simp [intOf]; omega
      · go_wp2
        go_roundw
        case rel => exact ⟨k + 1, by omega, by go_num, frel_skip HR.out (by omega)⟩
        case measure => simp [intOf]; omega
    · clear hrl
      obtain rfl : k = s.size := by omega
      have hback : (convert 36 9 (.slice (some ⟨w.heap.size, 0, none⟩) s.size cap)).run Tryd.prog wr = .ok (.string ⟨(foldL s.data.toList).toArray⟩) wr :=
        fold_back HR.out cap
      go_wp2
      go_ret
      exact ⟨rfl, HR.out.1⟩
end Go.Proofs.YtpmdfpfbnmoinaaDoor
