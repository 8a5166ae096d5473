/- Contract of the reference's Fold. -/
import Derived.Test.YtpmdfpfbnmoinaaWe
namespace Go.Proofs.Ytpmdfpfbnmoinaa
open Go.RowKit
set_option linter.unusedVariables false

theorem Try.infoByte : (Try.prog.info? 5).map (fun i => (i.zero, i.size, i.bytes)) = some (some (.int .u8 0), 1, 1) := by kernel_rfl

def halfAt (l : List UInt8) (k j : Nat) : Int := if j < k then fb (bt l j) else 0
theorem half_same (l : List UInt8) (k j : Nat) (h : j ≠ k) : halfAt l (k + 1) j = halfAt l k j := by
  unfold halfAt
  by_cases e : j < k
  · rw [if_pos e, if_pos (by omega)]
  · rw [if_neg e, if_neg (by omega)]
theorem half_new (l : List UInt8) (k : Nat) : halfAt l (k + 1) k = fb (bt l k) := by unfold halfAt; rw [if_pos (by omega)]
def GRel (l : List UInt8) (B : Nat) (w : World) (k : Nat) (wr : World) : Prop :=
  Below B w wr ∧ B < wr.heap.size ∧ (∀ j, j < l.length → wr.cell? ⟨B, j, none⟩ = some (.int .u8 (halfAt l k j))) ∧ ∀ j, j < l.length → wr.frozen? ⟨B, j, none⟩ = false
theorem grel_start {s : ByteArray} {w w1 : World} (hown : w1.ownsRow w.heap.size 5 1 (.slice (some ⟨w.heap.size, 0, none⟩) s.size s.size) s.size (madeCells (Value.int .u8 0).cells (s.size * 1)).toList) (hg : w.grownBy w1 none) :
    GRel s.data.toList w.heap.size w 0 w1 := by
  refine ⟨(Below.refl _ _).grown hg (Nat.le_refl _) (fun k h => by cases h), (hown.lt w.heap.size rfl).2, fun j hj => ?_, fun j hj => hown.frozenAt j⟩
  have hj' : j < s.size := hj
  rw [hown.cellAt j (by omega), show (Value.int .u8 0).cells = #[.int .u8 0] from rfl, toList_madeCells_one, List.getElem?_replicate, if_pos (by omega)]
  unfold halfAt; rw [if_neg (by omega)]
theorem grel_set {l : List UInt8} {B k : Nat} {w wr : World} {x y : Int} (h : GRel l B w k wr) (hk : k < l.length) (hx : y = fb (bt l k)) : GRel l B w (k + 1) ((wr.setCell ⟨B, k, none⟩ (.int .u8 x)).setCell ⟨B, k, none⟩ (.int .u8 y)) := by
  refine ⟨(h.1.setCell (Nat.le_refl _) _).setCell (Nat.le_refl _) _, by simpa using h.2.1, fun j hj => ?_, fun j hj => (World.frozen?_setCell _ _ _ _).trans ((World.frozen?_setCell _ _ _ _).trans (h.2.2.2 j hj))⟩
  by_cases e : j = k
  · subst e; rw [World.cell?_setCell_same _ _ _ (World.cell?_setCell_same _ _ _ (h.2.2.1 j hj)), half_new, hx]
  · rw [World.cell?_setCell_other _ _ _ _ (by first | (simp; done) | (simp; omega)), World.cell?_setCell_other _ _ _ _ (by first | (simp; done) | (simp; omega)), h.2.2.1 j hj, half_same _ _ _ e]
theorem grel_one {l : List UInt8} {B k : Nat} {w wr : World} {x : Int} (h : GRel l B w k wr) (hk : k < l.length) (hx : x = fb (bt l k)) : GRel l B w (k + 1) (wr.setCell ⟨B, k, none⟩ (.int .u8 x)) := by
  refine ⟨h.1.setCell (Nat.le_refl _) _, by simpa using h.2.1, fun j hj => ?_, fun j hj => (World.frozen?_setCell _ _ _ _).trans (h.2.2.2 j hj)⟩
  by_cases e : j = k
  · subst e; rw [World.cell?_setCell_same _ _ _ (h.2.2.1 j hj), half_new, hx]
  · rw [World.cell?_setCell_other _ _ _ _ (by first | (simp; done) | (simp; omega)), h.2.2.1 j hj, half_same _ _ _ e]
theorem bt_at {s : ByteArray} {k : Nat} (h : k < s.size) : bt s.data.toList k = (s[k].toNat : Int) := by
  unfold bt; rw [List.getElem?_eq_getElem (by rw [sizeB]; exact h)]; rfl
theorem gold_back {s : ByteArray} {w wr : World} (h : GRel s.data.toList w.heap.size w s.size wr) (cap : Nat) :
    (convert 46 9 (.slice (some ⟨w.heap.size, 0, none⟩) s.size cap)).run Try.prog wr = .ok (.string ⟨(foldL s.data.toList).toArray⟩) wr := by
  refine fold_back ⟨h.1, h.2.1, fun j hj => ?_, h.2.2.2⟩ cap
  have hj' : j < s.size := hj
  rw [h.2.2.1 j hj]
  unfold halfAt mixAt
  rw [if_pos hj', if_pos hj']

set_option maxHeartbeats 1000000 in
theorem rfold_any (s : ByteArray) (w : World) (hs : s.size ≤ 1000000) :
    Calls Try.prog 18 #[.string s] w fun e w' => e = .returned (.string ⟨(foldL s.data.toList).toArray⟩) ∧ Below w.heap.size w w' := by
  obtain ⟨i0, hi, hz0, hz1, hz2⟩ := info_parts Try.infoByte
  go_enter Try.func18, Try.ntmps18
  go_wp2_with (at_make; refine wpList_make_full _ rfl _ _ 46 rfl w.heap.size 5 i0 (.int .u8 0) 1 Try.underlying46 hi hz0 hz1 .i64 .i64 _ _ s.size rfl rfl rfl rfl (by rw [hz2]; omega) (by unfold maxLen; omega) (Nat.le_refl _) ?_; intro w1 hown hg; have R := Lib.hid (grel_start hown hg); clear hown hg)
  go_loopw [4] (fun i wr => ∃ k : Nat, k ≤ s.size ∧ i = .int .i64 (k : Int) ∧ GRel s.data.toList w.heap.size w k wr) (fun i _ => s.size - (intOf i).toNat)
  case atStart => exact ⟨0, Nat.zero_le _, rfl, R.out⟩
  case round =>
    obtain ⟨k, hk, rfl, hrl⟩ := hrel
    clear R
    have HR := Lib.hid hrl
    by_cases hlt : k < s.size
    · have hc := hrl.2.2.1 k hlt
      have hfz := hrl.2.2.2 k hlt
      have hb1 : (s[k].toNat : Int) ≤ 255 := by have := s[k].toNat_lt; omega
      clear hrl
      by_cases h1 : 65 ≤ (s[k].toNat : Int)
      · by_cases h2 : (s[k].toNat : Int) ≤ 90
        · go_wp2
          go_roundw
          case rel => exact ⟨k + 1, by omega, by go_num, grel_set HR.out hlt (by rw [bt_at hlt]; unfold fb; rw [if_pos ⟨h1, h2⟩]; omega)⟩
          case measure => simp [intOf]; omega
        · go_wp2
          go_roundw
          case rel => exact ⟨k + 1, by omega, by go_num, grel_one HR.out hlt (by rw [bt_at hlt]; unfold fb; rw [if_neg (by omega)])⟩
          case measure => simp [intOf]; omega
      · go_wp2
        go_roundw
        case rel => exact ⟨k + 1, by omega, by go_num, grel_one HR.out hlt (by rw [bt_at hlt]; unfold fb; rw [if_neg (by omega)])⟩
        case measure => simp [intOf]; omega
    · clear hrl
      obtain rfl : k = s.size := by omega
      have hback := gold_back HR.out s.size
      go_wp2
      go_ret
      exact ⟨rfl, HR.out.1⟩
end Go.Proofs.Ytpmdfpfbnmoinaa
