/- Contract of the reference's times. -/
import Derived.Test.YtielpkpalfnfgaaDoorNWu
namespace Go.Proofs.YtielpkpalfnfgaaDoor
open Go.RowKit
set_option linter.unusedVariables false
set_option maxRecDepth 100000

theorem times_end {g i n k nb : Nat} {A0 Lb : List Int} {t : Int} {W wr : World} (h : AddSt g i n A0 Lb t W k 0 wr) (hk : nb ≤ k) (hkn : k ≤ n) (hb : Lb.length = nb) (ha : A0.length = n) (hd : Dig A0) :
    ∃ S : List Int, S.length = n ∧ Dig S ∧ val S = val A0 + t * val Lb ∧ RowIs wr g i S ∧ Chg W wr g i (i + n) := by
  obtain ⟨D, hn, hr, hdD, hv, _, _, hrow, hch⟩ := h
  have e : D.drop k = A0.drop k := by
    apply List.ext_getElem (by simp; omega)
    intro j h1 h2
    have := hr (k + j) (by omega)
    simp at h1 h2
    rw [getD_lt (by omega), getD_lt (by omega)] at this
    simpa using this
  refine ⟨D, hn, ?_, ?_, hrow, hch⟩
  · rw [← List.take_append_drop k D, e]
    exact Dig.append.2 ⟨hdD, hd.drop k⟩
  · rw [take_all_val (L := Lb) (by omega), Int.zero_mul] at hv
    rw [val_take_drop D k (by omega), val_take_drop A0 k (by omega), e]
    have : val (D.take k) = val (A0.take k) + t * val Lb := by omega
    rw [this]; grind
theorem times_zero {g i n nb : Nat} {A0 Lb : List Int} {t c : Int} {W wr : World} (h : AddSt g i n A0 Lb t W (nb + 1) c wr) (hb : Lb.length = nb) (hdb : Dig Lb) (ha : Dig A0) (hn : nb + 1 ≤ A0.length) (t0 : 0 ≤ t) (t1 : t ≤ 9999) (hv0 : val A0 < pw nb) : c = 0 := by
  obtain ⟨D, _, _, hdD, hv, c0, _, _, _⟩ := h
  rw [take_all_val (L := Lb) (by omega), pw_succ] at hv
  have b1 := val_lt hdb
  have b0 := val_nonneg hdb
  rw [hb] at b1
  have d0 := val_nonneg hdD
  have h1 := val_take_drop A0 (nb + 1) hn
  have h2 := Int.mul_nonneg (Int.le_of_lt (pw_pos (nb + 1))) (val_nonneg (ha.drop (nb + 1)))
  have h3 := Int.mul_le_mul_of_nonneg_right t1 b0
  have p := pw_pos nb
  by_cases hc : c ≤ 0
  · omega
  · have h4 := Int.mul_le_mul_of_nonneg_right (show 1 ≤ c by omega) (show 0 ≤ 10000 * pw nb by omega)
    omega
theorem val_pad (L : List Int) : val (L ++ [0]) = val L := by rw [val_append]; simp [val]
theorem times_small {i nb : Nat} {D La Lb : List Int} (hdl : i + (nb + 2) ≤ D.length) (hD : Dig D) (hv : val D = val (Lb ++ [0]) * val (La.take i)) (hlb : Lb.length = nb) (hi : i ≤ La.length) (hda : Dig La) (hdb : Dig Lb) : val (sub D i (nb + 2)) < pw nb := by
  rw [val_pad] at hv
  have b1 := val_lt hdb
  have b0 := val_nonneg hdb
  rw [hlb] at b1
  have b2 := val_lt (hda.take i)
  rw [List.length_take, Nat.min_eq_left hi] at b2
  have b3 := val_nonneg (hda.take i)
  have p1 := pw_pos nb
  have hlt : val D < pw nb * pw i := by
    rw [hv]
    have x1 := Int.mul_le_mul_of_nonneg_right (show val Lb ≤ pw nb - 1 by omega) b3
    have x2 := Int.mul_lt_mul_of_pos_left b2 p1
    have x3 : (pw nb - 1) * val (La.take i) = pw nb * val (La.take i) - val (La.take i) := by grind
    omega
  have s1 := val_drop_lt hD (by omega) hlt
  have s2 := val_sub_le (n := nb + 2) hD hdl
  omega
end Go.Proofs.YtielpkpalfnfgaaDoor
