/- Contract of the chapter's examples: awake. -/
import Derived.Test.YtfgnekbkcmpdiaaGreatDoorUi
import Derived.Test.YtfgnekbkcmpdiaaGreatDoorUj
namespace Go.Proofs.YtfgnekbkcmpdiaaGreatDoor
open Go.RowKit
set_option linter.unusedVariables false
set_option linter.unusedSimpArgs false
set_option maxRecDepth 100000

theorem equal_nums (A1 A2 : Option Addr) (n c m d : Nat) (L M : List Int) (w : World) (hL : L.length = n) (hM : M.length = m) (hn : n ≤ 17592186044416) (hm : m ≤ 17592186044416) (h1 : CellsIn w A1 (ints L)) (h2 : CellsIn w A2 (ints M)) :
    Calls Tryz.prog 18 #[.slice A1 n c, .slice A2 m d] w fun e w' => e = .returned (.bool (decide (L = M))) ∧ Below w.heap.size w w' := by
  by_cases h0 : n = 0
  · subst h0
    have e0 : L = [] := List.eq_nil_of_length_eq_zero hL
    subst e0
    refine (Tryz.slices_Equal_int_empty A1 A2 c m d w (by omega)).mono ?_
    rintro e w' ⟨rfl, rfl⟩
    refine ⟨ret_bool ?_, Below.refl _ _⟩
    apply decide_eq_decide.2
    rw [← hM]
    constructor
    · intro h; exact (List.eq_nil_of_length_eq_zero h).symm
    · intro h; rw [← h]; rfl
  · by_cases hnm : n = m
    · subst hnm
      obtain ⟨b1, o1, rfl, _, hc1⟩ := h1 (by rw [ints_len]; omega)
      obtain ⟨b2, o2, rfl, _, hc2⟩ := h2 (by rw [ints_len]; omega)
      refine (Tryz.slices_Equal_int b1 o1 n c b2 o2 n d L M w (by omega) (by omega) (by omega) (by omega) (fun j hj => hc1 j _ (ints_at hj)) (fun j hj => hc2 j _ (ints_at hj))).mono ?_
      rintro e w' ⟨rfl, q, rfl⟩
      refine ⟨ret_bool ?_, bdrewN _ _⟩
      rw [List.take_of_length_le (by omega), List.take_of_length_le (by omega)]
      by_cases e : L = M
      · rw [decide_eq_true e, beq_iff_eq]; exact e
      · rw [decide_eq_false e, beq_eq_false_iff_ne]; exact e
    · refine (Tryz.slices_Equal_int_lens A1 A2 n c m d w hnm).mono ?_
      rintro e w' ⟨rfl, rfl⟩
      exact ⟨ret_bool (decide_eq_false (fun e => hnm (by rw [← hL, ← hM, e]))).symm, Below.refl _ _⟩
theorem parse_is {l : List UInt8} {L : List Snd} {er : Int} (hv : prsV l = (L, er)) (w : World) (hl : l.length ≤ 4200) (hm : MaxAt w) : Calls Tryz.prog 64 #[.string (bs l)] w (PsPost L er w) :=
  parse_any (bs l) w L er hv (by rw [bs_size]; omega) hm
def awL : List Snd := [⟨1, 3, [97]⟩, ⟨7, 0, [120]⟩, ⟨1, 3, [105]⟩, ⟨6, 0, [115]⟩]
def awM : List Snd := [⟨2, 2, [97, 101]⟩, ⟨9, 0, [104]⟩, ⟨1, 1, [111]⟩]
theorem aw_1 : prsV [97, 47, 118, 51, 32, 120, 47, 120, 32, 105, 47, 118, 51, 32, 115, 47, 115] = (awL, 0) := fmt_prs (by rfl)
theorem aw_2 : prsV [97, 101, 47, 100, 50, 32, 104, 47, 98, 32, 111, 47, 118, 49] = (awM, 0) := fmt_prs (by rfl)
theorem aw_3 : prsV [97, 47, 118] = ([], 2) := prs_none (by decide) (by decide) (rdL_none (k := 0) (p := [97, 47, 118]) rfl (rd_inv (by decide)))
theorem aw_4 : prsV [97, 101, 47, 100, 51] = ([], 2) := prs_none (by decide) (by decide) (rdL_none (k := 0) (p := [97, 101, 47, 100, 51]) rfl (rd_inv (by decide)))
end Go.Proofs.YtfgnekbkcmpdiaaGreatDoor
