/- Contract of the chapter's examples: awake. -/
import Derived.Test.YtbmldlkjnejfaaaDoorUi
import Derived.Test.YtbmldlkjnejfaaaDoorUj
namespace Go.Proofs.YtbmldlkjnejfaaaDoor
open Go.RowKit
set_option linter.unusedVariables false
set_option linter.unusedSimpArgs false
set_option maxRecDepth 100000

theorem equal_nums (A1 A2 : Option Addr) (n c m d : Nat) (L M : List Int) (w : World) (hL : L.length = n) (hM : M.length = m) (hn : n ≤ 17592186044416) (hm : m ≤ 17592186044416) (h1 : CellsIn w A1 (ints L)) (h2 : CellsIn w A2 (ints M)) :
    Calls Tryd.prog 20 #[.slice A1 n c, .slice A2 m d] w fun e w' => e = .returned (.bool (decide (L = M))) ∧ Below w.heap.size w w' := by
  by_cases h0 : n = 0
  · subst h0
    have e0 : L = [] := List.eq_nil_of_length_eq_zero hL
    subst e0
    refine (Tryd.slices_Equal_int_empty A1 A2 c m d w (by omega)).mono ?_
    rintro e w' ⟨rfl, rfl⟩
    refine ⟨ret_bool ?_, Below.refl _ _⟩
    apply decide_eq_decide.2
    rw [← hM]
    constructor
    · intro h; exact (List.eq_nil_of_length_eq_zero h).symm
    · intro h; rw [← h]; rfl
  · by_cases hnm : n = m
    · subst hnm
      obtain ⟨b1, o1, rfl, _, hc1⟩ := h1 (by rw [ints_len]; omega)
      obtain ⟨b2, o2, rfl, _, hc2⟩ := h2 (by rw [ints_len]; omega)
      refine (Tryd.slices_Equal_int b1 o1 n c b2 o2 n d L M w (by omega) (by omega) (by omega) (by omega) (fun j hj => hc1 j _ (ints_at hj)) (fun j hj => hc2 j _ (ints_at hj))).mono ?_
      rintro e w' ⟨rfl, q, rfl⟩
      refine ⟨ret_bool ?_, bdrewN _ _⟩
      rw [List.take_of_length_le (by omega), List.take_of_length_le (by omega)]
      by_cases e : L = M
      · rw [decide_eq_true e, beq_iff_eq]; exact e
      · rw [decide_eq_false e, beq_eq_false_iff_ne]; exact e
    · refine (Tryd.slices_Equal_int_lens A1 A2 n c m d w hnm).mono ?_
      rintro e w' ⟨rfl, rfl⟩
      exact ⟨ret_bool (decide_eq_false (fun e => hnm (by rw [← hL, ← hM, e]))).symm, Below.refl _ _⟩
theorem parse_is {l : List UInt8} {L : List Snd} {er : Int} (hv : prsV l = (L, er)) (w : World) (hl : l.length ≤ 4200) (hm : MaxAt w) : Calls Tryd.prog 30 #[.string (bs l)] w (PsPost L er w) :=
  parse_any (bs l) w L er hv (by rw [bs_size]; omega) hm
def awL : List Snd := [⟨1, 3, [97]⟩, ⟨7, 0, [120]⟩, ⟨1, 3, [105]⟩, ⟨6, 0, [115]⟩]
def awM : List Snd := [⟨2, 2, [97, 101]⟩, ⟨9, 0, [104]⟩, ⟨1, 1, [111]⟩]
theorem aw_1 : prsV [97, 47, 118, 51, 32, 120, 47, 120, 32, 105, 47, 118, 51, 32, 115, 47, 115] = (awL, 0) := fmt_prs (by rfl)
theorem aw_2 : prsV [97, 101, 47, 100, 50, 32, 104, 47, 98, 32, 111, 47, 118, 49] = (awM, 0) := fmt_prs (by rfl)
theorem aw_3 : prsV [97, 47, 118] = ([], 2) := prs_none (by decide) (by decide) (rdL_none (k := 0) (p := [97, 47, 118]) rfl (rd_inv (by decide)))
theorem aw_4 : prsV [97, 101, 47, 100, 51] = ([], 2) := prs_none (by decide) (by decide) (rdL_none (k := 0) (p := [97, 101, 47, 100, 51]) rfl (rd_inv (by decide)))
set_option maxHeartbeats 8000000 in
theorem awake_any (w : World) (hm : MaxAt w) : Calls Tryd.prog 11 #[] w fun e w' => e = .returned (.bool true) ∧ Below w.heap.size w w' := by
  have HM := Lib.hid hm
  clear hm
  go_enter Tryd.func11, Tryd.ntmps11
  go_wp2_with fail
  refine (parse_is aw_1 _ (by decide) HM.out).mono ?_
  rintro e w1 ⟨A1, n1, c1, rfl, hn1, hp1⟩
  obtain rfl : n1 = 4 := hn1.symm
  have B1 := Lib.hid hp1.below
  have C1 := Lib.hid (hp1.cells (i := 0) (A := A1) (c := c1) rfl rfl)
  clear hp1 hn1
  go_wp2_with fail
  refine (parse_is aw_2 _ (by decide) (HM.out.below B1.out)).mono ?_
  rintro e w2 ⟨A2, n2, c2, rfl, hn2, hp2⟩
  obtain rfl : n2 = 3 := hn2.symm
  have B2 := Lib.hid (btwo B1.out hp2.below)
  have C12 := Lib.hid (C1.out.below hp2.below)
  have C2 := Lib.hid (hp2.cells (i := 0) (A := A2) (c := c2) rfl rfl)
  clear hp2 hn2
  go_wp2_with fail
  refine (parse_is aw_3 _ (by decide) (HM.out.below B2.out)).mono ?_
  rintro e w3 ⟨A3, n3, c3, rfl, hn3, hp3⟩
  obtain rfl : n3 = 0 := hn3.symm
  have B3 := Lib.hid (btwo B2.out hp3.below)
  have C13 := Lib.hid (C12.out.below hp3.below)
  have C23 := Lib.hid (C2.out.below hp3.below)
  clear hp3 hn3
  go_wp2_with fail
  refine (parse_is aw_4 _ (by decide) (HM.out.below B3.out)).mono ?_
  rintro e w4 ⟨A4, n4, c4, rfl, hn4, hp4⟩
  obtain rfl : n4 = 0 := hn4.symm
  have B4 := Lib.hid (btwo B3.out hp4.below)
  have C14 := Lib.hid (C13.out.below hp4.below)
  have C24 := Lib.hid (C23.out.below hp4.below)
  clear hp4 hn4
  go_wp2_with fail
  refine (nuclei_any awL 4 c1 A1 _ rfl (by decide) C14.out).mono ?_
  rintro e w5 ⟨N5, m5, d5, rfl, hm5, hp5⟩
  obtain rfl : m5 = 2 := hm5
  have B5 := Lib.hid (btwo B4.out hp5.below)
  have C15 := Lib.hid (C14.out.below hp5.below)
  have C25 := Lib.hid (C24.out.below hp5.below)
  have X5 := Lib.hid (hp5.cells (i := 0) (A := N5) (c := d5) rfl rfl)
  clear hp5
  obtain ⟨W, hW⟩ : ∃ W, W = w5.alloc (.cells #[.int .i64 0, .int .i64 2] 3) := ⟨_, rfl⟩
  obtain ⟨g, hg⟩ : ∃ g, g = w5.heap.size := ⟨_, rfl⟩
  have P6 := (Hp.start w5).lit 3 1 2 [.int .i64 0, .int .i64 2] rfl (by decide)
  have Y6 := Lib.hid (show CellsIn W (some ⟨g, 0, none⟩) (ints [0, 2]) by rw [hW, hg]; exact P6.cells (i := 0) (A := some ⟨w5.heap.size, 0, none⟩) (c := 2) rfl rfl)
  have B6 := Lib.hid (show Below w5.heap.size w5 W by rw [hW]; exact bnew _ _)
  have HW := Lib.hid hW
  have HG := Lib.hid hg
  clear P6 hW hg
  go_wp2_with fail
  rw [← HW.out, ← HG.out]
  refine (equal_nums N5 (some ⟨g, 0, none⟩) 2 d5 2 2 (nucI awL) [0, 2] W rfl rfl (by decide) (by decide) (X5.out.below B6.out) Y6.out).mono ?_
  rintro e w6 ⟨rfl, hb6⟩
  rw [show decide (nucI awL = [0, 2]) = true from rfl]
  have B7 := Lib.hid (btwo (btwo B5.out B6.out) hb6)
  have C16 := Lib.hid ((C15.out.below B6.out).below hb6)
  have C26 := Lib.hid ((C25.out.below B6.out).below hb6)
  clear hb6
  go_wp2_with fail
  refine (clusters_any awL 4 c1 A1 _ rfl (by decide) C16.out).mono ?_
  rintro e w7 ⟨N7, m7, d7, vs7, rfl, hm7, _, hp7⟩
  obtain rfl : m7 = 3 := hm7.symm
  have B8 := Lib.hid (btwo B7.out hp7.below)
  have C17 := Lib.hid (C16.out.below hp7.below)
  have C27 := Lib.hid (C26.out.below hp7.below)
  clear hp7 hm7
  go_wp2_with fail
  refine (beats_any awL 4 c1 A1 _ rfl (by decide) C17.out).mono ?_
  rintro e w8 ⟨rfl, hb8⟩
  rw [show btL awL = 3 from rfl]
  have B9 := Lib.hid (btwo B8.out hb8)
  have C28 := Lib.hid (C27.out.below hb8)
  clear hb8
  go_wp2_with fail
  refine (nuclei_any awM 3 c2 A2 _ rfl (by decide) C28.out).mono ?_
  rintro e w9 ⟨N9, m9, d9, rfl, hm9, hp9⟩
  obtain rfl : m9 = 2 := hm9
  have B10 := Lib.hid (btwo B9.out hp9.below)
  have C29 := Lib.hid (C28.out.below hp9.below)
  clear hp9
  go_wp2_with fail
  refine (beats_any awM 3 c2 A2 _ rfl (by decide) C29.out).mono ?_
  rintro e wa ⟨rfl, hba⟩
  rw [show btL awM = 0 from rfl]
  have B11 := Lib.hid (btwo B10.out hba)
  clear hba
  go_wp2_with fail
  go_ret
  exact ⟨rfl, B11.out⟩
end Go.Proofs.YtbmldlkjnejfaaaDoor
