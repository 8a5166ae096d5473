/- What the statement SoundFormat answers: true, whatever the input. -/
import Derived.Test.YtbmldlkjnejfaaaDoorUs
import Derived.Test.YtbmldlkjnejfaaaDoorUl
namespace Go.Proofs.YtbmldlkjnejfaaaDoor
open Go.RowKit
set_option linter.unusedVariables false
set_option linter.unusedSimpArgs false
set_option maxRecDepth 100000

set_option maxHeartbeats 8000000 in
theorem lawformat_any (L : List Snd) (n c : Nat) (A : Option Addr) (w : World) (hl : L.length = n) (hn : n ≤ 17592186044416) (hs : ∀ x ∈ L, x.t.length ≤ 140737488355328) (hA : CellsIn w A (sndsC L)) (hm : MaxAt w) :
    Calls Tryd.prog 6 #[.slice A n c] w fun e w' => e = .returned (.bool true) ∧ Below w.heap.size w w' := by
  have HM := Lib.hid hm
  have HL := Lib.hid hl
  have HA := Lib.hid hA
  have HS := Lib.hid hs
  clear hm hA hs
  cases hf : fewB L 210 with
  | false =>
    have HF := Lib.hid hf
    clear hf hl
    go_enter Tryd.func6, Tryd.ntmps6
    go_wp2_with fail
    refine (awake_any _ HM.out).mono ?_
    rintro e w1 ⟨rfl, hb1⟩
    have B1 := Lib.hid hb1
    clear hb1
    go_wp2_with fail
    refine (few_any L 210 n c A _ HL.out hn (by decide) HS.out (HA.out.below B1.out)).mono ?_
    rintro e w2 ⟨rfl, rfl⟩
    rw [HF.out]
    go_wp2_with fail
    refine (awake_any _ (HM.out.below B1.out)).mono ?_
    rintro e w3 ⟨rfl, hb3⟩
    go_wp2_with fail
    go_ret
    exact ⟨rfl, btwo B1.out hb3⟩
  | true =>
    have HF := Lib.hid hf
    have hn2 : n ≤ 210 := by have := (few_yes hf).1; omega
    obtain ⟨l, er, hv⟩ : ∃ l er, fmtV L = (l, er) := ⟨_, _, rfl⟩
    have HV := Lib.hid hv
    clear hf hl
    by_cases h0 : er = 0
    · subst h0
      have HP := Lib.hid (fmt_prs hv)
      have hlb : l.length ≤ 4200 := by
        obtain ⟨a, b, rfl⟩ := fmt_zero hv
        have := txL_len b
        omega
      clear hv
      go_enter Tryd.func6, Tryd.ntmps6
      go_wp2_with fail
      refine (awake_any _ HM.out).mono ?_
      rintro e w1 ⟨rfl, hb1⟩
      have B1 := Lib.hid hb1
      clear hb1
      go_wp2_with fail
      refine (few_any L 210 n c A _ HL.out hn (by decide) HS.out (HA.out.below B1.out)).mono ?_
      rintro e w2 ⟨rfl, rfl⟩
      rw [HF.out]
      go_wp2_with fail
      refine (clone_any L n c A _ HL.out (by omega) (HA.out.below B1.out)).mono ?_
      rintro e w2 ⟨K2, d2, rfl, hp2⟩
      have B2 := Lib.hid (btwo B1.out hp2.below)
      have C2 := Lib.hid (hp2.cells (i := 0) (A := K2) (c := d2) rfl rfl)
      clear hp2
      go_wp2_with fail
      refine (format_any L l _ HV.out n d2 K2 _ HL.out (by omega) HS.out C2.out).mono ?_
      rintro e w3 ⟨rfl, hb3⟩
      have B3 := Lib.hid (btwo B2.out hb3)
      clear hb3
      go_wp2_with fail
      refine (rformat_any L l _ HV.out n c A _ HL.out (by omega) HS.out (HA.out.below B3.out)).mono ?_
      rintro e w4 ⟨rfl, hb4⟩
      have B4 := Lib.hid (btwo B3.out hb4)
      clear hb4
      have e1 : ((bs l).toList != (bs l).toList) = false := by simp
      have e2 : ((bs l).toList == (bs l).toList) = true := by simp
      go_wp2_with fail
      refine (parse_is HP.out _ hlb (HM.out.below B4.out)).mono ?_
      rintro e w5 ⟨K5, n5, d5, rfl, hn5, hp5⟩
      obtain rfl : n5 = n := by rw [← hn5]; exact HL.out
      have B5 := Lib.hid (btwo B4.out hp5.below)
      have C5 := Lib.hid (hp5.cells (i := 0) (A := K5) (c := d5) rfl rfl)
      clear hp5 hn5
      go_wp2_with fail
      refine (rsame_any L L n5 n5 c d5 A K5 _ HL.out HL.out (by omega) (by omega) (HA.out.below B5.out) C5.out).mono ?_
      rintro e w6 ⟨rfl, hb6⟩
      rw [eqB_yes rfl]
      have B6 := Lib.hid (btwo B5.out hb6)
      clear hb6
      go_wp2_with fail
      go_ret
      exact ⟨rfl, B6.out⟩
    · have e0 : (er != 0) = true := bne_yes h0
      have e3 : (er == er) = true := by simp
      have e4 : (er != er) = false := by simp
      clear hv h0
      go_enter Tryd.func6, Tryd.ntmps6
      go_wp2_with fail
      refine (awake_any _ HM.out).mono ?_
      rintro e w1 ⟨rfl, hb1⟩
      have B1 := Lib.hid hb1
      clear hb1
      go_wp2_with fail
      refine (few_any L 210 n c A _ HL.out hn (by decide) HS.out (HA.out.below B1.out)).mono ?_
      rintro e w2 ⟨rfl, rfl⟩
      rw [HF.out]
      go_wp2_with fail
      refine (clone_any L n c A _ HL.out (by omega) (HA.out.below B1.out)).mono ?_
      rintro e w2 ⟨K2, d2, rfl, hp2⟩
      have B2 := Lib.hid (btwo B1.out hp2.below)
      have C2 := Lib.hid (hp2.cells (i := 0) (A := K2) (c := d2) rfl rfl)
      clear hp2
      go_wp2_with fail
      refine (format_any L l _ HV.out n d2 K2 _ HL.out (by omega) HS.out C2.out).mono ?_
      rintro e w3 ⟨rfl, hb3⟩
      have B3 := Lib.hid (btwo B2.out hb3)
      clear hb3
      go_wp2_with fail
      refine (rformat_any L l _ HV.out n c A _ HL.out (by omega) HS.out (HA.out.below B3.out)).mono ?_
      rintro e w4 ⟨rfl, hb4⟩
      have B4 := Lib.hid (btwo B3.out hb4)
      clear hb4
      have e1 : ((bs l).toList != (bs l).toList) = false := by simp
      have e2 : ((bs l).toList == (bs l).toList) = true := by simp
      go_wp2_with fail
      go_ret
      exact ⟨rfl, B4.out⟩
end Go.Proofs.YtbmldlkjnejfaaaDoor
