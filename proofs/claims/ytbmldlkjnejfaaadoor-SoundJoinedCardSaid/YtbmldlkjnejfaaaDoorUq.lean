/- What the statement SoundLists answers: true, whatever the input. -/
import Derived.Test.YtbmldlkjnejfaaaDoorUo
import Derived.Test.YtbmldlkjnejfaaaDoorUl
namespace Go.Proofs.YtbmldlkjnejfaaaDoor
open Go.RowKit
set_option linter.unusedVariables false
set_option linter.unusedSimpArgs false
set_option maxRecDepth 100000

theorem clu_bd {L : List Snd} {n : Nat} (h : L.length ≤ n) : (cluL L).length ≤ n + 1 := by
  unfold cluL; rw [splL_len]; have := List.countP_le_length (p := nuc) (l := L); omega
theorem clu_row {L : List Snd} {n : Nat} (h : L.length ≤ n) : ∀ r ∈ cluL L, r.length ≤ n := fun r hr => Nat.le_trans (spl_size nuc hr) h
/-- Clusters, as lists of lists that can be read. -/
theorem clu_in {L : List Snd} {w w' : World} {A : Option Addr} {n c : Nat} {vs : List (Option Addr × Nat)} (h : Hp w (srv A n c vs (cluL L) :: srows vs (cluL L)) w') (hv : vs.length = n) (hn : (cluL L).length = n) (hL : L.length ≤ 1000000) : SRows w' A (cluL L) :=
  srows_in (l := [srv A n c vs (cluL L)]) h (i := 0) rfl (by rw [hv, hn]) (fun r hr => Nat.le_trans (clu_row hL r hr) (by decide))
theorem nuc_bd {L : List Snd} {n : Nat} (h : L.length ≤ n) : (nucI L).length ≤ n := by rw [nucI_len]; exact Nat.le_trans List.countP_le_length h
set_option maxHeartbeats 8000000 in
theorem lawlists_any (L : List Snd) (n c : Nat) (A : Option Addr) (w : World) (hl : L.length = n) (hn : n ≤ 17592186044416) (hs : ∀ x ∈ L, x.t.length ≤ 140737488355328) (hA : CellsIn w A (sndsC L)) (hm : MaxAt w) :
    Calls Tryd.prog 4 #[.slice A n c] w fun e w' => e = .returned (.bool true) ∧ Below w.heap.size w w' := by
  have HM := Lib.hid hm
  have HL := Lib.hid hl
  have HA := Lib.hid hA
  have HS := Lib.hid hs
  clear hm hA hs
  cases hf : fewB L 210 with
  | false =>
    have HF := Lib.hid hf
    clear hf hl
    go_enter Tryd.func4, Tryd.ntmps4
    go_wp2_with fail
    refine (awake_any _ HM.out).mono ?_
    rintro e w1 ⟨rfl, hb1⟩
    have B1 := Lib.hid hb1
    clear hb1
    go_wp2_with fail
    refine (few_any L 210 n c A _ HL.out hn (by decide) HS.out (HA.out.below B1.out)).mono ?_
    rintro e w2 ⟨rfl, rfl⟩
    rw [HF.out]
    go_wp2_with fail
    refine (awake_any _ (HM.out.below B1.out)).mono ?_
    rintro e w3 ⟨rfl, hb3⟩
    go_wp2_with fail
    go_ret
    exact ⟨rfl, btwo B1.out hb3⟩
  | true =>
    have HF := Lib.hid hf
    have hn2 : n ≤ 210 := by have := (few_yes hf).1; omega
    obtain ⟨m, hm⟩ : ∃ m, m = (nucI L).length := ⟨_, rfl⟩
    have hmb : m ≤ 210 := by rw [hm]; exact nuc_bd (by omega)
    obtain ⟨q, hq⟩ : ∃ q, q = (cluL L).length := ⟨_, rfl⟩
    have hqb : q ≤ 211 := by rw [hq]; exact clu_bd (by omega)
    have HML := Lib.hid hm
    have HQL := Lib.hid hq
    have HLB := Lib.hid (show L.length ≤ 1000000 by omega)
    have HCR := Lib.hid (show ∀ r ∈ cluL L, r.length ≤ 1000000 from clu_row HLB.out)
    clear hf hl hm hq
    go_enter Tryd.func4, Tryd.ntmps4
    go_wp2_with fail
    refine (awake_any _ HM.out).mono ?_
    rintro e w1 ⟨rfl, hb1⟩
    have B1 := Lib.hid hb1
    clear hb1
    go_wp2_with fail
    refine (few_any L 210 n c A _ HL.out hn (by decide) HS.out (HA.out.below B1.out)).mono ?_
    rintro e w2 ⟨rfl, rfl⟩
    rw [HF.out]
    go_wp2_with fail
    refine (clone_any L n c A _ HL.out (by omega) (HA.out.below B1.out)).mono ?_
    rintro e w2 ⟨K2, d2, rfl, hp2⟩
    have B2 := Lib.hid (btwo B1.out hp2.below)
    have C2 := Lib.hid (hp2.cells (i := 0) (A := K2) (c := d2) rfl rfl)
    clear hp2
    go_wp2_with fail
    refine (beats_any L n d2 K2 _ HL.out (by omega) C2.out).mono ?_
    rintro e w3 ⟨rfl, hb3⟩
    have B3 := Lib.hid (btwo B2.out hb3)
    clear hb3
    go_wp2_with fail
    refine (rbeats_any L n c A _ HL.out (by omega) (HA.out.below B3.out)).mono ?_
    rintro e w4 ⟨rfl, hb4⟩
    have B4 := Lib.hid (btwo B3.out hb4)
    clear hb4
    have e1 : (((btL L : Nat) : Int) == ((btL L : Nat) : Int)) = true := by simp
    go_wp2_with fail
    refine (clone_any L n c A _ HL.out (by omega) (HA.out.below B4.out)).mono ?_
    rintro e w5 ⟨K5, d5, rfl, hp5⟩
    have B5 := Lib.hid (btwo B4.out hp5.below)
    have C5 := Lib.hid (hp5.cells (i := 0) (A := K5) (c := d5) rfl rfl)
    clear hp5
    go_wp2_with fail
    refine (nuclei_any L n d5 K5 _ HL.out (by omega) C5.out).mono ?_
    rintro e w6 ⟨K6, m6, d6, rfl, hm6, hp6⟩
    obtain rfl : m6 = m := by rw [hm6, HML.out]
    have B6 := Lib.hid (btwo B5.out hp6.below)
    have C6 := Lib.hid (hp6.cells (i := 0) (A := K6) (c := d6) rfl rfl)
    clear hp6 hm6
    go_wp2_with fail
    refine (rnuclei_any L n c A _ HL.out (by omega) (HA.out.below B6.out)).mono ?_
    rintro e w7 ⟨K7, m7, d7, rfl, hm7, hp7⟩
    obtain rfl : m7 = m6 := by rw [hm7, HML.out]
    have B7 := Lib.hid (btwo B6.out hp7.below)
    have C7 := Lib.hid (hp7.cells (i := 0) (A := K7) (c := d7) rfl rfl)
    have C67 := Lib.hid (C6.out.below hp7.below)
    clear hp7 hm7
    go_wp2_with fail
    refine (equal_nums K6 K7 m7 d6 m7 d7 (nucI L) (nucI L) _ HML.out.symm HML.out.symm (by omega) (by omega) C67.out C7.out).mono ?_
    rintro e w8 ⟨rfl, hb8⟩
    rw [decide_eq_true (rfl : nucI L = nucI L)]
    have B8 := Lib.hid (btwo B7.out hb8)
    clear hb8
    go_wp2_with fail
    refine (clone_any L n c A _ HL.out (by omega) (HA.out.below B8.out)).mono ?_
    rintro e w9 ⟨K9, d9, rfl, hp9⟩
    have B9 := Lib.hid (btwo B8.out hp9.below)
    have C9 := Lib.hid (hp9.cells (i := 0) (A := K9) (c := d9) rfl rfl)
    clear hp9
    go_wp2_with fail
    refine (clusters_any L n d9 K9 _ HL.out (by omega) C9.out).mono ?_
    rintro e w10 ⟨K10, q10, d10, vs10, rfl, hq10, hv10, hp10⟩
    obtain rfl : q10 = q := by rw [← hq10, HQL.out]
    have B10 := Lib.hid (btwo B9.out hp10.below)
    have C10 := Lib.hid (clu_in hp10 hv10 hq10 HLB.out)
    clear hp10 hv10 hq10
    go_wp2_with fail
    refine (rclusters_any L n c A _ HL.out (by omega) (HA.out.below B10.out)).mono ?_
    rintro e w11 ⟨K11, q11, d11, vs11, rfl, hq11, hv11, hp11⟩
    obtain rfl : q11 = q10 := by rw [← hq11, HQL.out]
    have B11 := Lib.hid (btwo B10.out hp11.below)
    have C11 := Lib.hid (clu_in hp11 hv11 hq11 HLB.out)
    have C10b := Lib.hid (C10.out.below hp11.below)
    clear hp11 hv11 hq11
    go_wp2_with fail
    refine (rsamelists_any (cluL L) (cluL L) q11 q11 d10 d11 K10 K11 _ HQL.out.symm HQL.out.symm (by omega) (by omega) C10b.out C11.out HCR.out HCR.out).mono ?_
    rintro e w12 ⟨rfl, hb12⟩
    rw [eqB_yes rfl]
    have B12 := Lib.hid (btwo B11.out hb12)
    clear hb12
    go_wp2_with fail
    go_ret
    exact ⟨rfl, B12.out⟩
end Go.Proofs.YtbmldlkjnejfaaaDoor
