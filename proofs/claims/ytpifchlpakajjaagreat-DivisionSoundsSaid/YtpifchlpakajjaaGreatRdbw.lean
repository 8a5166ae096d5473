/- Several texts in one: Zo, Zp. -/
import Derived.Test.YtpifchlpakajjaaGreatRdbv
import Derived.Test.YtpifchlpakajjaaGreatRdbs
import Derived.Test.YtpifchlpakajjaaGreatRdbq
import Derived.Test.YtpifchlpakajjaaGreatRdbn
import Derived.Test.YtpifchlpakajjaaGreatRdav
import Derived.Test.YtpifchlpakajjaaGreatRdam
import Derived.Test.YtpifchlpakajjaaGreatRdap
import Derived.Test.YtpifchlpakajjaaGreatRdan
import Derived.Test.YtpifchlpakajjaaGreatRdbr
import Derived.Test.YtpifchlpakajjaaGreatRdbp
import Derived.Test.YtpifchlpakajjaaGreatRdbe
import Derived.Test.YtpifchlpakajjaaGreatRdbf
namespace Go.Proofs.YtpifchlpakajjaaGreat
open Go.RowKit
set_option linter.unusedVariables false
set_option linter.unusedSimpArgs false
set_option maxRecDepth 100000

def fwD (nm : List UInt8) (L : List Sg) (a b : Nat) : Bool := fewO nm L && (decide (a ≤ 40) && decide (b ≤ 40))
theorem fwD_yes {nm : List UInt8} {L : List Sg} {a b : Nat} (h : fwD nm L a b = true) : fewO nm L = true ∧ a ≤ 40 ∧ b ≤ 40 := by unfold fwD at h; simpa using h
set_option maxHeartbeats 3000000 in
theorem few13_any (nm : List UInt8) (A : Option Addr) (n c : Nat) (L : List Sg) (t : List UInt8) (D : Option Addr) (m e : Nat) (w : World) (hnm : nm.length ≤ 140737488355328) (hl : L.length = n) (hn : n ≤ 17592186044416) (hlim : ∀ x ∈ L, SgLim x) (hO : SgnIn w A L) (ht : t.length ≤ maxLen) (hm : m ≤ 17592186044416) :
    Calls Tryz.prog 11 #[.agg #[.string (bs nm), .slice A n c], .string (bs t), .slice D m e] w fun r w' => r = .returned (.bool (fwD nm L t.length m)) ∧ Below w.heap.size w w' := by
  obtain ⟨g1, hg1⟩ : ∃ z, z = w.heap.size := ⟨_, rfl⟩
  obtain ⟨W1, hW1⟩ : ∃ z, z = w.alloc (.cells #[.string (bs nm), .slice A n c] 24) := ⟨_, rfl⟩
  have V1 := Lib.hid (show Hp w [obox g1 nm A n c] W1 by rw [hW1, hg1]; exact (Hp.start w).obox_new nm A n c)
  have HW1 := Lib.hid hW1
  have HG1 := Lib.hid hg1
  have HO := Lib.hid hO
  have HL := Lib.hid hl
  have HLIM := Lib.hid hlim
  obtain ⟨ty, hty⟩ : ∃ y, y = t.length := ⟨_, rfl⟩
  have htz : (bs t).size = ty := by rw [bs_size]; exact hty.symm
  have HTY := Lib.hid hty
  rw [← hty] at ht
  unfold maxLen at ht
  obtain ⟨z0, z1, z2⟩ := V1.out.obox_at (i := 0) rfl
  clear hW1 hg1 hO hl hlim hty
  go_enter Tryz.func11, Tryz.ntmps11
  go_upto_region 1 with fail
  rw [← HG1.out, ← HW1.out]
  go_wp2_with fail
  refine (rfewO_any nm L A n c _ hnm HL.out hn HLIM.out (HO.out.below V1.out.below)).mono ?_
  rintro e2 w3 ⟨rfl, hb⟩
  have V3 := Lib.hid (V1.out.go hb)
  clear hb z0 z1 z2
  cases hf : fewO nm L with
  | false =>
    have HE := Lib.hid (show fwD nm L t.length m = false by unfold fwD; rw [hf]; rfl)
    clear hf
    go_wp2_with fail
    go_ret
    exact ⟨ret_bool HE.out.symm, V3.out.below⟩
  | true =>
  have HF := Lib.hid hf
  clear hf
  by_cases h1 : ty ≤ 40
  case neg =>
    have HE := Lib.hid (show fwD nm L t.length m = false by unfold fwD; rw [decide_eq_false (show ¬ t.length ≤ 40 by rw [← HTY.out]; exact h1)]; simp)
    go_wp2_with fail
    go_ret
    exact ⟨ret_bool HE.out.symm, V3.out.below⟩
  by_cases h2 : m ≤ 40
  case neg =>
    have HE := Lib.hid (show fwD nm L t.length m = false by unfold fwD; rw [decide_eq_false h2]; simp)
    go_wp2_with fail
    go_ret
    exact ⟨ret_bool (by rw [HE.out]; exact decide_eq_false (by omega)), V3.out.below⟩
  have HE := Lib.hid (show fwD nm L t.length m = true by unfold fwD; rw [HF.out, decide_eq_true (show t.length ≤ 40 by rw [← HTY.out]; exact h1), decide_eq_true h2]; rfl)
  go_wp2_with fail
  go_ret
  exact ⟨ret_bool (by rw [HE.out]; exact decide_eq_true (by omega)), V3.out.below⟩
theorem reach_end {nm : List UInt8} {L : List Sg} {u : List UInt8} {q : Nat} (hg : gvE nm L u = 0) (h : RMax L u q) (hd : bgE nm L u = 0 ∨ bgE nm L u = 3) : q = u.length := by
  obtain ⟨hv, hw⟩ := gvE_zero hg
  have h0 : 0 < u.length := (wdE_zero hw).1
  have hne : (dvs L u).length ≠ 0 := by
    intro e
    unfold bgE at hd
    rw [if_neg (by rw [hg]; simp), if_pos e] at hd
    rcases hd with hd | hd <;> exact absurd hd (by decide)
  obtain ⟨d, hd⟩ := List.exists_mem_of_length_pos (Nat.pos_of_ne_zero hne)
  obtain ⟨a, b, _⟩ := (dvs_mem (TxNe.ok hv) h0 d).1 hd
  have h1 := h.2 u.length ⟨Nat.le_refl _, d, a, by rw [b, List.take_length]⟩
  have h2 := h.1.1
  omega
theorem offD_len (L : List Sg) : ∀ (a : Nat) (d : List Nat), (offD L a d).length = (sndD L d).length
  | _, [] => rfl
  | a, i :: r => by
    rw [offD, List.length_append, List.length_replicate, offD_len L _ r]
    unfold sndD
    rw [List.flatMap_cons, List.length_append]
theorem sdR_len (nm : List UInt8) (L : List Sg) (d : List Int) : (sdR nm L d).length ≤ 32 ∧ (ofR nm L d).length ≤ 32 := by
  unfold sdR ofR
  by_cases h : lsE nm L d = 0
  · rw [if_pos h, if_pos h, offD_len]
    obtain ⟨h1, h2, h3⟩ := lsE_zero h
    have := tD_len_le h1 (d := dN d) (fun i hi => by
      obtain ⟨z, hz, e⟩ := List.mem_map.1 hi
      have := rgI_is.1 h3 z hz
      omega)
    have hl := dN_len d
    omega
  · rw [if_neg h, if_neg h]; simp
set_option maxHeartbeats 3000000 in
theorem lawdivisionreached_any (nm : List UInt8) (A : Option Addr) (n c : Nat) (L : List Sg) (t : List UInt8) (w : World) (hnm : nm.length ≤ 140737488355328) (hl : L.length = n) (hnc : n ≤ c) (hn : n ≤ 17592186044416) (hlim : ∀ x ∈ L, SgLim x) (hO : SgnIn w A L) (ht : t.length ≤ maxLen) :
    Calls Tryz.prog 6 #[.agg #[.string (bs nm), .slice A n c], .string (bs t)] w fun e w' => e = .returned (.bool true) ∧ Below w.heap.size w w' := by
  obtain ⟨g1, hg1⟩ : ∃ z, z = w.heap.size := ⟨_, rfl⟩
  obtain ⟨W1, hW1⟩ : ∃ z, z = w.alloc (.cells #[.string (bs nm), .slice A n c] 24) := ⟨_, rfl⟩
  have V1 := Lib.hid (show Hp w [obox g1 nm A n c] W1 by rw [hW1, hg1]; exact (Hp.start w).obox_new nm A n c)
  have HW1 := Lib.hid hW1
  have HG1 := Lib.hid hg1
  have HO := Lib.hid hO
  have HL := Lib.hid hl
  have HLIM := Lib.hid hlim
  have HT := Lib.hid ht
  obtain ⟨ty, hty⟩ : ∃ y, y = t.length := ⟨_, rfl⟩
  have htz : (bs t).size = ty := by rw [bs_size]; exact hty.symm
  have HTY := Lib.hid hty
  unfold maxLen at ht
  rw [← hty] at ht
  clear hW1 hg1 hO hl hlim hty
  go_enter Tryz.func6, Tryz.ntmps6
  go_upto_region 1 with fail
  rw [← HG1.out, ← HW1.out]
  go_wp2_with fail
  refine (awake13_any _).mono ?_
  rintro e wa ⟨rfl, hb⟩
  have V2 := Lib.hid (V1.out.go hb)
  clear hb
  obtain ⟨z0, z1, z2⟩ := V2.out.obox_at (i := 0) rfl
  go_wp2_with fail
  refine (few13_any nm A n c L t none 0 0 _ hnm HL.out hn HLIM.out (HO.out.below V2.out.below) HT.out (by decide)).mono ?_
  rintro e w3 ⟨rfl, hb⟩
  have V3 := Lib.hid (V2.out.go hb)
  clear hb z0 z1 z2
  cases hf : fwD nm L t.length 0 with
  | false =>
    clear hf
    go_wp2_with fail
    refine (awake13_any _).mono ?_
    rintro e wa ⟨rfl, hb⟩
    have VZ := Lib.hid (V3.out.go hb)
    clear hb
    go_wp2_with fail
    go_ret
    exact ⟨rfl, VZ.out.below⟩
  | true =>
  obtain ⟨hf1, hf2, hf3⟩ := fwD_yes hf
  have HSB := Lib.hid (fewO_bd hf1 HLIM.out)
  clear hf hf1
  rw [← HTY.out] at hf2
  have hu : t.length ≤ 1000000 := by rw [← HTY.out]; omega
  have HU := Lib.hid hu
  clear hu
  obtain ⟨z0, z1, z2⟩ := V3.out.obox_at (i := 0) rfl
  go_wp2_with fail
  refine (reachedD_any nm L A n c t _ hnm HL.out hn hnc HSB.out (HO.out.below V3.out.below) HU.out).mono ?_
  rintro e w4 ⟨z, rfl, hz, hz0, hb⟩
  have HZ := Lib.hid hz
  have HZ0 := Lib.hid hz0
  have V4 := Lib.hid (V3.out.go hb)
  obtain ⟨E, hE⟩ : ∃ E, E = gvE nm L t := ⟨_, rfl⟩
  have HEE := Lib.hid hE
  rw [← hE]
  clear hb z0 z1 z2 hz hz0 hE
  obtain ⟨z0, z1, z2⟩ := V4.out.obox_at (i := 0) rfl
  go_wp2_with fail
  refine (rreached13_any nm L A n c t _ hnm HL.out hn HSB.out (HO.out.below V4.out.below) HU.out).mono ?_
  rintro e w5 ⟨z', rfl, hz, hz0, hb⟩
  have hzz : z' = z := by
    by_cases h : gvE nm L t = 0
    · obtain ⟨q, e1, h1⟩ := hz h
      obtain ⟨p, e2, h2⟩ := HZ.out h
      rw [e1, e2, h1.uniq h2]
    · rw [hz0 h, HZ0.out h]
  subst hzz
  have V5 := Lib.hid (V4.out.go hb)
  rw [← HEE.out]
  clear hb z0 z1 z2 hz hz0
  obtain ⟨z0, z1, z2⟩ := V5.out.obox_at (i := 0) rfl
  go_wp2_with fail
  refine (countD_any nm L A n c t _ hnm HL.out hn hnc HSB.out (HO.out.below V5.out.below) HU.out).mono ?_
  rintro e w6 ⟨rfl, hb⟩
  have V6 := Lib.hid (V5.out.go hb)
  obtain ⟨F, hF⟩ : ∃ F, F = bgE nm L t := ⟨_, rfl⟩
  rw [← hF]
  have hend : E = 0 → F = 0 ∨ F = 3 → z' = (ty : Int) := fun h1 h2 => by
    rw [HEE.out] at h1
    obtain ⟨q, e1, h3⟩ := HZ.out h1
    rw [e1, reach_end h1 h3 (by rw [← hF]; exact h2), HTY.out]
  clear hb hF z0 z1 z2
  by_cases c1 : F = 0 ∨ F = 3
  case neg =>
    have f1 : F ≠ 0 := fun e => c1 (Or.inl e)
    have f2 : F ≠ 3 := fun e => c1 (Or.inr e)
    clear c1 hend
    go_wp2_with fail
    go_ret
    exact ⟨rfl, V6.out.below⟩
  by_cases c2 : E = 0
  case neg =>
    clear hend
    rcases c1 with rfl | rfl
    all_goals
      go_wp2_with fail
      go_ret
      exact ⟨rfl, V6.out.below⟩
  have hzt := hend c2 c1
  subst hzt
  subst c2
  clear hend
  rcases c1 with rfl | rfl
  all_goals
    go_wp2_with fail
    go_ret
    exact ⟨rfl, V6.out.below⟩
set_option maxHeartbeats 3000000 in
theorem lawdivisionsounds_any (nm : List UInt8) (A : Option Addr) (n c : Nat) (L : List Sg) (d : List Int) (D : Option Addr) (m e : Nat) (w : World) (hnm : nm.length ≤ 140737488355328) (hl : L.length = n) (hnc : n ≤ c) (hn : n ≤ 17592186044416) (hlim : ∀ x ∈ L, SgLim x) (hO : SgnIn w A L) (hd : d.length = m) (hm : m ≤ 17592186044416) (hD : CellsIn w D (ints d)) :
    Calls Tryz.prog 7 #[.agg #[.string (bs nm), .slice A n c], .slice D m e] w fun e w' => e = .returned (.bool true) ∧ Below w.heap.size w w' := by
  obtain ⟨g1, hg1⟩ : ∃ z, z = w.heap.size := ⟨_, rfl⟩
  obtain ⟨W1, hW1⟩ : ∃ z, z = w.alloc (.cells #[.string (bs nm), .slice A n c] 24) := ⟨_, rfl⟩
  have V1 := Lib.hid (show Hp w [obox g1 nm A n c] W1 by rw [hW1, hg1]; exact (Hp.start w).obox_new nm A n c)
  have HW1 := Lib.hid hW1
  have HG1 := Lib.hid hg1
  have HO := Lib.hid hO
  have HL := Lib.hid hl
  have HLIM := Lib.hid hlim
  have HD := Lib.hid hd
  have HDC := Lib.hid hD
  clear hW1 hg1 hO hl hlim hd hD
  go_enter Tryz.func7, Tryz.ntmps7
  go_upto_region 1 with fail
  rw [← HG1.out, ← HW1.out]
  go_wp2_with fail
  refine (awake13_any _).mono ?_
  rintro e wa ⟨rfl, hb⟩
  have V2 := Lib.hid (V1.out.go hb)
  clear hb
  obtain ⟨z0, z1, z2⟩ := V2.out.obox_at (i := 0) rfl
  go_wp2_with fail
  refine (few13_any nm A n c L [] D m e _ hnm HL.out hn HLIM.out (HO.out.below V2.out.below) (by decide) hm).mono ?_
  rintro e w3 ⟨rfl, hb⟩
  have V3 := Lib.hid (V2.out.go hb)
  clear hb z0 z1 z2
  cases hf : fwD nm L ([] : List UInt8).length m with
  | false =>
    clear hf
    go_wp2_with fail
    refine (awake13_any _).mono ?_
    rintro e wa ⟨rfl, hb⟩
    have VZ := Lib.hid (V3.out.go hb)
    clear hb
    go_wp2_with fail
    go_ret
    exact ⟨rfl, VZ.out.below⟩
  | true =>
  obtain ⟨hf1, hf2, hf3⟩ := fwD_yes hf
  have HSB := Lib.hid (fewO_bd hf1 HLIM.out)
  clear hf hf1
  clear hf2
  have hm1 : m ≤ 1000 := by omega
  obtain ⟨E, hE⟩ : ∃ E, E = lsE nm L d := ⟨_, rfl⟩
  have HEE := Lib.hid hE
  obtain ⟨sl, sl2⟩ := sdR_len nm L d
  have HS1 := Lib.hid sl
  have HS2 := Lib.hid sl2
  clear hE sl sl2
  obtain ⟨z0, z1, z2⟩ := V3.out.obox_at (i := 0) rfl
  go_wp2_with fail
  refine (soundsD_any nm L A n c d D m e _ hnm HL.out hn hnc HSB.out (HO.out.below V3.out.below) HD.out hm (HDC.out.below V3.out.below)).mono ?_
  rintro r w4 ⟨C3, q3, k3, rfl, hq, hp⟩
  have hb := hp.below
  have HQ3 := Lib.hid hq
  have hqb : q3 ≤ 32 := by rw [← hq]; exact HS1.out
  have hc := hp.cells (i := 0) (it := snds C3 q3 k3 (sdR nm L d)) rfl (A := C3) (c := k3) rfl
  have QB3 := Lib.hid hqb
  have HC3 := Lib.hid hc
  clear hq hp hqb hc
  rw [← HEE.out]
  have V4 := Lib.hid (V3.out.go hb)
  clear hb z0 z1 z2
  obtain ⟨z0, z1, z2⟩ := V4.out.obox_at (i := 0) rfl
  go_wp2_with fail
  refine (rsounds13_any nm L A n c d D m e _ hnm HL.out hn HSB.out (HO.out.below V4.out.below) HD.out hm1 (HDC.out.below V4.out.below)).mono ?_
  rintro r w5 ⟨C4, q4, k4, rfl, hq, hp⟩
  have hb := hp.below
  have HQ4 := Lib.hid hq
  have hqb : q4 ≤ 32 := by rw [← hq]; exact HS1.out
  have hc := hp.cells (i := 0) (it := snds C4 q4 k4 (sdR nm L d)) rfl (A := C4) (c := k4) rfl
  have QB4 := Lib.hid hqb
  have HC4 := Lib.hid hc
  clear hq hp hqb hc
  rw [← HEE.out]
  have V5 := Lib.hid (V4.out.go hb)
  have HC3 := Lib.hid (HC3.out.below hb)
  clear hb z0 z1 z2
  obtain ⟨z0, z1, z2⟩ := V5.out.obox_at (i := 0) rfl
  go_wp2_with fail
  refine (offsetsD_any nm L A n c d D m e _ hnm HL.out hn hnc HSB.out (HO.out.below V5.out.below) HD.out hm (HDC.out.below V5.out.below)).mono ?_
  rintro r w6 ⟨C5, q5, k5, rfl, hq, hp⟩
  have hb := hp.below
  have HQ5 := Lib.hid hq
  have hqb : q5 ≤ 32 := by rw [← hq]; exact HS2.out
  have hc := hp.cells (i := 0) (it := nums C5 q5 k5 (ofR nm L d)) rfl (A := C5) (c := k5) rfl
  have QB5 := Lib.hid hqb
  have HC5 := Lib.hid hc
  clear hq hp hqb hc
  rw [← HEE.out]
  have V6 := Lib.hid (V5.out.go hb)
  have HC3 := Lib.hid (HC3.out.below hb)
  have HC4 := Lib.hid (HC4.out.below hb)
  clear hb z0 z1 z2
  obtain ⟨z0, z1, z2⟩ := V6.out.obox_at (i := 0) rfl
  go_wp2_with fail
  refine (roffsets13_any nm L A n c d D m e _ hnm HL.out hn HSB.out (HO.out.below V6.out.below) HD.out hm1 (HDC.out.below V6.out.below)).mono ?_
  rintro r w7 ⟨C6, q6, k6, rfl, hq, hp⟩
  have hb := hp.below
  have HQ6 := Lib.hid hq
  have hqb : q6 ≤ 32 := by rw [← hq]; exact HS2.out
  have hc := hp.cells (i := 0) (it := nums C6 q6 k6 (ofR nm L d)) rfl (A := C6) (c := k6) rfl
  have QB6 := Lib.hid hqb
  have HC6 := Lib.hid hc
  clear hq hp hqb hc
  rw [← HEE.out]
  have V7 := Lib.hid (V6.out.go hb)
  have HC3 := Lib.hid (HC3.out.below hb)
  have HC4 := Lib.hid (HC4.out.below hb)
  have HC5 := Lib.hid (HC5.out.below hb)
  clear hb z0 z1 z2
  obtain ⟨z0, z1, z2⟩ := V7.out.obox_at (i := 0) rfl
  go_wp2_with fail
  refine (textD_any nm L A n c d D m e _ hnm HL.out hn hnc HSB.out (HO.out.below V7.out.below) HD.out hm (HDC.out.below V7.out.below)).mono ?_
  rintro r w8 ⟨rfl, hb⟩
  rw [← HEE.out]
  have V8 := Lib.hid (V7.out.go hb)
  have HC3 := Lib.hid (HC3.out.below hb)
  have HC4 := Lib.hid (HC4.out.below hb)
  have HC5 := Lib.hid (HC5.out.below hb)
  have HC6 := Lib.hid (HC6.out.below hb)
  clear hb z0 z1 z2
  obtain ⟨z0, z1, z2⟩ := V8.out.obox_at (i := 0) rfl
  go_wp2_with fail
  refine (rtext13_any nm L A n c d D m e _ hnm HL.out hn HSB.out (HO.out.below V8.out.below) HD.out hm1 (HDC.out.below V8.out.below)).mono ?_
  rintro r w9 ⟨rfl, hb⟩
  rw [← HEE.out]
  have V9 := Lib.hid (V8.out.go hb)
  have HC3 := Lib.hid (HC3.out.below hb)
  have HC4 := Lib.hid (HC4.out.below hb)
  have HC5 := Lib.hid (HC5.out.below hb)
  have HC6 := Lib.hid (HC6.out.below hb)
  clear hb z0 z1 z2
  have hqa : q4 = q3 := by rw [← HQ4.out, ← HQ3.out]
  have hqc : q6 = q5 := by rw [← HQ6.out, ← HQ5.out]
  subst hqa
  subst hqc
  obtain ⟨x, hx⟩ : ∃ x, x = txR nm L d := ⟨_, rfl⟩
  rw [← hx]
  clear hx
  go_wp2_with fail
  refine (rsame_any (sdR nm L d) (sdR nm L d) q4 q4 k3 k4 C3 C4 _ HQ3.out HQ3.out (by have := QB3.out; omega) (by have := QB3.out; omega) HC3.out HC4.out).mono ?_
  rintro r wA ⟨rfl, hb⟩
  rw [eqB_yes rfl]
  have V10 := Lib.hid (V9.out.go hb)
  have HC5 := Lib.hid (HC5.out.below hb)
  have HC6 := Lib.hid (HC6.out.below hb)
  clear hb
  go_wp2_with fail
  refine (equal_nums C5 C6 q6 k5 q6 k6 (ofR nm L d) (ofR nm L d) _ HQ5.out HQ5.out (by have := QB5.out; omega) (by have := QB5.out; omega) HC5.out HC6.out).mono ?_
  rintro r wB ⟨rfl, hb⟩
  rw [decide_eq_true rfl]
  have V11 := Lib.hid (V10.out.go hb)
  clear hb
  go_wp2_with fail
  go_ret
  exact ⟨rfl, V11.out.below⟩
end Go.Proofs.YtpifchlpakajjaaGreat

namespace Go.Proofs.YtpifchlpakajjaaGreat
open Go.RowKit
set_option linter.unusedVariables false
set_option linter.unusedSimpArgs false
set_option maxRecDepth 100000

theorem bef_cost {L : List Sg} {a b : List Nat} (h : befB L a b = true) : cD L a ≤ cD L b := by
  unfold befB at h
  split at h
  · omega
  · have := of_decide_eq_true h; omega
theorem srtD_top {L : List Sg} {l : List (List Nat)} (h : l.Nodup) {x : List Nat} {r : List (List Nat)} (e : srtD L l = x :: r) {y : List Nat} (hy : y ∈ l) : cD L x ≤ cD L y := by
  have h1 := srtD_ord (L := L) h
  have h2 := (srtD_mem (L := L) h y).2 hy
  rw [e] at h1 h2
  rcases List.mem_cons.1 h2 with rfl | h3
  · exact Int.le_refl _
  · exact bef_cost (List.rel_of_pairwise_cons h1 h3)
theorem chk_has {nm : List UInt8} {L : List Sg} {u : List UInt8} (h0 : bgE nm L u = 0) (hg : gvE nm L u = 0) (d : List Int) : ((srtD L (dvs L u)).map dI).any (fun y => decide (y = d)) = decide (chE nm L u d = 0) := by
  have hne := TxNe.ok (gvE_zero hg).1
  have hu := (bgE_zero h0).2.1
  rw [Bool.eq_iff_iff, List.any_eq_true, decide_eq_true_eq, chE_zero]
  constructor
  · rintro ⟨y, hy, e⟩
    obtain ⟨x, hx, rfl⟩ := List.mem_map.1 hy
    have e := of_decide_eq_true e
    subst e
    have hi := (dvs_mem hne hu x).1 ((srtD_mem (dvs_nodup hne u) x).1 hx)
    refine ⟨hg, rgI_is.2 (fun i hi2 => ?_), by rw [dN_dI]; exact hi⟩
    obtain ⟨k, hk, rfl⟩ := List.mem_map.1 hi2
    have := hi.1 k hk
    exact ⟨Int.natCast_nonneg _, Int.ofNat_lt.2 this⟩
  · rintro ⟨_, h1, h2⟩
    exact ⟨dI (dN d), List.mem_map_of_mem ((srtD_mem (dvs_nodup hne u) _).2 ((dvs_mem hne hu _).2 h2)), decide_eq_true (dI_dN h1)⟩
theorem chk_none {nm : List UInt8} {L : List Sg} {u : List UInt8} {d : List Int} (h : bgE nm L u ≠ 0) (h3 : bgE nm L u ≠ 3) : chE nm L u d ≠ 0 := by
  intro e
  obtain ⟨hg, h1, h2⟩ := chE_zero.1 e
  obtain ⟨hv, hw⟩ := gvE_zero hg
  have hu : 0 < u.length := (wdE_zero hw).1
  have hm := (dvs_mem (TxNe.ok hv) hu _).2 h2
  unfold bgE at h h3
  rw [if_neg (by rw [hg]; simp), if_neg (by intro e2; rw [List.eq_nil_of_length_eq_zero e2] at hm; cases hm)] at h h3
  split at h
  · rename_i h200; rw [if_pos h200] at h3; exact h3 rfl
  · exact h rfl
set_option maxHeartbeats 3000000 in
theorem lawdivisioncheck_any (nm : List UInt8) (A : Option Addr) (n c : Nat) (L : List Sg) (t : List UInt8) (d : List Int) (D : Option Addr) (m e : Nat) (w : World) (hnm : nm.length ≤ 140737488355328) (hl : L.length = n) (hnc : n ≤ c) (hn : n ≤ 17592186044416) (hlim : ∀ x ∈ L, SgLim x) (hO : SgnIn w A L) (ht : t.length ≤ maxLen) (hd : d.length = m) (hm : m ≤ 17592186044416) (hD : CellsIn w D (ints d)) :
    Calls Tryz.prog 5 #[.agg #[.string (bs nm), .slice A n c], .string (bs t), .slice D m e] w fun e w' => e = .returned (.bool true) ∧ Below w.heap.size w w' := by
  obtain ⟨g1, hg1⟩ : ∃ z, z = w.heap.size := ⟨_, rfl⟩
  obtain ⟨W1, hW1⟩ : ∃ z, z = w.alloc (.cells #[.string (bs nm), .slice A n c] 24) := ⟨_, rfl⟩
  have V1 := Lib.hid (show Hp w [obox g1 nm A n c] W1 by rw [hW1, hg1]; exact (Hp.start w).obox_new nm A n c)
  have HW1 := Lib.hid hW1
  have HG1 := Lib.hid hg1
  have HO := Lib.hid hO
  have HL := Lib.hid hl
  have HLIM := Lib.hid hlim
  have HT := Lib.hid ht
  have HD := Lib.hid hd
  have HDC := Lib.hid hD
  obtain ⟨ty, hty⟩ : ∃ y, y = t.length := ⟨_, rfl⟩
  have htz : (bs t).size = ty := by rw [bs_size]; exact hty.symm
  have HTY := Lib.hid hty
  unfold maxLen at ht
  rw [← hty] at ht
  clear hW1 hg1 hO hl hlim hty hd hD
  go_enter Tryz.func5, Tryz.ntmps5
  go_upto_region 1 with fail
  rw [← HG1.out, ← HW1.out]
  go_wp2_with fail
  refine (awake13_any _).mono ?_
  rintro e wa ⟨rfl, hb⟩
  have V2 := Lib.hid (V1.out.go hb)
  clear hb
  obtain ⟨z0, z1, z2⟩ := V2.out.obox_at (i := 0) rfl
  go_wp2_with fail
  refine (few13_any nm A n c L t D m e _ hnm HL.out hn HLIM.out (HO.out.below V2.out.below) HT.out hm).mono ?_
  rintro e w3 ⟨rfl, hb⟩
  have V3 := Lib.hid (V2.out.go hb)
  clear hb z0 z1 z2
  cases hf : fwD nm L t.length m with
  | false =>
    clear hf
    go_wp2_with fail
    refine (awake13_any _).mono ?_
    rintro e wa ⟨rfl, hb⟩
    have VZ := Lib.hid (V3.out.go hb)
    clear hb
    go_wp2_with fail
    go_ret
    exact ⟨rfl, VZ.out.below⟩
  | true =>
  obtain ⟨hf1, hf2, hf3⟩ := fwD_yes hf
  have HSB := Lib.hid (fewO_bd hf1 HLIM.out)
  clear hf hf1
  rw [← HTY.out] at hf2
  have hu : t.length ≤ 1000000 := by rw [← HTY.out]; omega
  have HU := Lib.hid hu
  have hm1 : m ≤ 1000 := by omega
  clear hu
  obtain ⟨z0, z1, z2⟩ := V3.out.obox_at (i := 0) rfl
  go_wp2_with fail
  refine (checkD_any nm L A n c t d D m e _ hnm HL.out hn hnc HSB.out (HO.out.below V3.out.below) HU.out HD.out hm1 (HDC.out.below V3.out.below)).mono ?_
  rintro r w4 ⟨rfl, hb⟩
  have V4 := Lib.hid (V3.out.go hb)
  obtain ⟨E, hE⟩ : ∃ E, E = chE nm L t d := ⟨_, rfl⟩
  obtain ⟨K, hK⟩ : ∃ K, K = chC nm L t d := ⟨_, rfl⟩
  have HEE := Lib.hid hE
  have HK := Lib.hid hK
  rw [← hE, ← hK]
  clear hb z0 z1 z2 hE hK
  obtain ⟨z0, z1, z2⟩ := V4.out.obox_at (i := 0) rfl
  go_wp2_with fail
  refine (rcheck13_any nm L A n c t d D m e _ hnm HL.out hn HSB.out (HO.out.below V4.out.below) HU.out HD.out hm1 (HDC.out.below V4.out.below)).mono ?_
  rintro r w5 ⟨rfl, hb⟩
  have V5 := Lib.hid (V4.out.go hb)
  rw [← HEE.out, ← HK.out]
  clear hb z0 z1 z2
  obtain ⟨z0, z1, z2⟩ := V5.out.obox_at (i := 0) rfl
  go_wp2_with fail
  refine (all_any nm L A n c t _ hnm HL.out hn hnc HSB.out (HO.out.below V5.out.below) HU.out).mono ?_
  rintro r w6 (⟨hne, rfl, hb⟩ | ⟨h0, Q, q, e', ps, pool, rfl, hpl, hpe, hp, hpo⟩)
  · have V6 := Lib.hid (V5.out.go hb)
    obtain ⟨F, hF⟩ : ∃ F, F = bgE nm L t := ⟨_, rfl⟩
    rw [← hF] at hne ⊢
    have hE0 : F ≠ 3 → E ≠ 0 := fun h => by rw [HEE.out]; rw [hF] at hne h; exact chk_none hne h
    clear hF hb z0 z1 z2
    by_cases f3 : F = 3
    · subst f3
      clear hE0 hne
      by_cases f0 : E = 0
      · subst f0
        go_wp2_with fail
        go_ret
        exact ⟨rfl, V6.out.below⟩
      · go_wp2_with fail
        go_ret
        exact ⟨rfl, V6.out.below⟩
    · have f0 := hE0 f3
      clear hE0
      go_wp2_with fail
      go_ret
      exact ⟨rfl, V6.out.below⟩
  have hg : gvE nm L t = 0 := by
    have h1 := h0
    unfold bgE at h1
    split at h1
    · rename_i h2; exact absurd h1 h2
    · rename_i h2; exact Classical.not_not.1 h2
  obtain ⟨hv, hu0, hu16, hl0, hl200⟩ := bgE_zero h0
  have hnd := dvs_nodup (TxNe.ok hv) t
  have hb := hp.below
  have V6 := Lib.hid (V5.out.go hb)
  have hq : q ≤ 200 := by
    have h1 : (ps.map (·.2)).length = q := by rw [List.length_map, hpl]
    rw [hpe, srtD_len] at h1
    omega
  have hrow := rows_in hp (fun p hp2 => by
    have h1 : p.2 ∈ ps.map (·.2) := List.mem_map_of_mem hp2
    rw [hpe, srtD_mem hnd] at h1
    have := (dv_bd hv hu0 hu16 h1).1
    omega) hpo
  rw [rows_map hpe] at hrow
  have hlen : ((srtD L (dvs L t)).map dI).length = q := by rw [List.length_map, ← hpe, List.length_map, hpl]
  have HROW := Lib.hid hrow
  have HLEN := Lib.hid hlen
  have HPE := Lib.hid hpe
  have HND := Lib.hid hnd
  have H0 := Lib.hid h0
  have HG := Lib.hid hg
  clear hb hp hpo hpe hpl hlen hrow hnd h0 hg hv hu0 hu16 hl0 hl200 z0 z1 z2
  obtain ⟨z0, z1, z2⟩ := V6.out.obox_at (i := 0) rfl
  go_wp2_with fail
  refine (bestD_any nm L A n c t _ hnm HL.out hn hnc HSB.out (HO.out.below V6.out.below) HU.out).mono ?_
  rintro r w7 (⟨hne, _⟩ | ⟨_, C, dC, x, rr, rfl, hx, hp7⟩)
  · exact absurd H0.out hne
  have hb := hp7.below
  have V7 := Lib.hid (V6.out.go hb)
  have HROW7 := Lib.hid (HROW.out.below hb)
  obtain ⟨X, hX⟩ : ∃ X, X = cD L x := ⟨_, rfl⟩
  rw [← hX]
  have hle : E = 0 → X ≤ K := fun h => by
    rw [HEE.out] at h
    obtain ⟨_, _, h2⟩ := chE_zero.1 h
    have hbz := bgE_zero H0.out
    rw [hX, HK.out]
    unfold chC
    rw [if_pos h]
    exact srtD_top HND.out hx ((dvs_mem (TxNe.ok hbz.1) hbz.2.1 _).2 h2)
  clear hb hX hp7 hx z0 z1 z2 HROW
  go_wp2_with fail
  refine (rhas_any Q D q e' m e _ d _ HLEN.out HD.out (by omega) (by omega) HROW7.out (HDC.out.below V7.out.below)).mono ?_
  rintro r w8 ⟨rfl, hb⟩
  rw [chk_has H0.out HG.out d, ← HEE.out]
  have V8 := Lib.hid (V7.out.go hb)
  clear hb
  by_cases f0 : E = 0
  · subst f0
    have hle := hle rfl
    rw [decide_eq_true rfl]
    go_wp2_with fail
    go_ret
    exact ⟨rfl, V8.out.below⟩
  · rw [decide_eq_false f0]
    have e1 : (E == 0) = false := beq_no f0
    clear hle
    go_wp2_with fail
    go_ret
    exact ⟨rfl, V8.out.below⟩
end Go.Proofs.YtpifchlpakajjaaGreat
