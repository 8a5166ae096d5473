/- Several texts in one: Zb. -/
import Derived.Test.YtjamfcihjendiaaGreatRaay
import Derived.Test.YtjamfcihjendiaaGreatRaat
import Derived.Test.YtjamfcihjendiaaGreatRaas
import Derived.Test.YtjamfcihjendiaaGreatRaah
import Derived.Test.YtjamfcihjendiaaGreatRaai
namespace Go.Proofs.YtjamfcihjendiaaGreat
open Go.RowKit
set_option linter.unusedVariables false
set_option linter.unusedSimpArgs false
set_option maxRecDepth 100000

set_option maxHeartbeats 2000000 in
theorem costP_any (nm : List UInt8) (L : List Sg) (A : Option Addr) (n c : Nat) (d : List Nat) (D : Option Addr) (m e : Nat) (w : World) (hv : (vO nm L).2 = 0) (hl : L.length = n) (hA : SgnIn w A L) (hd : ∀ i ∈ d, i < n) (hm : d.length = m) (hmb : m ≤ 1000) (hD : CellsIn w D (ints (dI d))) :
    Calls Tryz.prog 28 #[.agg #[.string (bs nm), .slice A n c], .slice D m e] w fun r w' => r = .returned (.int .i64 (cD L d)) ∧ Below w.heap.size w w' := by
  obtain ⟨g1, hg1⟩ : ∃ z, z = w.heap.size := ⟨_, rfl⟩
  obtain ⟨W1, hW1⟩ : ∃ z, z = w.alloc (.cells #[.string (bs nm), .slice A n c] 24) := ⟨_, rfl⟩
  have V1 := Lib.hid (show Hp w [obox g1 nm A n c] W1 by rw [hW1, hg1]; exact (Hp.start w).obox_new nm A n c)
  have HW1 := Lib.hid hW1
  have HG1 := Lib.hid hg1
  have HV := Lib.hid hv
  have HL := Lib.hid hl
  have HA := Lib.hid hA
  have HD := Lib.hid hD
  have HDN := Lib.hid hd
  have HM := Lib.hid hm
  have HACC := Lib.hid (cD_acc hv (by rw [hl]; exact hd))
  have hn120 : n ≤ 120 := by have := (vO_zero hv).2.2.1; omega
  clear hW1 hg1 hv hl hA hD hd hm
  go_enter Tryz.func28, Tryz.ntmps28
  go_upto_region 2 with fail
  rw [← HG1.out, ← HW1.out]
  go_wp2_with fail
  go_loopw [5, 10] (fun v i wr => ∃ k : Nat, k ≤ m ∧ i = .int .i64 (k : Int) ∧ v = .int .i64 (cD L (d.take k)) ∧ Hp w [obox g1 nm A n c] wr) (fun _ i _ => m - (intOf i).toNat)
  case atStart => exact ⟨0, Nat.zero_le _, rfl, rfl, V1.out⟩
  case round =>
    obtain ⟨k, hk, rfl, rfl, hV⟩ := hrel
    obtain ⟨wi, rfl⟩ : ∃ wi : World, wi = wr := ⟨_, rfl⟩
    have V3 := Lib.hid hV
    clear hV V1
    obtain ⟨o0, o1, o2⟩ := V3.out.obox_at (i := 0) rfl
    by_cases hlt : k < m
    · obtain ⟨i, hi⟩ := get_at (L := d) (k := k) (by have := HM.out; omega)
      have hin := HDN.out i (List.mem_of_getElem? hi)
      obtain ⟨bD, oD, hDe, hbD, d0⟩ := (HD.out.below V3.out.below).idx hi
      obtain ⟨x, hx⟩ := get_at (L := L) (k := i) (by have := HL.out; omega)
      obtain ⟨b, off, Aj, cj, hAe, hb, c0, c1, c2, c3, c4⟩ := (HA.out.below V3.out.below).at hx
      have HX := Lib.hid (sgAt_is hx)
      obtain ⟨acc, hacc⟩ : ∃ z, z = cD L (d.take k) := ⟨_, rfl⟩
      have HN := Lib.hid (show cD L (d.take (k + 1)) = acc + x.c by rw [cD_take hi, sgAt_is hx, hacc])
      have hab := HACC.out k
      rw [← hacc] at hab
      have hmm : (d.length : Int) ≤ 1000 := by have := HM.out; omega
      have hab2 : 0 ≤ acc ∧ acc ≤ 99000 := by omega
      have hxc : 0 ≤ x.c ∧ x.c ≤ 99 := by have := sgn_bd HV.out (i := i) (by rw [HL.out]; exact hin); rw [sgAt_is hx] at this; omega
      have hwr : IntKind.i64.wrap (acc + x.c) = acc + x.c := IntWalk.i64_in _ (by omega)
      rw [← hacc]
      rw [hAe] at o1
      have HAE := Lib.hid hAe
      have HDE := Lib.hid hDe
      subst hAe
      subst hDe
      have hi4 : i * 4 ≤ 480 := by omega
      clear hi hx hacc hab c0 c1 c3 c4
      go_wp2_with fail
      go_roundw
      case rel => exact ⟨k + 1, by omega, by go_num, by rw [HN.out], V3.out⟩
      case measure => simp [intOf]; omega
    · obtain rfl : k = m := by omega
      have HE := Lib.hid (show d.take k = d from List.take_of_length_le (by have := HM.out; omega))
      rw [HE.out]
      go_wp2_with fail
      go_ret
      exact ⟨rfl, V3.out.below⟩
theorem join_one16 {t : List UInt8} (h : ¬ t.length = 0) (h4 : t.length ≤ 16) : (T.joinVal (T.lists fun _ => bs t) 1).2 = if T.allLtr t = true then 0 else 2 := by
  have hne : t ≠ [] := fun e => h (by rw [e]; rfl)
  have e0 : T.lists (fun _ => bs t) 0 = t := rfl
  have e1 : T.jst (T.lists fun _ => bs t) 1 = T.err1 t := by rw [T.jst_step rfl, e0]
  have e2 : (T.joinF (T.lists fun _ => bs t) 1).length = t.length := by rw [T.joinF_succ_len, e0]; simp [T.joinF]
  cases hl : T.allLtr t with
  | true =>
    rw [T.joinVal_ok (by rw [e1]; exact T.err1_ok hne hl) (by rw [e2]; omega)]; rfl
  | false =>
    rw [T.joinVal_err (x := 2) (by rw [e1]; exact T.err1_bad hne hl) (by decide)]; rfl
set_option maxHeartbeats 4000000 in
theorem folded_any (t : List UInt8) (w : World) (h0 : ¬ t.length = 0) (h4 : t.length ≤ 16) :
    Calls Tryz.prog 57 #[.string (bs t)] w fun e w' => e = .returned (.bool (t.all isLow)) ∧ Below w.heap.size w w' := by
  obtain ⟨g1, hg1⟩ : ∃ z, z = w.heap.size := ⟨_, rfl⟩
  obtain ⟨W1, hW1⟩ : ∃ z, z = w.alloc (.cells #[.string (bs t)] 9) := ⟨_, rfl⟩
  have HA := Lib.hid (show T.StrArg W1 (some ⟨g1, 0, none⟩) 1 (fun _ => bs t) from ⟨fun _ _ => by rw [bs_size]; omega, fun _ => ⟨g1, 0, rfl, by rw [hW1, hg1]; simp, fun i hi => by
    obtain rfl : i = 0 := by omega
    rw [hW1, hg1, World.cell?_alloc_mark]; rfl⟩⟩)
  have HL := Lib.hid (show (T.joinF (T.lists fun _ => bs t) 1).length ≤ 500 by
    rw [T.joinF_succ_len, show T.lists (fun _ => bs t) 0 = t from rfl]; simp [T.joinF]; omega)
  have HJ := Lib.hid (join_one16 h0 h4)
  have B1 := Lib.hid (show Below w.heap.size w W1 by rw [hW1]; exact bnew _ _)
  have HW1 := Lib.hid hW1
  have HG1 := Lib.hid hg1
  have HS := Lib.hid (small_is t)
  have HZ := Lib.hid (show (bs t).size ≤ maxLen by rw [bs_size]; unfold maxLen; omega)
  clear hW1 hg1 h0 h4
  go_enter Tryz.func57, Tryz.ntmps57
  go_wp2_with fail
  rw [← HG1.out, ← HW1.out]
  refine (T.tjoin_any 1 1 (fun _ => bs t) (some ⟨g1, 0, none⟩) _ (by decide) (by decide) HA.out HL.out).mono ?_
  rintro e w2 ⟨rfl, hb⟩
  rw [HJ.out]
  have B2 := Lib.hid (btwo B1.out hb)
  clear hb
  cases hl : T.allLtr t with
  | true =>
    have HE := Lib.hid (show t.all isLow = (T.foldL t == t) by rw [HS.out, hl]; rfl)
    clear hl
    rw [if_pos rfl]
    go_wp2_with fail
    refine (T.tfold_any (bs t) _ HZ.out).mono ?_
    rintro e w3 ⟨rfl, hb⟩
    have B3 := Lib.hid (btwo B2.out hb)
    clear hb
    cases hs : (T.foldL t == t) with
    | true =>
      have e1 : ((⟨(T.foldL t).toArray⟩ : ByteArray).toList == (bs t).toList) = true := by
        rw [show (⟨(T.foldL t).toArray⟩ : ByteArray) = bs (T.foldL t) from rfl, toL, toL]; exact hs
      have e1' : (T.foldL t == (bs t).toList) = true := by rw [toL]; exact hs
      have HF := Lib.hid hs
      clear hs
      rw [bs_list]
      go_wp2_with fail
      go_ret
      exact ⟨ret_bool (by rw [HE.out, HF.out]), B3.out⟩
    | false =>
      have e1 : ((⟨(T.foldL t).toArray⟩ : ByteArray).toList == (bs t).toList) = false := by
        rw [show (⟨(T.foldL t).toArray⟩ : ByteArray) = bs (T.foldL t) from rfl, toL, toL]; exact hs
      have e1' : (T.foldL t == (bs t).toList) = false := by rw [toL]; exact hs
      have HF := Lib.hid hs
      clear hs
      rw [bs_list]
      go_wp2_with fail
      go_ret
      exact ⟨ret_bool (by rw [HE.out, HF.out]), B3.out⟩
  | false =>
    have HE := Lib.hid (show t.all isLow = false by rw [HS.out, hl]; rfl)
    clear hl
    rw [if_neg (by decide)]
    go_wp2_with fail
    go_ret
    exact ⟨ret_bool HE.out.symm, B2.out⟩
set_option maxHeartbeats 2000000 in
theorem wfault_any (nm : List UInt8) (L : List Sg) (A : Option Addr) (n c : Nat) (t : List UInt8) (w : World) (hnm : nm.length ≤ 140737488355328) (hl : L.length = n) (hn : n ≤ 17592186044416) (hnc : n ≤ c) (hs : SgBd L) (hA : SgnIn w A L) (ht : t.length ≤ 1000000) :
    Calls Tryz.prog 32 #[.agg #[.string (bs nm), .slice A n c], .string (bs t)] w fun e w' => e = .returned (.int .i64 (gvE nm L t)) ∧ Below w.heap.size w w' := by
  obtain ⟨g1, hg1⟩ : ∃ z, z = w.heap.size := ⟨_, rfl⟩
  obtain ⟨W1, hW1⟩ : ∃ z, z = w.alloc (.cells #[.string (bs nm), .slice A n c] 24) := ⟨_, rfl⟩
  have V1 := Lib.hid (show Hp w [obox g1 nm A n c] W1 by rw [hW1, hg1]; exact (Hp.start w).obox_new nm A n c)
  have HW1 := Lib.hid hW1
  have HG1 := Lib.hid hg1
  have HV := Lib.hid (ovalid_any nm L A n c W1 hnm hl hn hnc hs (hA.below V1.out.below))
  obtain ⟨z0, z1, z2⟩ := V1.out.obox_at (i := 0) rfl
  obtain ⟨tl, htl⟩ : ∃ tl, tl = t.length := ⟨_, rfl⟩
  obtain ⟨s, hs⟩ : ∃ s, s = bs t := ⟨_, rfl⟩
  have hz : s.size = tl := by rw [hs, bs_size]; exact htl.symm
  have HTL := Lib.hid htl
  have HS := Lib.hid hs
  rw [← htl] at ht
  rw [← hs]
  clear hW1 hg1 hA hs hl hnm htl
  go_enter Tryz.func32, Tryz.ntmps32
  go_upto_region 1 with fail
  rw [← HG1.out, ← HW1.out]
  go_wp2_with fail
  refine HV.out.mono ?_
  rintro e w2 ⟨rfl, hb⟩
  have V2 := Lib.hid (V1.out.go hb)
  clear hb z0 z1 z2
  by_cases hv : (vO nm L).2 = 0
  case neg =>
    have HE := Lib.hid (show gvE nm L t = (vO nm L).2 by unfold gvE; rw [if_neg hv])
    obtain ⟨v, hvv⟩ : ∃ v, v = (vO nm L).2 := ⟨_, rfl⟩
    rw [← hvv] at hv HE ⊢
    have e1 : (v != 0) = true := bne_yes hv
    clear hv hvv
    go_wp2_with fail
    go_ret
    exact ⟨sym_int HE.out, V2.out.below⟩
  have HG := Lib.hid (show gvE nm L t = wdE t by unfold gvE; rw [if_pos hv])
  rw [hv]
  clear hv
  by_cases h0 : tl = 0
  · obtain ⟨q1, q2⟩ := emp_l (t := t) (by have := HTL.out; omega)
    rw [← HS.out] at q1 q2
    have HE := Lib.hid (show gvE nm L t = 7 by rw [HG.out]; unfold wdE; rw [if_pos (by have := HTL.out; omega)])
    clear h0
    go_wp2_with fail
    go_ret
    exact ⟨sym_int HE.out, V2.out.below⟩
  obtain ⟨q1, q2⟩ := ful_l (t := t) (by have := HTL.out; omega)
  rw [← HS.out] at q1 q2
  by_cases h4 : 16 < tl
  · have HE := Lib.hid (show gvE nm L t = 3 by rw [HG.out]; unfold wdE; rw [if_neg (by have := HTL.out; omega), if_pos (by have := HTL.out; omega)])
    clear h0
    go_wp2_with fail
    go_ret
    exact ⟨sym_int HE.out, V2.out.below⟩
  have HW := Lib.hid (show gvE nm L t = if t.all isLow = true then 0 else 2 by rw [HG.out]; unfold wdE; rw [if_neg (by have := HTL.out; omega), if_neg (by have := HTL.out; omega)])
  have HF := Lib.hid (fun w' => folded_any t w' (by have := HTL.out; omega) (by have := HTL.out; omega))
  clear h0
  go_wp2_with fail
  rw [HS.out]
  refine (HF.out _).mono ?_
  rintro e w3 ⟨rfl, hb⟩
  have V3 := Lib.hid (V2.out.go hb)
  clear hb q1 q2
  cases hlow : t.all isLow with
  | true =>
    have HE := Lib.hid (show gvE nm L t = 0 by rw [HW.out, hlow]; rfl)
    clear hlow
    go_wp2_with fail
    go_ret
    exact ⟨sym_int HE.out, V3.out.below⟩
  | false =>
    have HE := Lib.hid (show gvE nm L t = 2 by rw [HW.out, hlow]; rfl)
    clear hlow
    go_wp2_with fail
    go_ret
    exact ⟨sym_int HE.out, V3.out.below⟩
set_option maxHeartbeats 2000000 in
theorem areSigns_any (nm : List UInt8) (A : Option Addr) (n c : Nat) (d : List Int) (D : Option Addr) (m e : Nat) (w : World) (hm : d.length = m) (hmb : m ≤ 17592186044416) (hD : CellsIn w D (ints d)) :
    Calls Tryz.prog 56 #[.agg #[.string (bs nm), .slice A n c], .slice D m e] w fun r w' => r = .returned (.bool (rgI n d)) ∧ Below w.heap.size w w' := by
  obtain ⟨g1, hg1⟩ : ∃ z, z = w.heap.size := ⟨_, rfl⟩
  obtain ⟨W1, hW1⟩ : ∃ z, z = w.alloc (.cells #[.string (bs nm), .slice A n c] 24) := ⟨_, rfl⟩
  have V1 := Lib.hid (show Hp w [obox g1 nm A n c] W1 by rw [hW1, hg1]; exact (Hp.start w).obox_new nm A n c)
  have HW1 := Lib.hid hW1
  have HG1 := Lib.hid hg1
  have HD := Lib.hid hD
  have HM := Lib.hid hm
  clear hW1 hg1 hD hm
  go_enter Tryz.func56, Tryz.ntmps56
  go_upto_region 1 with fail
  rw [← HG1.out, ← HW1.out]
  go_wp2_with fail
  go_loopw [9] (fun i wr => ∃ k : Nat, k ≤ m ∧ i = .int .i64 (k : Int) ∧ rgI n (d.take k) = true ∧ Hp w [obox g1 nm A n c] wr) (fun i _ => m - (intOf i).toNat)
  case atStart => exact ⟨0, Nat.zero_le _, rfl, rfl, V1.out⟩
  case round =>
    obtain ⟨k, hk, rfl, hr, hV⟩ := hrel
    obtain ⟨wi, rfl⟩ : ∃ wi : World, wi = wr := ⟨_, rfl⟩
    have V3 := Lib.hid hV
    have HR := Lib.hid hr
    clear hV hr V1
    by_cases hlt : k < m
    · obtain ⟨z, hz⟩ := get_at (L := d) (k := k) (by have := HM.out; omega)
      obtain ⟨bD, oD, hDe, hbD, d0⟩ := (HD.out.below V3.out.below).num hz
      have HZ := Lib.hid hz
      obtain ⟨z0, z1, z2⟩ := V3.out.obox_at (i := 0) rfl
      subst hDe
      clear hz
      by_cases hneg : z < 0
      · have e1 : decide (z < 0) = true := decide_eq_true hneg
        have HE := Lib.hid (show rgI n d = false from rg_bad (n := n) HZ.out (by omega))
        go_wp2_with fail
        go_ret
        exact ⟨ret_bool HE.out.symm, V3.out.below⟩
      · have e1 : decide (z < 0) = false := decide_eq_false hneg
        by_cases hbig : (n : Int) ≤ z
        · have e2 : decide ((n : Int) ≤ z) = true := decide_eq_true hbig
          have HE := Lib.hid (show rgI n d = false from rg_bad (n := n) HZ.out (by omega))
          go_wp2_with fail
          go_ret
          exact ⟨ret_bool HE.out.symm, V3.out.below⟩
        · have e2 : decide ((n : Int) ≤ z) = false := decide_eq_false hbig
          have HN := Lib.hid (rg_take HR.out HZ.out ⟨by omega, by omega⟩)
          go_wp2_with fail
          go_roundw
          case rel => exact ⟨k + 1, by omega, by go_num, HN.out, V3.out⟩
          case measure => simp [intOf]; omega
    · obtain rfl : k = m := by omega
      have HE := Lib.hid (show rgI n d = true by have := HR.out; rwa [List.take_of_length_le (by have := HM.out; omega)] at this)
      go_wp2_with fail
      go_ret
      exact ⟨ret_bool HE.out.symm, V3.out.below⟩
set_option maxHeartbeats 2000000 in
theorem lfault_any (nm : List UInt8) (L : List Sg) (A : Option Addr) (n c : Nat) (d : List Int) (D : Option Addr) (m e : Nat) (w : World) (hnm : nm.length ≤ 140737488355328) (hl : L.length = n) (hn : n ≤ 17592186044416) (hnc : n ≤ c) (hs : SgBd L) (hA : SgnIn w A L) (hm : d.length = m) (hmb : m ≤ 17592186044416) (hD : CellsIn w D (ints d)) :
    Calls Tryz.prog 31 #[.agg #[.string (bs nm), .slice A n c], .slice D m e] w fun e w' => e = .returned (.int .i64 (lsE nm L d)) ∧ Below w.heap.size w w' := by
  obtain ⟨g1, hg1⟩ : ∃ z, z = w.heap.size := ⟨_, rfl⟩
  obtain ⟨W1, hW1⟩ : ∃ z, z = w.alloc (.cells #[.string (bs nm), .slice A n c] 24) := ⟨_, rfl⟩
  have V1 := Lib.hid (show Hp w [obox g1 nm A n c] W1 by rw [hW1, hg1]; exact (Hp.start w).obox_new nm A n c)
  have HW1 := Lib.hid hW1
  have HG1 := Lib.hid hg1
  have HV := Lib.hid (ovalid_any nm L A n c W1 hnm hl hn hnc hs (hA.below V1.out.below))
  obtain ⟨z0, z1, z2⟩ := V1.out.obox_at (i := 0) rfl
  have HM := Lib.hid hm
  have HD := Lib.hid hD
  have HL := Lib.hid hl
  clear hW1 hg1 hA hs hl hnm hm hD
  go_enter Tryz.func31, Tryz.ntmps31
  go_upto_region 1 with fail
  rw [← HG1.out, ← HW1.out]
  go_wp2_with fail
  refine HV.out.mono ?_
  rintro e w2 ⟨rfl, hb⟩
  have V2 := Lib.hid (V1.out.go hb)
  clear hb z0 z1 z2
  by_cases hv : (vO nm L).2 = 0
  case neg =>
    have HE := Lib.hid (show lsE nm L d = (vO nm L).2 by unfold lsE; rw [if_pos hv])
    obtain ⟨v, hvv⟩ : ∃ v, v = (vO nm L).2 := ⟨_, rfl⟩
    rw [← hvv] at hv HE ⊢
    have e1 : (v != 0) = true := bne_yes hv
    clear hv hvv
    go_wp2_with fail
    go_ret
    exact ⟨sym_int HE.out, V2.out.below⟩
  have HG := Lib.hid (show lsE nm L d = if 16 < d.length then 3 else if rgI L.length d = true then 0 else 6 by unfold lsE; rw [if_neg (by rw [hv]; simp)])
  rw [hv]
  clear hv
  by_cases h4 : 16 < m
  · have HE := Lib.hid (show lsE nm L d = 3 by rw [HG.out, if_pos (by have := HM.out; omega)])
    go_wp2_with fail
    go_ret
    exact ⟨sym_int HE.out, V2.out.below⟩
  have HW := Lib.hid (show lsE nm L d = if rgI n d = true then 0 else 6 by rw [HG.out, if_neg (by have := HM.out; omega), HL.out])
  obtain ⟨z0, z1, z2⟩ := V2.out.obox_at (i := 0) rfl
  go_wp2_with fail
  refine (areSigns_any nm A n c d D m _ _ HM.out hmb (HD.out.below V2.out.below)).mono ?_
  rintro e w3 ⟨rfl, hb⟩
  have V3 := Lib.hid (V2.out.go hb)
  clear hb z0 z1 z2
  cases hlow : rgI n d with
  | true =>
    have HE := Lib.hid (show lsE nm L d = 0 by rw [HW.out, hlow]; rfl)
    clear hlow
    go_wp2_with fail
    go_ret
    exact ⟨sym_int HE.out, V3.out.below⟩
  | false =>
    have HE := Lib.hid (show lsE nm L d = 6 by rw [HW.out, hlow]; rfl)
    clear hlow
    go_wp2_with fail
    go_ret
    exact ⟨sym_int HE.out, V3.out.below⟩
end Go.Proofs.YtjamfcihjendiaaGreat
