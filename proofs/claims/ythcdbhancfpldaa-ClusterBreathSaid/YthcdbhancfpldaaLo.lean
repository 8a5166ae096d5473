/- Walks of ClusterCoda and ClusterBreath. -/
import Derived.Test.YthcdbhancfpldaaLn
namespace Go.Proofs.Ythcdbhancfpldaa
open Go.RowKit
set_option linter.unusedVariables false
set_option linter.unusedSimpArgs false
set_option maxRecDepth 100000

set_option maxHeartbeats 8000000 in
theorem lawcoda_any (AD : Option Addr) (nd cd : Nat) (D : List Int) (q : Int) (w : World) (hD : D.length = nd ∧ nd ≤ 1000000000000000) (hDz : ∀ z ∈ D, 0 ≤ z ∧ z ≤ 255) (hDc : CellsIn w AD (bytesC D)) (hq : 0 ≤ q ∧ q ≤ 4294967295) : Calls Try.prog 9 #[.agg #[.slice AD nd cd, .int .u32 q]] w fun e w' => e = .returned (.bool true) ∧ Below w.heap.size w w' := by
  have V1 := Lib.hid ((Hp.start w).box_new 48 [.slice AD nd cd, .int .u32 q])
  have B1 := Lib.hid V1.out.below
  have y0 := (V1.out.box_at (i := 0) (j := 0) rfl rfl).1
  have y1 := (V1.out.box_at (i := 0) (j := 1) rfl rfl).1
  have HD := Lib.hid hD
  have HDZ := Lib.hid hDz
  have HDC := Lib.hid hDc
  have HQ := Lib.hid hq
  clear hD hDz hDc hq
  go_enter Try.func9, Try.ntmps9
  go_wp2_with fail
  refine (rmade14_any AD nd cd D q _ HD.out HDZ.out (HDC.out.below B1.out) HQ.out).mono ?_
  rintro e w1 ⟨C, A, n, c, B, m, d, rfl, hG, hI, hnc, hmd, hb1⟩
  have VA := Lib.hid (V1.out.go hb1)
  clear hb1 y0 y1
  obtain ⟨gc, hgc⟩ : ∃ z, z = w1.heap.size := ⟨_, rfl⟩
  obtain ⟨wc, hwc⟩ : ∃ z, z = w1.alloc (.cells #[.slice A n c, .slice B m d] 25) := ⟨_, rfl⟩
  have VB := Lib.hid (show Hp w [cbox gc A n c B m d, box 48 w.heap.size [.slice AD nd cd, .int .u32 q]] wc by rw [hwc, hgc]; exact VA.out.cbox_new A n c B m d)
  have HC := Lib.hid (show CIn wc A n B m C by rw [hwc]; exact hI.below (bnew _ _))
  have HG := Lib.hid hG
  have hn6 : n ≤ 6 := by rw [← hI.ls]; exact hG.n6
  have hm12 : m ≤ 12 := by rw [← hI.lb]; exact hG.ok.nb
  have HV := Lib.hid (vC_zero.2 hG.ok)
  have HWC := Lib.hid hwc
  have HGC := Lib.hid hgc
  clear hwc hgc hI hG
  obtain ⟨z00, z01, z0g⟩ := VB.out.cbox_at (i := 0) rfl
  go_upto_region 2 with fail
  rw [← HWC.out, ← HGC.out]
  go_wp2_with fail
  refine (awake14_any _).mono ?_
  rintro e w2 ⟨rfl, hb2⟩
  have VC := Lib.hid (VB.out.go hb2)
  have HC2 := Lib.hid (HC.out.below hb2)
  clear hb2 z00 z01 z0g
  obtain ⟨z00, z01, z0g⟩ := VC.out.cbox_at (i := 0) rfl
  go_wp2_with fail
  refine (cClass_any C A n c B m d _ HC2.out).mono ?_
  rintro e w3 ⟨rfl, hb3⟩
  have VD := Lib.hid (VC.out.go hb3)
  have HC3 := Lib.hid (HC2.out.below hb3)
  clear hb3 z00 z01 z0g
  rw [HV.out, show clR C = clsC C.s C.b by unfold clR; rw [if_pos HV.out]]
  obtain ⟨z00, z01, z0g⟩ := VD.out.cbox_at (i := 0) rfl
  go_wp2_with fail
  refine (cCoda_any C A n c B m d _ HC3.out).mono ?_
  rintro e w4 ⟨rfl, hb4⟩
  have VE := Lib.hid (VD.out.go hb4)
  have HC4 := Lib.hid (HC3.out.below hb4)
  clear hb4 z00 z01 z0g
  rw [HV.out, show cdR C = cdC C.s C.b by unfold cdR; rw [if_pos HV.out]]
  obtain ⟨z00, z01, z0g⟩ := VE.out.cbox_at (i := 0) rfl
  have HF := Lib.hid (coda_facts C.s C.b)
  obtain ⟨g, hg⟩ : ∃ g, clsC C.s C.b = g := ⟨_, rfl⟩
  obtain ⟨k, hk⟩ : ∃ k : Nat, cdC C.s C.b = (k : Int) := ⟨(cdC C.s C.b).toNat, by have := HF.out.1; omega⟩
  rw [hg, hk] at HF
  rw [hg, hk]
  clear hg hk
  have hkn : k ≤ n := by have := HF.out.2.1; rw [HC4.out.ls] at this; omega
  have hkc : k ≤ c := by omega
  have hn3 : (k : Int) ≤ (n : Int) := by omega
  by_cases h4 : g = 4
  · have e4 : (g == 4) = true := beq_yes h4
    have hk0 : 0 < k := by have := HF.out.2.2.1.1 h4; omega
    have hk1 : (0 : Int) < (k : Int) := by omega
    have e0 : ((k : Int) == 0) = false := beq_no (by omega)
    have HBT := Lib.hid (show btL (C.s.drop k) ≤ 1 by
      rcases HF.out.2.2.2 with h | h
      · omega
      · rwa [Int.toNat_natCast] at h)
    have CDS := drop_snds k hkn hnc HC4.out.ls HC4.out.cs
    obtain ⟨bA, oA, rfl, hbA, _⟩ := HC4.out.cs (by rw [sndsC_len, HC4.out.ls]; omega)
    have hbt : (btL (C.s.drop k) : Int) ≤ 1 := by have := HBT.out; omega
    clear h4
    by_cases hck : c = k
    · subst hck
      rw [if_pos rfl] at CDS
      have CD2 := Lib.hid CDS
      clear CDS
      go_wp2_with fail
      refine (beats_any [] 0 0 _ _ rfl (by omega) (CellsIn.nil _ _)).mono ?_
      rintro e w5 ⟨rfl, hb5⟩
      have VF := Lib.hid (VE.out.go hb5)
      rw [show btL ([] : List Snd) = 0 from rfl]
      clear hb5 hbt
      go_wp2_with fail
      go_ret
      exact ⟨rfl, VF.out.below⟩
    · rw [if_neg hck, Option.map_some, add_at] at CDS
      have CD2 := Lib.hid CDS
      clear CDS
      go_wp2_with fail
      refine (beats_any (C.s.drop k) (n - k) _ _ _ (by rw [List.length_drop, HC4.out.ls]) (by omega) CD2.out).mono ?_
      rintro e w5 ⟨rfl, hb5⟩
      have VF := Lib.hid (VE.out.go hb5)
      obtain ⟨t, ht⟩ : ∃ t, btL (C.s.drop k) = t := ⟨_, rfl⟩
      rw [ht] at hbt ⊢
      clear ht hb5
      go_wp2_with fail
      go_ret
      exact ⟨rfl, VF.out.below⟩
  · have e4 : (g == 4) = false := beq_no h4
    have hk0 : k = 0 := by
      apply Classical.byContradiction
      intro hn
      exact h4 (HF.out.2.2.1.2 (by omega))
    subst hk0
    clear h4
    go_wp2_with fail
    go_ret
    exact ⟨rfl, VE.out.below⟩
def snB : Snd := ⟨9, 0, [104]⟩
def brC (C : Clu) : Clu := ⟨snB :: C.s, upB 1 C.b⟩
theorem brC_ok {C : Clu} (h : GoodC C) : COk (brC C) := by
  refine ⟨?_, ?_, ?_, ?_, ?_⟩
  · show (snB :: C.s).length ≤ 12; rw [List.length_cons]; have := h.n6; omega
  · show (upB 1 C.b).length ≤ 12; unfold upB; rw [List.length_map]; exact h.ok.nb
  · intro x hx
    rcases List.mem_cons.1 hx with rfl | hx
    · exact ⟨by kernel_rfl, by kernel_rfl⟩
    · exact h.ok.snd x hx
  · intro a ha
    obtain ⟨u, hu, rfl⟩ := List.mem_map.1 ha
    have := h.ok.brk u hu
    show 0 ≤ u + 1 ∧ u + 1 ≤ ((snB :: C.s).length : Int)
    rw [List.length_cons]; omega
  · exact List.pairwise_map.2 (h.ok.asc.imp fun h => by omega)
set_option maxHeartbeats 8000000 in
theorem lawbreath_any (AD : Option Addr) (nd cd : Nat) (D : List Int) (q : Int) (w : World) (hD : D.length = nd ∧ nd ≤ 1000000000000000) (hDz : ∀ z ∈ D, 0 ≤ z ∧ z ≤ 255) (hDc : CellsIn w AD (bytesC D)) (hq : 0 ≤ q ∧ q ≤ 4294967295) : Calls Try.prog 8 #[.agg #[.slice AD nd cd, .int .u32 q]] w fun e w' => e = .returned (.bool true) ∧ Below w.heap.size w w' := by
  have V1 := Lib.hid ((Hp.start w).box_new 48 [.slice AD nd cd, .int .u32 q])
  have B1 := Lib.hid V1.out.below
  have y0 := (V1.out.box_at (i := 0) (j := 0) rfl rfl).1
  have y1 := (V1.out.box_at (i := 0) (j := 1) rfl rfl).1
  have HD := Lib.hid hD
  have HDZ := Lib.hid hDz
  have HDC := Lib.hid hDc
  have HQ := Lib.hid hq
  clear hD hDz hDc hq
  go_enter Try.func8, Try.ntmps8
  go_wp2_with fail
  refine (rmade14_any AD nd cd D q _ HD.out HDZ.out (HDC.out.below B1.out) HQ.out).mono ?_
  rintro e w1 ⟨C, A, n, c, B, m, d, rfl, hG, hI, hnc, hmd, hb1⟩
  have VA := Lib.hid (V1.out.go hb1)
  clear hb1 y0 y1
  obtain ⟨gc, hgc⟩ : ∃ z, z = w1.heap.size := ⟨_, rfl⟩
  obtain ⟨wc, hwc⟩ : ∃ z, z = w1.alloc (.cells #[.slice A n c, .slice B m d] 25) := ⟨_, rfl⟩
  have VB := Lib.hid (show Hp w [cbox gc A n c B m d, box 48 w.heap.size [.slice AD nd cd, .int .u32 q]] wc by rw [hwc, hgc]; exact VA.out.cbox_new A n c B m d)
  have HC := Lib.hid (show CIn wc A n B m C by rw [hwc]; exact hI.below (bnew _ _))
  have HG := Lib.hid hG
  have hn6 : n ≤ 6 := by rw [← hI.ls]; exact hG.n6
  have hm12 : m ≤ 12 := by rw [← hI.lb]; exact hG.ok.nb
  have HV := Lib.hid (vC_zero.2 hG.ok)
  have HWC := Lib.hid hwc
  have HGC := Lib.hid hgc
  clear hwc hgc hI hG
  obtain ⟨z00, z01, z0g⟩ := VB.out.cbox_at (i := 0) rfl
  go_upto_region 2 with fail
  rw [← HWC.out, ← HGC.out]
  go_wp2_with fail
  refine (awake14_any _).mono ?_
  rintro e w2 ⟨rfl, hb2⟩
  have VC := Lib.hid (VB.out.go hb2)
  have HC2 := Lib.hid (HC.out.below hb2)
  clear hb2 z00 z01 z0g
  obtain ⟨z00, z01, z0g⟩ := VC.out.cbox_at (i := 0) rfl
  have BC := Lib.hid VC.out.below
  have HZ := Lib.hid (show w2.cell? ⟨gc, 0, none⟩ = some (.slice A n c) ∧ w2.cell? ⟨gc, 1, none⟩ = some (.slice B m d) ∧ gc < w2.heap.size from ⟨z00, z01, z0g⟩)
  obtain ⟨wl, hwl⟩ : ∃ z, z = w2.alloc (.cells #[.int .i64 9, .int .i64 0, .string ⟨#[104]⟩] 51) := ⟨_, rfl⟩
  have VL := Lib.hid (show Hp w2 [snds (some ⟨w2.heap.size, 0, none⟩) 1 1 [snB]] wl by rw [hwl]; exact (Hp.start w2).lit 51 3 1 [.int .i64 9, .int .i64 0, .string (bs [104])] rfl (by decide))
  obtain ⟨A2, c2, w3, hr3, hv3, _⟩ := run_cat_snds VL.out (i := 0) rfl 22 (B := A) (m := n) (d := c) C.s HC2.out.ls (HC2.out.cs.below VL.out.below) (by decide) (by omega)
  have VM := Lib.hid (show Hp w2 [snds A2 (1 + n) c2 ([snB] ++ C.s)] w3 from hv3)
  have HWL := Lib.hid hwl
  have HR3 := Lib.hid hr3
  clear hwl hr3 hv3
  go_upto_region 5 with (at_builtin; rw [← HWL.out]; refine wpList_app_run rfl (.tmp 20) (.tmp 22) 22 rfl HR3.out rfl rfl ?_)
  obtain ⟨gh, hgh⟩ : ∃ z, z = w3.heap.size := ⟨_, rfl⟩
  obtain ⟨wh, hwh⟩ : ∃ z, z = w3.alloc (.cells #[.slice A2 (1 + n) c2, .slice none 0 0] 25) := ⟨_, rfl⟩
  have VN := Lib.hid (show Hp w2 [cbox gh A2 (1 + n) c2 none 0 0, snds A2 (1 + n) c2 ([snB] ++ C.s)] wh by rw [hwh, hgh]; exact VM.out.cbox_new A2 (1 + n) c2 none 0 0)
  have HWH := Lib.hid hwh
  have HGH := Lib.hid hgh
  clear hwh hgh z00 z01 z0g
  rw [← HWH.out, ← HGH.out]
  have z00 := (VN.out.below.cell (p := ⟨gc, 0, none⟩) HZ.out.2.2).trans HZ.out.1
  have z01 := (VN.out.below.cell (p := ⟨gc, 1, none⟩) HZ.out.2.2).trans HZ.out.2.1
  go_wp2_with fail
  go_loopw [28] (fun i wr => ∃ (k e : Nat) (Q : Option Addr), k ≤ m ∧ i = .int .i64 k ∧ Hp w2 [cbox gh A2 (1 + n) c2 Q k e, nums Q k e (upB 1 (C.b.take k)), snds A2 (1 + n) c2 ([snB] ++ C.s)] wr) (fun i _ => m - (intOf i).toNat)
  case atStart => exact ⟨0, 0, none, Nat.zero_le _, rfl, (VN.out.nil_row (nums none 0 0 []) rfl rfl rfl).pick [1, 0, 2] (by decide) rfl⟩
  case round =>
    clear VN z00 z01
    obtain ⟨k, e, Q, hk, rfl, hV⟩ := hrel
    have V := Lib.hid hV
    clear hV
    have z00 := (V.out.below.cell (p := ⟨gc, 0, none⟩) HZ.out.2.2).trans HZ.out.1
    have z01 := (V.out.below.cell (p := ⟨gc, 1, none⟩) HZ.out.2.2).trans HZ.out.2.1
    have z0g : gc < wr.heap.size := Nat.lt_of_lt_of_le HZ.out.2.2 V.out.below.size
    obtain ⟨⟨b0, b2, bg⟩, b1, b3⟩ := V.out.cbox_st (i := 0) rfl
    by_cases hlt : k < m
    · obtain ⟨bb, ob, rfl, hbb, x0⟩ := (HC2.out.cb.below V.out.below).int (j := k) (by rw [HC2.out.lb]; exact hlt)
      have HAT := Lib.hid (ints_get HC2.out.lb hlt)
      obtain ⟨a, ha⟩ : ∃ a, C.b.getD k 0 = a := ⟨_, rfl⟩
      rw [ha] at x0 HAT
      have hab := HG.out.ok.brk a (List.mem_of_getElem? HAT.out)
      have hab2 : a ≤ 12 := by have := HG.out.ok.ns; omega
      have hab0 := hab.1
      obtain ⟨z, hz⟩ : ∃ z, a + 1 = z := ⟨_, rfl⟩
      have hw1 : IntKind.i64.wrap (a + 1) = z := by rw [IntWalk.i64_in _ (by omega)]; exact hz
      have HS := Lib.hid (show upB 1 (C.b.take (k + 1)) = upB 1 (C.b.take k) ++ [z] by rw [take_snoc HAT.out, upB_snoc, hz])
      clear ha hab hz
      obtain ⟨wy, hwy⟩ : ∃ y, y = wr.alloc (.cells #[.int .i64 z] 3) := ⟨_, rfl⟩
      have V5 := Lib.hid (show Hp w2 (box 3 wr.heap.size [.int .i64 z] :: [cbox gh A2 (1 + n) c2 Q k e, nums Q k e (upB 1 (C.b.take k)), snds A2 (1 + n) c2 ([snB] ++ C.s)]) wy by rw [hwy]; exact V.out.box_new _ _)
      obtain ⟨g5, cap5, w5, hr5, hv5, _⟩ := run_app_num V5.out (i := 2) rfl 23 z (V5.out.box_at (i := 0) (j := 0) rfl rfl).1 (by omega)
      have V6 := Lib.hid (show Hp w2 [cbox gh A2 (1 + n) c2 Q k e, nums (some ⟨g5, 0, none⟩) (k + 1) cap5 (upB 1 (C.b.take k) ++ [z]), snds A2 (1 + n) c2 ([snB] ++ C.s)] w5 from hv5.tail)
      rw [← HS.out] at V6
      have HY := Lib.hid hwy
      have HR5 := Lib.hid hr5
      clear hwy hv5 hr5
      obtain ⟨⟨s0, s1, s2⟩, s3, s4⟩ := V6.out.cbox_st (i := 0) rfl
      have V7 := Lib.hid (show Hp w2 [cbox gh A2 (1 + n) c2 (some ⟨g5, 0, none⟩) (k + 1) cap5, nums (some ⟨g5, 0, none⟩) (k + 1) cap5 (upB 1 (C.b.take (k + 1))), snds A2 (1 + n) c2 ([snB] ++ C.s)] _ from Hp.box_set (T := 25) (g := gh) (cs := [.slice A2 (1 + n) c2, .slice Q k e]) V6.out (i := 0) rfl 1 (.slice (some ⟨g5, 0, none⟩) (k + 1) cap5))
      go_wp2_with (at_builtin; rw [← HY.out]; refine wpList_app_run rfl (.tmp 33) (.tmp 36) 23 rfl HR5.out rfl rfl ?_)
      go_roundw
      case rel => exact ⟨k + 1, cap5, _, by omega, by go_num, V7.out⟩
      case measure => simp [intOf]; omega
    · have HE := Lib.hid (show C.b.take k = C.b from take_all (by rw [HC2.out.lb]; omega))
      obtain rfl : k = m := by omega
      rw [HE.out] at V
      have HOK := Lib.hid (brC_ok HG.out)
      have HVH := Lib.hid (vC_zero.2 HOK.out)
      have HIH := Lib.hid (show CIn wr A2 (1 + n) Q k (brC C) from ⟨by show (snB :: C.s).length = 1 + n; rw [List.length_cons, HC2.out.ls]; omega, by show (upB 1 C.b).length = k; unfold upB; rw [List.length_map, HC2.out.lb], by omega, by omega, fun x hx => by have := vS_zero (HOK.out.snd x hx).1; omega, V.out.cells (i := 2) (it := snds A2 (1 + n) c2 ([snB] ++ C.s)) rfl (A := A2) (c := c2) rfl, V.out.cells (i := 1) (it := nums Q k e (upB 1 C.b)) rfl (A := Q) (c := e) rfl⟩)
      have HIC := Lib.hid (HC2.out.below V.out.below)
      have HBR := Lib.hid (breath_same (z := snB) rfl C.s C.b)
      clear b2 b3 hlt
      have H1 := Lib.hid (show clR C = clsC C.s C.b by unfold clR; rw [if_pos HV.out])
      have H2 := Lib.hid (show clR (brC C) = clsC C.s C.b by unfold clR; rw [if_pos HVH.out]; exact HBR.out.1)
      have H3 := Lib.hid (show cdR C = cdC C.s C.b by unfold cdR; rw [if_pos HV.out])
      have H4 := Lib.hid (show cdR (brC C) = if clsC C.s C.b = 4 then cdC C.s C.b + 1 else cdC C.s C.b by unfold cdR; rw [if_pos HVH.out]; exact HBR.out.2)
      have hcf := coda_facts C.s C.b
      obtain ⟨g, hg⟩ : ∃ g, clsC C.s C.b = g := ⟨_, rfl⟩
      obtain ⟨t, ht⟩ : ∃ t, cdC C.s C.b = t := ⟨_, rfl⟩
      have ht0 : 0 ≤ t := by rw [← ht]; exact hcf.1
      have ht1 : t ≤ 12 := by rw [← ht]; have := hcf.2.1; have := HG.out.ok.ns; omega
      rw [hg] at H1 H2 H4
      rw [ht] at H3 H4
      clear hcf hg ht
      go_wp2_with fail
      refine (cClass_any C A n c B k d _ (HIC.out.below (Below.refl _ _))).mono ?_
      rintro e w10 ⟨rfl, hb⟩
      have VP := Lib.hid (V.out.go hb)
      have BZ1 := Lib.hid (show Below wr.heap.size wr w10 from hb)
      clear hb z00 z01 z0g b0 b1 bg
      rw [H1.out, HV.out]
      have z00 := (VP.out.below.cell (p := ⟨gc, 0, none⟩) HZ.out.2.2).trans HZ.out.1
      have z01 := (VP.out.below.cell (p := ⟨gc, 1, none⟩) HZ.out.2.2).trans HZ.out.2.1
      have z0g := Nat.lt_of_lt_of_le HZ.out.2.2 VP.out.below.size
      obtain ⟨b0, b1, bg⟩ := VP.out.cbox_at (i := 0) rfl
      go_wp2_with fail
      refine (cClass_any (brC C) A2 (1 + n) c2 Q k e _ (HIH.out.below BZ1.out)).mono ?_
      rintro e w11 ⟨rfl, hb⟩
      have VQ := Lib.hid (VP.out.go hb)
      have BZ2 := Lib.hid (show Below wr.heap.size wr w11 from btwo BZ1.out hb)
      clear hb z00 z01 z0g b0 b1 bg
      rw [H2.out, HVH.out]
      have z00 := (VQ.out.below.cell (p := ⟨gc, 0, none⟩) HZ.out.2.2).trans HZ.out.1
      have z01 := (VQ.out.below.cell (p := ⟨gc, 1, none⟩) HZ.out.2.2).trans HZ.out.2.1
      have z0g := Nat.lt_of_lt_of_le HZ.out.2.2 VQ.out.below.size
      obtain ⟨b0, b1, bg⟩ := VQ.out.cbox_at (i := 0) rfl
      go_wp2_with fail
      refine (cCoda_any C A n c B k d _ (HIC.out.below BZ2.out)).mono ?_
      rintro e w12 ⟨rfl, hb⟩
      have VR := Lib.hid (VQ.out.go hb)
      have BZ3 := Lib.hid (show Below wr.heap.size wr w12 from btwo BZ2.out hb)
      clear hb z00 z01 z0g b0 b1 bg
      rw [H3.out, HV.out]
      have z00 := (VR.out.below.cell (p := ⟨gc, 0, none⟩) HZ.out.2.2).trans HZ.out.1
      have z01 := (VR.out.below.cell (p := ⟨gc, 1, none⟩) HZ.out.2.2).trans HZ.out.2.1
      have z0g := Nat.lt_of_lt_of_le HZ.out.2.2 VR.out.below.size
      obtain ⟨b0, b1, bg⟩ := VR.out.cbox_at (i := 0) rfl
      go_wp2_with fail
      refine (cCoda_any (brC C) A2 (1 + n) c2 Q k e _ (HIH.out.below BZ3.out)).mono ?_
      rintro e w13 ⟨rfl, hb⟩
      have VS := Lib.hid (VR.out.go hb)
      have BZ4 := Lib.hid (show Below wr.heap.size wr w13 from btwo BZ3.out hb)
      clear hb z00 z01 z0g b0 b1 bg
      rw [H4.out, HVH.out]
      have z00 := (VS.out.below.cell (p := ⟨gc, 0, none⟩) HZ.out.2.2).trans HZ.out.1
      have z01 := (VS.out.below.cell (p := ⟨gc, 1, none⟩) HZ.out.2.2).trans HZ.out.2.1
      have z0g := Nat.lt_of_lt_of_le HZ.out.2.2 VS.out.below.size
      obtain ⟨b0, b1, bg⟩ := VS.out.cbox_at (i := 0) rfl
      by_cases h4 : g = 4
      · rw [if_pos h4]
        have e4 : (g == 4) = true := beq_yes h4
        have hwt : IntKind.i64.wrap (t + 1) = t + 1 := IntWalk.i64_in _ (by omega)
        clear h4
        go_wp2_with fail
        go_ret
        exact ⟨rfl, btwo BC.out VS.out.below⟩
      · rw [if_neg h4]
        have e4 : (g == 4) = false := beq_no h4
        clear h4
        go_wp2_with fail
        go_ret
        exact ⟨rfl, btwo BC.out VS.out.below⟩
end Go.Proofs.Ythcdbhancfpldaa
