/- Walks of ClusterExplain and ClusterClass. -/
import Derived.Test.YthcdbhancfpldaaLi
import Derived.Test.YthcdbhancfpldaaLj
namespace Go.Proofs.Ythcdbhancfpldaa
open Go.RowKit
set_option linter.unusedVariables false
set_option linter.unusedSimpArgs false
set_option maxRecDepth 100000

/-- What is known of a cluster that came in. -/
structure COpen (w : World) (A : Option Addr) (n c : Nat) (B : Option Addr) (m d : Nat) (C : Clu) : Prop where
  ls : C.s.length = n
  lb : C.b.length = m
  hn : n ≤ 17592186044416
  hm : m ≤ 17592186044416
  nc : n ≤ c
  md : m ≤ d
  ht : ∀ x ∈ C.s, x.t.length ≤ 140737488355328
  cs : CellsIn w A (sndsC C.s)
  cb : CellsIn w B (ints C.b)
theorem COpen.few {w : World} {A : Option Addr} {n c : Nat} {B : Option Addr} {m d : Nat} {C : Clu} (h : COpen w A n c B m d C) (hf : fewC C = true) : CIn w A n B m C := fewC_in hf h.ls h.lb h.ht h.cs h.cb
set_option maxHeartbeats 2000000 in
theorem lawexplain_any (k : Int) (w : World) (hk : True) : Calls Try.prog 10 #[.int .i64 k] w fun e w' => e = .returned (.bool true) ∧ Below w.heap.size w w' := by
  go_enter Try.func10, Try.ntmps10
  go_wp2_with fail
  refine (awake14_any _).mono ?_
  rintro e w1 ⟨rfl, hb1⟩
  have HB := Lib.hid hb1
  clear hb1
  go_wp2_with fail
  refine (cexplain_any k _).mono ?_
  rintro e w2 ⟨rfl, rfl⟩
  go_wp2_with fail
  refine (rexplain_any k _).mono ?_
  rintro e w3 ⟨rfl, rfl⟩
  obtain ⟨s, hs⟩ : ∃ s, s = bs (wdC k) := ⟨_, rfl⟩
  rw [← hs]
  clear hs
  go_wp2_with fail
  go_ret
  exact ⟨rfl, HB.out⟩
set_option maxHeartbeats 8000000 in
theorem lawclass_any (C : Clu) (A : Option Addr) (n c : Nat) (B : Option Addr) (m d : Nat) (w : World) (hO : COpen w A n c B m d C) : Calls Try.prog 3 #[.agg #[.slice A n c, .slice B m d]] w fun e w' => e = .returned (.bool true) ∧ Below w.heap.size w w' := by
  have HO := Lib.hid hO
  have V1 := Lib.hid ((Hp.start w).cbox_new A n c B m d)
  clear hO
  obtain ⟨z00, z01, z0g⟩ := V1.out.cbox_at (i := 0) rfl
  go_enter Try.func3, Try.ntmps3
  go_wp2_with fail
  refine (awake14_any _).mono ?_
  rintro e w1 ⟨rfl, hb1⟩
  have V1z := Lib.hid (V1.out.go hb1)
  clear z00 z01 z0g
  obtain ⟨z00, z01, z0g⟩ := V1z.out.cbox_at (i := 0) rfl
  clear hb1
  go_wp2_with fail
  refine (rfew14_any C A n c B m d _ HO.out.ls HO.out.lb HO.out.hn HO.out.hm HO.out.ht (HO.out.cs.below V1z.out.below)).mono ?_
  rintro e wf ⟨rfl, hbf⟩
  have VF := Lib.hid (V1z.out.go hbf)
  clear z00 z01 z0g
  obtain ⟨z00, z01, z0g⟩ := VF.out.cbox_at (i := 0) rfl
  clear hbf
  cases hf : fewC C with
  | false =>
    go_wp2_with fail
    refine (awake14_any _).mono ?_
    rintro e wg ⟨rfl, hbg⟩
    have VG := Lib.hid (VF.out.go hbg)
    clear hbg
    go_wp2_with fail
    go_ret
    exact ⟨rfl, VG.out.below⟩
  | true =>
    have HC := Lib.hid (HO.out.few hf)
    clear hf
    go_wp2_with fail
    refine (copied14_any C A n c B m d _ (HC.out.below VF.out.below)).mono ?_
    rintro e w2 ⟨Q2, f2, R2, g2, rfl, hI2, hf2, hg2, hb2⟩
    have V2z := Lib.hid (VF.out.go hb2)
    clear z00 z01 z0g
    obtain ⟨z00, z01, z0g⟩ := V2z.out.cbox_at (i := 0) rfl
    have HI2 := Lib.hid hI2
    clear hI2
    clear hb2
    go_wp2_with fail
    refine (cClass_any C Q2 n f2 R2 m g2 _ HI2.out).mono ?_
    rintro e w3 ⟨rfl, hb3⟩
    have V3z := Lib.hid (V2z.out.go hb3)
    clear z00 z01 z0g
    obtain ⟨z00, z01, z0g⟩ := V3z.out.cbox_at (i := 0) rfl
    clear hb3
    go_wp2_with fail
    refine (rClass_any C A n c B m d _ (HC.out.below V3z.out.below)).mono ?_
    rintro e w4 ⟨rfl, hb4⟩
    have V4z := Lib.hid (V3z.out.go hb4)
    clear z00 z01 z0g
    obtain ⟨z00, z01, z0g⟩ := V4z.out.cbox_at (i := 0) rfl
    clear hb4
    go_wp2_with fail
    refine (copied14_any C A n c B m d _ (HC.out.below V4z.out.below)).mono ?_
    rintro e w5 ⟨Q5, f5, R5, g5, rfl, hI5, hf5, hg5, hb5⟩
    have V5z := Lib.hid (V4z.out.go hb5)
    clear z00 z01 z0g
    obtain ⟨z00, z01, z0g⟩ := V5z.out.cbox_at (i := 0) rfl
    have HI5 := Lib.hid hI5
    clear hI5
    clear hb5
    go_wp2_with fail
    refine (cCoda_any C Q5 n f5 R5 m g5 _ HI5.out).mono ?_
    rintro e w6 ⟨rfl, hb6⟩
    have V6z := Lib.hid (V5z.out.go hb6)
    clear z00 z01 z0g
    obtain ⟨z00, z01, z0g⟩ := V6z.out.cbox_at (i := 0) rfl
    clear hb6
    go_wp2_with fail
    refine (rCoda_any C A n c B m d _ (HC.out.below V6z.out.below)).mono ?_
    rintro e w7 ⟨rfl, hb7⟩
    have V7z := Lib.hid (V6z.out.go hb7)
    clear z00 z01 z0g
    obtain ⟨z00, z01, z0g⟩ := V7z.out.cbox_at (i := 0) rfl
    clear hb7
    go_upto_region 7 with fail
    have hKp : Keep [(⟨w.heap.size, 0, none⟩, .slice A n c), (⟨w.heap.size, 1, none⟩, .slice B m d)] w7 := List.forall_mem_cons.2 ⟨⟨(V7z.out.cbox_at (i := 0) rfl).1, (V7z.out.cbox_at (i := 0) rfl).2.2⟩, List.forall_mem_cons.2 ⟨⟨(V7z.out.cbox_at (i := 0) rfl).2.1, (V7z.out.cbox_at (i := 0) rfl).2.2⟩, fun _ h => by simp at h⟩⟩
    refine wp_region_held_drew (S := Keep _) (by kernel_rfl) hKp.drew (fun hHeld => ?_)
    obtain ⟨wz, hwz⟩ : ∃ z, z = w7.drew := ⟨_, rfl⟩
    have Vwz := Lib.hid (show Hp w (cbox w.heap.size A n c B m d :: []) wz by rw [hwz]; exact V7z.out.go (bdrew _))
    have Bwz := Lib.hid (show Below w7.heap.size w7 wz by rw [hwz]; exact bdrew _)
    rw [← hwz] at hHeld ⊢
    clear hwz hKp
    refine tk 0 ?_ rfl ?_ ?_; rotate_left
    · intro wl hSw
      have hSw : Keep _ wl := hSw
      have k0 := (hSw _ (.head _)).1
      have k1 := (hSw _ (.tail _ (.head _))).1
      dsimp only at k0 k1
      clear hSw
      go_simp
      try (with_reducible rfl)
    try simp only [Act.put, sA, sZ, sS]
    refine tk 3 ?_ rfl ?_ ?_; rotate_left
    · intro wl hSw
      have hSw : Keep _ wl := hSw
      have k0 := (hSw _ (.head _)).1
      have k1 := (hSw _ (.tail _ (.head _))).1
      dsimp only at k0 k1
      clear hSw
      go_simp
      try (with_reducible rfl)
    try simp only [Act.put, sA, sZ, sS]
    refine wpAnyH_ready (rs := [1]) (by kernel_rfl) (by simp) ?_
    refine AllReadyH.cons (List.getElem?_toArray.trans rfl) (fun K hK => ?_) AllReadyH.nil
    go_simp
    refine (copied14_any C A n c B m d _ (HC.out.below Vwz.out.below)).mono ?_
    rintro e w_1 ⟨QX, fX, RX, gX, rfl, hIX, _, _, b_1⟩
    have V_1 := Lib.hid (Vwz.out.go b_1)
    try go_wp2_with fail
    refine hK.out _ _ (hHeld.go b_1) (fun hHeld => ?_)
    clear hK K
    try simp only [Act.put, sA, sZ, sS]
    refine wpAnyH_ready (rs := [2]) (by kernel_rfl) (by simp) ?_
    refine AllReadyH.cons (List.getElem?_toArray.trans rfl) (fun K hK => ?_) AllReadyH.nil
    go_simp
    refine (cvalid_any C QX n fX RX m gX _ hIX).mono ?_
    rintro e w_1_2 ⟨rfl, b_1_2⟩
    have V_1_2 := Lib.hid (V_1.out.go b_1_2)
    try go_wp2_with fail
    refine hK.out _ _ (hHeld.go b_1_2) (fun hHeld => ?_)
    clear hK K
    try simp only [Act.put, sA, sZ, sS]
    refine wpAnyH_ready (rs := [4]) (by kernel_rfl) (by simp) ?_
    refine AllReadyH.cons (List.getElem?_toArray.trans rfl) (fun K hK => ?_) AllReadyH.nil
    go_simp
    refine (rcvalid_any C A n c B m d _ (HC.out.below V_1_2.out.below)).mono ?_
    rintro e w_1_2_4 ⟨rfl, b_1_2_4⟩
    have V_1_2_4 := Lib.hid (V_1_2.out.go b_1_2_4)
    try go_wp2_with fail
    refine hK.out _ _ (hHeld.go b_1_2_4) (fun hHeld => ?_)
    clear hK K
    try simp only [Act.put, sA, sZ, sS]
    refine tk 5 ?_ rfl ?_ ?_; rotate_left; focus (intro w hSw; clear hSw; go_simp; try (with_reducible rfl))
    try simp only [Act.put, sA, sZ, sS]
    refine tk 6 ?_ rfl ?_ ?_; rotate_left; focus (intro w hSw; clear hSw; go_simp; try (with_reducible rfl))
    try simp only [Act.put, sA, sZ, sS]
    refine tk 7 ?_ rfl ?_ ?_; rotate_left; focus (intro w hSw; clear hSw; go_simp; try (with_reducible rfl))
    try simp only [Act.put, sA, sZ, sS]
    refine tk 8 ?_ rfl ?_ ?_; rotate_left; focus (intro w hSw; clear hSw; go_simp; try (with_reducible rfl))
    try simp only [Act.put, sA, sZ, sS]
    refine tk 9 ?_ rfl ?_ ?_; rotate_left; focus (intro w hSw; clear hSw; go_simp; try (with_reducible rfl))
    try simp only [Act.put, sA, sZ, sS]
    refine tk 10 ?_ rfl ?_ ?_; rotate_left; focus (intro w hSw; clear hSw; go_simp; try (with_reducible rfl))
    try simp only [Act.put, sA, sZ, sS]
    refine tk 11 ?_ rfl ?_ ?_; rotate_left; focus (intro w hSw; clear hSw; go_simp; try (with_reducible rfl))
    try simp only [Act.put, sA, sZ, sS]
    refine tk 12 ?_ rfl ?_ ?_; rotate_left; focus (intro w hSw; clear hSw; go_simp; try (with_reducible rfl))
    try simp only [Act.put, sA, sZ, sS]
    refine tk 13 ?_ rfl ?_ ?_; rotate_left; focus (intro w hSw; clear hSw; go_simp; try (with_reducible rfl))
    try simp only [Act.put, sA, sZ, sS]
    refine tk 14 ?_ rfl ?_ ?_; rotate_left; focus (intro w hSw; clear hSw; go_simp; try (with_reducible rfl))
    try simp only [Act.put, sA, sZ, sS]
    refine tk 15 ?_ rfl ?_ ?_; rotate_left; focus (intro w hSw; clear hSw; go_simp; try (with_reducible rfl))
    try simp only [Act.put, sA, sZ, sS]
    refine tk 16 ?_ rfl ?_ ?_; rotate_left; focus (intro w hSw; clear hSw; go_simp; try (with_reducible rfl))
    try simp only [Act.put, sA, sZ, sS]
    refine tk 17 ?_ rfl ?_ ?_; rotate_left; focus (intro w hSw; clear hSw; go_simp; try (with_reducible rfl))
    try simp only [Act.put, sA, sZ, sS]
    refine tk 18 ?_ rfl ?_ ?_; rotate_left; focus (intro w hSw; clear hSw; go_simp; try (with_reducible rfl))
    try simp only [Act.put, sA, sZ, sS]
    refine tk 19 ?_ rfl ?_ ?_; rotate_left; focus (intro w hSw; clear hSw; go_simp; try (with_reducible rfl))
    try simp only [Act.put, sA, sZ, sS]
    refine tk 20 ?_ rfl ?_ ?_; rotate_left; focus (intro w hSw; clear hSw; go_simp; try (with_reducible rfl))
    try simp only [Act.put, sA, sZ, sS]
    refine tk 21 ?_ rfl ?_ ?_; rotate_left; focus (intro w hSw; clear hSw; go_simp; try (with_reducible rfl))
    try simp only [Act.put, sA, sZ, sS]
    refine tk 22 ?_ rfl ?_ ?_; rotate_left; focus (intro w hSw; clear hSw; go_simp; try (with_reducible rfl))
    try simp only [Act.put, sA, sZ, sS]
    refine tk 23 ?_ rfl ?_ ?_; rotate_left; focus (intro w hSw; clear hSw; go_simp; try (with_reducible rfl))
    try simp only [Act.put, sA, sZ, sS]
    refine tk 24 ?_ rfl ?_ ?_; rotate_left; focus (intro w hSw; clear hSw; go_simp; try (with_reducible rfl))
    try simp only [Act.put, sA, sZ, sS]
    refine tk 25 ?_ rfl ?_ ?_; rotate_left; focus (intro w hSw; clear hSw; go_simp; try (with_reducible rfl))
    try simp only [Act.put, sA, sZ, sS]
    refine tk 26 ?_ rfl ?_ ?_; rotate_left; focus (intro w hSw; clear hSw; go_simp; try (with_reducible rfl))
    try simp only [Act.put, sA, sZ, sS]
    refine wpAnyH_done (by kernel_rfl) ?_ _
    clear hHeld
    go_wp2_with fail
    go_ret
    exact ⟨rfl, V_1_2_4.out.below⟩
end Go.Proofs.Ythcdbhancfpldaa
