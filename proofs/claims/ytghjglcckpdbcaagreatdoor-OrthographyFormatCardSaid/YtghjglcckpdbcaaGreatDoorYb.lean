/- Contract of the reference: Format. -/
import Derived.Test.YtghjglcckpdbcaaGreatDoorYa
import Derived.Test.YtghjglcckpdbcaaGreatDoorOy
namespace Go.Proofs.YtghjglcckpdbcaaGreatDoor
open Go.RowKit
set_option linter.unusedVariables false
set_option linter.unusedSimpArgs false
set_option maxRecDepth 100000

set_option maxHeartbeats 4000000 in
theorem roformat_any (nm : List UInt8) (L : List Sg) (A : Option Addr) (n c : Nat) (w : World) (hnm : nm.length ≤ 140737488355328) (hl : L.length = n) (hn : n ≤ 17592186044416) (hs : SgBd L) (hA : SgnIn w A L) :
    Calls Tryz.prog 23 #[.agg #[.string (bs nm), .slice A n c]] w (FoPost nm L w) := by
  obtain ⟨g1, hg1⟩ : ∃ z, z = w.heap.size := ⟨_, rfl⟩
  obtain ⟨W1, hW1⟩ : ∃ z, z = w.alloc (.cells #[.string (bs nm), .slice A n c] 24) := ⟨_, rfl⟩
  have V1 := Lib.hid (show Hp w [obox g1 nm A n c] W1 by rw [hW1, hg1]; exact (Hp.start w).obox_new nm A n c)
  have HW1 := Lib.hid hW1
  have HG1 := Lib.hid hg1
  have HVA := Lib.hid (rovalid_any nm L A n c W1 hnm hl hn hs (hA.below V1.out.below))
  have HA := Lib.hid hA
  have HL := Lib.hid hl
  obtain ⟨z0, z1, z2⟩ := V1.out.obox_at (i := 0) rfl
  clear hW1 hg1 hA hs hl hnm
  go_enter Tryz.func23, Tryz.ntmps23
  go_upto_region 1 with fail
  rw [← HG1.out, ← HW1.out]
  go_wp2_with fail
  refine HVA.out.mono ?_
  rintro e w2 ⟨rfl, hb⟩
  have V2 := Lib.hid (V1.out.go hb)
  clear hb z0 z1 z2
  obtain ⟨z0, z1, z2⟩ := V2.out.obox_at (i := 0) rfl
  by_cases hv : (vO nm L).2 = 0
  case neg =>
    have HE := Lib.hid (fmtO_err hv)
    obtain ⟨v, hvv⟩ : ∃ v, v = (vO nm L).2 := ⟨_, rfl⟩
    rw [← hvv] at hv HE ⊢
    have e1 : (v != 0) = true := bne_yes hv
    clear hv hvv
    go_wp2_with fail
    go_ret2
    exact ⟨by rw [HE.out]; rfl, V2.out.below⟩
  have HV := Lib.hid hv
  have HE := Lib.hid (fmtO_ok hv)
  have HTL := Lib.hid (txO_take_len hv)
  obtain ⟨hname, _, hl120, hall⟩ := vO_zero hv
  have hnl := (name_bd hname).2.1
  have hn120 : n ≤ 120 := by have := HL.out; omega
  have HALL := Lib.hid hall
  have hz : (bs nm).size ≤ 20 := by rw [bs_size]; exact hnl
  have hzh : (⟨#[111, 114, 116, 104, 111, 103, 114, 97, 112, 104, 121, 32]⟩ : ByteArray).size = 12 := rfl
  have s1 := add_run (⟨#[111, 114, 116, 104, 111, 103, 114, 97, 112, 104, 121, 32]⟩ : ByteArray) (bs nm) (by rw [hzh]; omega)
  have hz2 : ((⟨#[111, 114, 116, 104, 111, 103, 114, 97, 112, 104, 121, 32]⟩ : ByteArray) ++ bs nm).size ≤ 32 := by rw [ByteArray.size_append, hzh]; omega
  have hz3 : (⟨#[10]⟩ : ByteArray).size = 1 := rfl
  have s2 := add_run ((⟨#[111, 114, 116, 104, 111, 103, 114, 97, 112, 104, 121, 32]⟩ : ByteArray) ++ bs nm) (⟨#[10]⟩ : ByteArray) (by rw [hz3]; omega)
  obtain ⟨T0, hT0⟩ : ∃ z, z = txO nm (L.take 0) := ⟨_, rfl⟩
  have HT0 := Lib.hid hT0
  have HC0 := Lib.hid (show ((⟨#[111, 114, 116, 104, 111, 103, 114, 97, 112, 104, 121, 32]⟩ : ByteArray) ++ bs nm) ++ (⟨#[10]⟩ : ByteArray) = bs T0 from bs_of (by rw [hT0, cat_any, cat_any]; rfl))
  rw [hv]
  clear hT0 hv hname hl120 hall hnl
  go_wp2_with fail
  rw [HC0.out]
  clear s1 s2 hz2 hz z0 z1 z2 hzh hz3
  go_loopw [5, 6] (fun v i wr => ∃ k : Nat, k ≤ n ∧ i = .int .i64 (k : Int) ∧ v = .string (bs (txO nm (L.take k))) ∧ Hp w [obox g1 nm A n c] wr) (fun _ i _ => n - (intOf i).toNat)
  case atStart => exact ⟨0, Nat.zero_le _, rfl, by rw [HT0.out], V2.out⟩
  case round =>
    obtain ⟨k, hk, rfl, rfl, hV⟩ := hrel
    obtain ⟨wi, rfl⟩ : ∃ wi : World, wi = wr := ⟨_, rfl⟩
    have V3 := Lib.hid hV
    clear hV V1 V2
    obtain ⟨z0, z1, z2⟩ := V3.out.obox_at (i := 0) rfl
    by_cases hlt : k < n
    · obtain ⟨x, hx⟩ := get_at (L := L) (k := k) (by have := HL.out; omega)
      obtain ⟨b, off, Aj, cj, hAe, hb, c0, c1, c2, c3, c4⟩ := (HA.out.below V3.out.below).at hx
      have HX := Lib.hid hx
      have HX0 := Lib.hid (HALL.out x (List.mem_of_getElem? hx))
      obtain ⟨h1, h2, h3, h4, h5⟩ := sgE_zero HX0.out
      have hw4 := h5
      have HC := Lib.hid c4
      rw [hAe] at z1
      have HAE := Lib.hid hAe
      have hk4 : k * 4 ≤ 480 := by omega
      obtain ⟨ci, hci0⟩ := Int.eq_ofNat_of_zero_le h4.1
      have hci : ci < 100 := by omega
      have HCI := Lib.hid hci0
      have HVS := Lib.hid h3
      have hsl : x.s.length ≤ 1000000 := by omega
      have hp0 : (bs (txO nm (L.take k))).size ≤ 5100 := by rw [bs_size]; exact HTL.out k
      have hpt : (bs x.t).size ≤ 4 := by rw [bs_size]; exact (txE_zero h1).2.1
      have hp32 : (⟨#[32]⟩ : ByteArray).size = 1 := rfl
      have hp10 : (⟨#[10]⟩ : ByteArray).size = 1 := rfl
      have hptx : (bs (txL x.s)).size ≤ 24 := by rw [bs_size]; have := txL_len h3; omega
      have hpdg : (bs (dg2 (ci : Int))).size ≤ 2 := by rw [bs_size]; exact (dg_any (c := (ci : Int)) (by omega)).2.2.1
      have hpww : (bs (wW x.w)).size ≤ 8 := by rw [bs_size]; exact ww_len _
      obtain ⟨u1, hu1⟩ : ∃ z, z = bs (txO nm (L.take k)) ++ bs x.t := ⟨_, rfl⟩
      have hz1 : u1.size ≤ 5150 := by rw [hu1, ByteArray.size_append]; omega
      have s1 : ∀ w : World, (Op.stringOp .add (bs (txO nm (L.take k))) (bs x.t)).run Tryz.prog w = .ok (.string u1) w := by rw [hu1]; exact add_run _ _ (by omega)
      obtain ⟨u2, hu2⟩ : ∃ z, z = u1 ++ (⟨#[32]⟩ : ByteArray) := ⟨_, rfl⟩
      have hz2 : u2.size ≤ 5200 := by rw [hu2, ByteArray.size_append]; omega
      have s2 : ∀ w : World, (Op.stringOp .add (u1) ((⟨#[32]⟩ : ByteArray))).run Tryz.prog w = .ok (.string u2) w := by rw [hu2]; exact add_run _ _ (by omega)
      obtain ⟨u3, hu3⟩ : ∃ z, z = u2 ++ bs (txL x.s) := ⟨_, rfl⟩
      have hz3 : u3.size ≤ 5250 := by rw [hu3, ByteArray.size_append]; omega
      have s3 : ∀ w : World, (Op.stringOp .add (u2) (bs (txL x.s))).run Tryz.prog w = .ok (.string u3) w := by rw [hu3]; exact add_run _ _ (by omega)
      obtain ⟨u4, hu4⟩ : ∃ z, z = u3 ++ (⟨#[32]⟩ : ByteArray) := ⟨_, rfl⟩
      have hz4 : u4.size ≤ 5300 := by rw [hu4, ByteArray.size_append]; omega
      have s4 : ∀ w : World, (Op.stringOp .add (u3) ((⟨#[32]⟩ : ByteArray))).run Tryz.prog w = .ok (.string u4) w := by rw [hu4]; exact add_run _ _ (by omega)
      obtain ⟨u5, hu5⟩ : ∃ z, z = u4 ++ bs (dg2 (ci : Int)) := ⟨_, rfl⟩
      have hz5 : u5.size ≤ 5350 := by rw [hu5, ByteArray.size_append]; omega
      have s5 : ∀ w : World, (Op.stringOp .add (u4) (bs (dg2 (ci : Int)))).run Tryz.prog w = .ok (.string u5) w := by rw [hu5]; exact add_run _ _ (by omega)
      obtain ⟨u6, hu6⟩ : ∃ z, z = u5 ++ (⟨#[32]⟩ : ByteArray) := ⟨_, rfl⟩
      have hz6 : u6.size ≤ 5400 := by rw [hu6, ByteArray.size_append]; omega
      have s6 : ∀ w : World, (Op.stringOp .add (u5) ((⟨#[32]⟩ : ByteArray))).run Tryz.prog w = .ok (.string u6) w := by rw [hu6]; exact add_run _ _ (by omega)
      obtain ⟨u7, hu7⟩ : ∃ z, z = u6 ++ bs (wW x.w) := ⟨_, rfl⟩
      have hz7 : u7.size ≤ 5450 := by rw [hu7, ByteArray.size_append]; omega
      have s7 : ∀ w : World, (Op.stringOp .add (u6) (bs (wW x.w))).run Tryz.prog w = .ok (.string u7) w := by rw [hu7]; exact add_run _ _ (by omega)
      obtain ⟨u8, hu8⟩ : ∃ z, z = u7 ++ (⟨#[10]⟩ : ByteArray) := ⟨_, rfl⟩
      have hz8 : u8.size ≤ 5500 := by rw [hu8, ByteArray.size_append]; omega
      have s8 : ∀ w : World, (Op.stringOp .add (u7) ((⟨#[10]⟩ : ByteArray))).run Tryz.prog w = .ok (.string u8) w := by rw [hu8]; exact add_run _ _ (by omega)
      have HN := Lib.hid (show u8 = bs (txO nm (L.take (k + 1))) from bs_of (by
        rw [hu8, hu7, hu6, hu5, hu4, hu3, hu2, hu1]
        simp only [cat_any, bs_list]
        rw [take_snoc HX.out, txO_snoc, ← hci0]
        unfold lnS
        simp))
      obtain ⟨g2, hg2⟩ : ∃ z, z = wi.heap.size := ⟨_, rfl⟩
      obtain ⟨W2, hW2⟩ : ∃ z, z = wi.alloc (.cells #[.string (bs x.t), .slice Aj x.s.length cj, .int .i64 x.c, .int .i64 x.w] 49) := ⟨_, rfl⟩
      have V4 := Lib.hid (show Hp w [sgbox g2 (Aj, cj) x, obox g1 nm A n c] W2 by rw [hW2, hg2]; exact V3.out.sgbox_new Aj cj x)
      have HW2 := Lib.hid hW2
      have HG2 := Lib.hid hg2
      subst hAe
      clear hx c4 hW2 hg2 h1 h2 h3 h4 h5 hci0 hu1 hu2 hu3 hu4 hu5 hu6 hu7 hu8
      go_upto_region 9 with fail
      rw [← HG2.out, ← HW2.out]
      clear c0 c1 c2 c3 hb z0 z1 z2
      have HCB := Lib.hid (show CellsIn W2 Aj (sndsC x.s) by rw [HW2.out]; exact HC.out.below (bnew _ _))
      obtain ⟨y0, y1, y2, y3, y4⟩ := V4.out.sgbox_at (i := 0) rfl
      dsimp only at y1
      rw [HCI.out] at y2
      have hKp : Keep [(⟨g2, 0, none⟩, .string (bs x.t)), (⟨g2, 1, none⟩, .slice Aj x.s.length cj), (⟨g2, 2, none⟩, .int .i64 (ci : Int)), (⟨g2, 3, none⟩, .int .i64 x.w)] W2 := List.forall_mem_cons.2 ⟨⟨y0, y4⟩, List.forall_mem_cons.2 ⟨⟨y1, y4⟩, List.forall_mem_cons.2 ⟨⟨y2, y4⟩, List.forall_mem_cons.2 ⟨⟨y3, y4⟩, fun _ h => by simp at h⟩⟩⟩⟩
      clear y0 y1 y2 y3
      refine wp_region_held_drew (S := Keep _) (by kernel_rfl) hKp.drew (fun hHeld => ?_)
      obtain ⟨wd, hwd⟩ : ∃ z, z = W2.drew := ⟨_, rfl⟩
      have VD := Lib.hid (show Hp w [sgbox g2 (Aj, cj) x, obox g1 nm (some ⟨b, off, none⟩) n c] wd by rw [hwd]; exact V4.out.go (bdrew _))
      have BD := Lib.hid (show Below W2.heap.size W2 wd by rw [hwd]; exact bdrew _)
      rw [← hwd] at hHeld ⊢
      clear hwd
      refine tk 0 ?_ rfl ?_ ?_; rotate_left; focus (intro w hSw; clear hSw; go_simp; try (with_reducible rfl))
      try simp only [Act.put, sA, sZ, sS]
      refine tk 1 ?_ rfl ?_ ?_; rotate_left; focus (intro w hSw; clear hSw; go_simp; try (with_reducible rfl))
      try simp only [Act.put, sA, sZ, sS]
      refine tk 2 ?_ rfl ?_ ?_; rotate_left
      · intro wl hSw
        have hSw : Keep _ wl := hSw
        have k0 := (hSw _ (.head _)).1
        dsimp only at k0
        clear hSw
        go_simp
        try (with_reducible rfl)
      try simp only [Act.put, sA, sZ, sS]
      refine tk 3 ?_ rfl ?_ ?_; rotate_left; focus (intro w hSw; clear hSw; go_simp; try (with_reducible rfl))
      try simp only [Act.put, sA, sZ, sS]
      refine tk 4 ?_ rfl ?_ ?_; rotate_left; focus (intro w hSw; clear hSw; go_simp; try (with_reducible rfl))
      try simp only [Act.put, sA, sZ, sS]
      refine tk 5 ?_ rfl ?_ ?_; rotate_left; focus (intro w hSw; clear hSw; go_simp; try (with_reducible rfl))
      try simp only [Act.put, sA, sZ, sS]
      refine tk 6 ?_ rfl ?_ ?_; rotate_left
      · intro wl hSw
        have hSw : Keep _ wl := hSw
        have k0 := (hSw _ (.tail _ (.head _))).1
        dsimp only at k0
        clear hSw
        go_simp
        try (with_reducible rfl)
      try simp only [Act.put, sA, sZ, sS]
      refine tk 10 ?_ rfl ?_ ?_; rotate_left; focus (intro w hSw; clear hSw; go_simp; try (with_reducible rfl))
      try simp only [Act.put, sA, sZ, sS]
      refine tk 11 ?_ rfl ?_ ?_; rotate_left
      · intro wl hSw
        have hSw : Keep _ wl := hSw
        have k0 := (hSw _ (.tail _ (.tail _ (.head _)))).1
        dsimp only at k0
        clear hSw
        go_simp
        try (with_reducible rfl)
      try simp only [Act.put, sA, sZ, sS]
      refine tk 15 ?_ rfl ?_ ?_; rotate_left; focus (intro w hSw; clear hSw; go_simp; try (with_reducible rfl))
      try simp only [Act.put, sA, sZ, sS]
      refine tk 16 ?_ rfl ?_ ?_; rotate_left
      · intro wl hSw
        have hSw : Keep _ wl := hSw
        have k0 := (hSw _ (.tail _ (.tail _ (.tail _ (.head _))))).1
        dsimp only at k0
        clear hSw
        go_simp
        try (with_reducible rfl)
      try simp only [Act.put, sA, sZ, sS]
      refine wpAnyH_ready (rs := [7]) (by kernel_rfl) (by simp) ?_
      refine AllReadyH.cons (List.getElem?_toArray.trans rfl) (fun K hK => ?_) AllReadyH.nil
      go_simp
      refine (text_any x.s _ cj Aj _ rfl hsl HVS.out (HCB.out.below BD.out)).mono ?_
      rintro e w5 ⟨rfl, hb5⟩
      have V5 := Lib.hid (VD.out.go hb5)
      try go_wp2_with fail
      refine hK.out _ _ (hHeld.go hb5) (fun hHeld => ?_)
      clear hK K
      try simp only [Act.put, sA, sZ, sS]
      refine tk 8 ?_ rfl ?_ ?_; rotate_left; focus (intro w hSw; clear hSw; go_simp; try (with_reducible rfl))
      try simp only [Act.put, sA, sZ, sS]
      refine tk 9 ?_ rfl ?_ ?_; rotate_left; focus (intro w hSw; clear hSw; go_simp; try (with_reducible rfl))
      try simp only [Act.put, sA, sZ, sS]
      refine wpAnyH_ready (rs := [12]) (by kernel_rfl) (by simp) ?_
      refine AllReadyH.cons (List.getElem?_toArray.trans rfl) (fun K hK => ?_) AllReadyH.nil
      go_simp
      refine (rdig_any ci _ hci).mono ?_
      rintro e w6 ⟨rfl, hw6⟩
      have hb6 : Below w5.heap.size w5 w6 := by rw [← hw6]; exact Below.refl _ _
      have V6 := Lib.hid (V5.out.go hb6)
      clear hw6
      try go_wp2_with fail
      refine hK.out _ _ (hHeld.go hb6) (fun hHeld => ?_)
      clear hK K
      try simp only [Act.put, sA, sZ, sS]
      refine tk 13 ?_ rfl ?_ ?_; rotate_left; focus (intro w hSw; clear hSw; go_simp; try (with_reducible rfl))
      try simp only [Act.put, sA, sZ, sS]
      refine tk 14 ?_ rfl ?_ ?_; rotate_left; focus (intro w hSw; clear hSw; go_simp; try (with_reducible rfl))
      try simp only [Act.put, sA, sZ, sS]
      refine wpAnyH_ready (rs := [17]) (by kernel_rfl) (by simp) ?_
      refine AllReadyH.cons (List.getElem?_toArray.trans rfl) (fun K hK => ?_) AllReadyH.nil
      go_simp
      refine (rwhere_any x.w _ hw4).mono ?_
      rintro e w7 ⟨rfl, hb7⟩
      have V7 := Lib.hid (V6.out.go hb7)
      try go_wp2_with fail
      refine hK.out _ _ (hHeld.go hb7) (fun hHeld => ?_)
      clear hK K
      try simp only [Act.put, sA, sZ, sS]
      refine tk 18 ?_ rfl ?_ ?_; rotate_left; focus (intro w hSw; clear hSw; go_simp; try (with_reducible rfl))
      try simp only [Act.put, sA, sZ, sS]
      refine tk 19 ?_ rfl ?_ ?_; rotate_left; focus (intro w hSw; clear hSw; go_simp; try (with_reducible rfl))
      try simp only [Act.put, sA, sZ, sS]
      refine tk 20 ?_ rfl ?_ ?_; rotate_left; focus (intro w hSw; clear hSw; go_simp; try (with_reducible rfl))
      try simp only [Act.put, sA, sZ, sS]
      refine wpAnyH_done (by kernel_rfl) ?_ _
      go_wp2_with fail
      go_roundw
      case rel => exact ⟨k + 1, by omega, by go_num, by rw [HN.out], V7.out.tail⟩
      case measure => simp [intOf]; omega
    · have ht : L.take k = L := take_all (by have := HL.out; omega)
      rw [ht]
      clear ht
      go_wp2_with fail
      go_ret2
      exact ⟨by rw [HE.out]; rfl, V3.out.below⟩
end Go.Proofs.YtghjglcckpdbcaaGreatDoor
