/- Contract of the program: Format. -/
import Derived.Test.YtghjglcckpdbcaaGreatDoorOz
namespace Go.Proofs.YtghjglcckpdbcaaGreatDoor
open Go.RowKit
set_option linter.unusedVariables false
set_option linter.unusedSimpArgs false
set_option maxRecDepth 100000

theorem join_four (a b c d : List UInt8) : Lib.join ([bs a, bs b, bs c, bs d].map (·.data.toList)) (⟨#[32]⟩ : ByteArray).data.toList = a ++ 32 :: (b ++ 32 :: (c ++ 32 :: d)) := by
  simp [Lib.join, List.intercalate, bs_list]
theorem txO_snoc (nm : List UInt8) (L : List Sg) (x : Sg) : txO nm (L ++ [x]) = txO nm L ++ (lnS x ++ [10]) := by unfold txO; rw [lnsO_snoc]; simp
theorem txO_nil (nm : List UInt8) : txO nm [] = (hdO ++ nm) ++ [10] := rfl
theorem txO_take_len {nm : List UInt8} {L : List Sg} (h : (vO nm L).2 = 0) (k : Nat) : (txO nm (L.take k)).length ≤ 5100 := by
  have h1 := txO_len h
  have e : L = L.take k ++ L.drop k := (List.take_append_drop _ _).symm
  have h2 : (txO nm (L.take k)).length ≤ (txO nm L).length := by
    conv => rhs; rw [e]
    unfold txO lnsO
    rw [List.flatMap_append]
    simp only [List.length_append, List.length_cons]; omega
  omega
/-- What Format answers. -/
def FoPost (nm : List UInt8) (L : List Sg) (w : World) (e : Ending) (w' : World) : Prop := e = .returned (.tuple #[.string (bs (fmtO nm L).1), .int .i64 (fmtO nm L).2]) ∧ Below w.heap.size w w'
set_option maxHeartbeats 4000000 in
theorem oformat_any (nm : List UInt8) (L : List Sg) (A : Option Addr) (n c : Nat) (w : World) (hnm : nm.length ≤ 140737488355328) (hl : L.length = n) (hn : n ≤ 17592186044416) (hnc : n ≤ c) (hs : SgBd L) (hA : SgnIn w A L) :
    Calls Tryz.prog 22 #[.agg #[.string (bs nm), .slice A n c]] w (FoPost nm L w) := by
  obtain ⟨g1, hg1⟩ : ∃ z, z = w.heap.size := ⟨_, rfl⟩
  obtain ⟨W1, hW1⟩ : ∃ z, z = w.alloc (.cells #[.string (bs nm), .slice A n c] 24) := ⟨_, rfl⟩
  have V1 := Lib.hid (show Hp w [obox g1 nm A n c] W1 by rw [hW1, hg1]; exact (Hp.start w).obox_new nm A n c)
  have HW1 := Lib.hid hW1
  have HG1 := Lib.hid hg1
  have HVA := Lib.hid (ovalid_any nm L A n c W1 hnm hl hn hnc hs (hA.below V1.out.below))
  have HA := Lib.hid hA
  have HL := Lib.hid hl
  obtain ⟨z0, z1, z2⟩ := V1.out.obox_at (i := 0) rfl
  clear hW1 hg1 hA hs hl hnm
  go_enter Tryz.func22, Tryz.ntmps22
  go_upto_region 1 with fail
  rw [← HG1.out, ← HW1.out]
  go_wp2_with fail
  refine HVA.out.mono ?_
  rintro e w2 ⟨rfl, hb⟩
  have V2 := Lib.hid (V1.out.go hb)
  clear hb z0 z1 z2
  obtain ⟨z0, z1, z2⟩ := V2.out.obox_at (i := 0) rfl
  by_cases hv : (vO nm L).2 = 0
  case neg =>
    have HE := Lib.hid (fmtO_err hv)
    obtain ⟨v, hvv⟩ : ∃ v, v = (vO nm L).2 := ⟨_, rfl⟩
    rw [← hvv] at hv HE ⊢
    have e1 : (v != 0) = true := bne_yes hv
    clear hv hvv
    go_wp2_with fail
    go_ret2
    exact ⟨by rw [HE.out]; rfl, V2.out.below⟩
  have HV := Lib.hid hv
  have HE := Lib.hid (fmtO_ok hv)
  have HTL := Lib.hid (txO_take_len hv)
  obtain ⟨hname, _, hl120, hall⟩ := vO_zero hv
  have hnl := (name_bd hname).2.1
  have hn120 : n ≤ 120 := by have := HL.out; omega
  have HALL := Lib.hid hall
  have hz : (bs nm).size ≤ 20 := by rw [bs_size]; exact hnl
  have hzh : (⟨#[111, 114, 116, 104, 111, 103, 114, 97, 112, 104, 121, 32]⟩ : ByteArray).size = 12 := rfl
  have s1 := add_run (⟨#[111, 114, 116, 104, 111, 103, 114, 97, 112, 104, 121, 32]⟩ : ByteArray) (bs nm) (by rw [hzh]; omega)
  have hz2 : ((⟨#[111, 114, 116, 104, 111, 103, 114, 97, 112, 104, 121, 32]⟩ : ByteArray) ++ bs nm).size ≤ 32 := by rw [ByteArray.size_append, hzh]; omega
  have hz3 : (⟨#[10]⟩ : ByteArray).size = 1 := rfl
  have s2 := add_run ((⟨#[111, 114, 116, 104, 111, 103, 114, 97, 112, 104, 121, 32]⟩ : ByteArray) ++ bs nm) (⟨#[10]⟩ : ByteArray) (by rw [hz3]; omega)
  obtain ⟨T0, hT0⟩ : ∃ z, z = txO nm (L.take 0) := ⟨_, rfl⟩
  have HT0 := Lib.hid hT0
  have HC0 := Lib.hid (show ((⟨#[111, 114, 116, 104, 111, 103, 114, 97, 112, 104, 121, 32]⟩ : ByteArray) ++ bs nm) ++ (⟨#[10]⟩ : ByteArray) = bs T0 from bs_of (by rw [hT0, cat_any, cat_any]; rfl))
  rw [hv]
  clear hT0 hv hname hl120 hall hnl
  go_wp2_with fail
  rw [HC0.out]
  clear s1 s2 hz2 hz z0 z1 z2 hzh hz3
  go_loopw [5, 22] (fun v i wr => ∃ k : Nat, k ≤ n ∧ i = .int .i64 (k : Int) ∧ v = .string (bs (txO nm (L.take k))) ∧ Hp w [obox g1 nm A n c] wr) (fun _ i _ => n - (intOf i).toNat)
  case atStart => exact ⟨0, Nat.zero_le _, rfl, by rw [HT0.out], V2.out⟩
  case round =>
    obtain ⟨k, hk, rfl, rfl, hV⟩ := hrel
    obtain ⟨wi, rfl⟩ : ∃ wi : World, wi = wr := ⟨_, rfl⟩
    have V3 := Lib.hid hV
    clear hV V1 V2
    obtain ⟨z0, z1, z2⟩ := V3.out.obox_at (i := 0) rfl
    by_cases hlt : k < n
    · obtain ⟨x, hx⟩ := get_at (L := L) (k := k) (by have := HL.out; omega)
      obtain ⟨b, off, Aj, cj, hAe, hb, c0, c1, c2, c3, c4⟩ := (HA.out.below V3.out.below).at hx
      have HX := Lib.hid hx
      have HX0 := Lib.hid (HALL.out x (List.mem_of_getElem? hx))
      obtain ⟨h1, h2, h3, h4, h5⟩ := sgE_zero HX0.out
      have HC := Lib.hid c4
      rw [hAe] at z1
      have HAE := Lib.hid hAe
      have hk4 : k * 4 ≤ 480 := by omega
      obtain ⟨ci, hci0⟩ := Int.eq_ofNat_of_zero_le h4.1
      have hci : ci < 100 := by omega
      have HCI := Lib.hid hci0
      have HDG := Lib.hid (dec_dg ci hci)
      have HFM := Lib.hid (fmt_ok (L := x.s) (by omega) h3)
      have HSL := Lib.hid (show ∀ y ∈ x.s, y.t.length ≤ 140737488355328 from fun y hy => by have := vS_zero (h3 y hy); omega)
      have hsl : x.s.length ≤ 1000000 := by omega
      have HJ := Lib.hid (show Lib.join ([bs x.t, bs (txL x.s), bs (dg2 (ci : Int)), bs (wW x.w)].map (·.data.toList)) (⟨#[32]⟩ : ByteArray).data.toList = lnS x by rw [join_four, ← hci0]; rfl)
      have hll := (lnS_len HX0.out).1
      have HJL := Lib.hid (show (lnS x).length ≤ 140737488355328 by omega)
      have hzl : (bs (lnS x)).size ≤ 41 := by rw [bs_size]; exact hll
      have hz3 : (⟨#[10]⟩ : ByteArray).size = 1 := rfl
      have s1 := add_run (bs (lnS x)) (⟨#[10]⟩ : ByteArray) (by rw [hz3]; omega)
      have hz4 : (bs (lnS x) ++ (⟨#[10]⟩ : ByteArray)).size ≤ 42 := by rw [ByteArray.size_append, hz3]; omega
      have hz5 : (bs (txO nm (L.take k))).size ≤ 5100 := by rw [bs_size]; exact HTL.out k
      have s2 := add_run (bs (txO nm (L.take k))) (bs (lnS x) ++ (⟨#[10]⟩ : ByteArray)) (by omega)
      have HN := Lib.hid (show bs (txO nm (L.take k)) ++ (bs (lnS x) ++ (⟨#[10]⟩ : ByteArray)) = bs (txO nm (L.take (k + 1))) from bs_of (by
        rw [cat_any, cat_any, bs_list, bs_list, take_snoc HX.out, txO_snoc]))
      obtain ⟨g2, hg2⟩ : ∃ z, z = wi.heap.size := ⟨_, rfl⟩
      obtain ⟨W2, hW2⟩ : ∃ z, z = wi.alloc (.cells #[.string (bs x.t), .slice Aj x.s.length cj, .int .i64 x.c, .int .i64 x.w] 49) := ⟨_, rfl⟩
      have V4 := Lib.hid (show Hp w [sgbox g2 (Aj, cj) x, obox g1 nm A n c] W2 by rw [hW2, hg2]; exact V3.out.sgbox_new Aj cj x)
      have HW2 := Lib.hid hW2
      have HG2 := Lib.hid hg2
      subst hAe
      clear hx c4 hW2 hg2 h1 h2 h3 h4 h5 hci0 hll hz3 hz4 hz5 hzl
      go_upto_region 8 with fail
      rw [← HG2.out, ← HW2.out]
      clear c0 c1 c2 c3 hb z0 z1 z2
      have HCB := Lib.hid (show CellsIn W2 Aj (sndsC x.s) by rw [HW2.out]; exact HC.out.below (bnew _ _))
      obtain ⟨y0, y1, y2, y3, y4⟩ := V4.out.sgbox_at (i := 0) rfl
      dsimp only at y1
      go_wp2_with fail
      refine (format_any x.s (txL x.s) 0 HFM.out _ cj Aj _ rfl hsl HSL.out HCB.out).mono ?_
      rintro e w4 ⟨rfl, hb4⟩
      have V5' := Lib.hid (V4.out.go hb4)
      clear hb4 y0 y1 y2 y3 y4
      obtain ⟨y0, y1, y2, y3, y4⟩ := V5'.out.sgbox_at (i := 0) rfl
      dsimp only at y1
      rw [HCI.out] at y2
      go_upto_region 9 with fail
      have hKp : Keep [(⟨g2, 0, none⟩, .string (bs x.t)), (⟨g2, 1, none⟩, .slice Aj x.s.length cj), (⟨g2, 2, none⟩, .int .i64 (ci : Int)), (⟨g2, 3, none⟩, .int .i64 x.w)] w4 := List.forall_mem_cons.2 ⟨⟨y0, y4⟩, List.forall_mem_cons.2 ⟨⟨y1, y4⟩, List.forall_mem_cons.2 ⟨⟨y2, y4⟩, List.forall_mem_cons.2 ⟨⟨y3, y4⟩, fun _ h => by simp at h⟩⟩⟩⟩
      clear y0 y1 y2 y3
      refine wp_region_held_drew (S := Keep _) (by kernel_rfl) hKp.drew (fun hHeld => ?_)
      obtain ⟨wd, hwd⟩ : ∃ z, z = w4.drew := ⟨_, rfl⟩
      have VD := Lib.hid (show Hp w [sgbox g2 (Aj, cj) x, obox g1 nm (some ⟨b, off, none⟩) n c] wd by rw [hwd]; exact V5'.out.go (bdrew _))
      rw [← hwd] at hHeld ⊢
      clear hwd
      refine tk 0 ?_ rfl ?_ ?_; rotate_left; focus (intro w hSw; clear hSw; go_simp; try (with_reducible rfl))
      try simp only [Act.put, sA, sZ, sS]
      refine tk 1 ?_ rfl ?_ ?_; rotate_left; focus (intro w hSw; clear hSw; go_simp; try (with_reducible rfl))
      try simp only [Act.put, sA, sZ, sS]
      refine tk 2 ?_ rfl ?_ ?_; rotate_left
      · intro wl hSw
        have hSw : Keep _ wl := hSw
        have k0 := (hSw _ (.head _)).1
        dsimp only at k0
        clear hSw
        go_simp
        try (with_reducible rfl)
      try simp only [Act.put, sA, sZ, sS]
      refine tk 3 ?_ rfl ?_ ?_; rotate_left; focus (intro w hSw; clear hSw; go_simp; try (with_reducible rfl))
      try simp only [Act.put, sA, sZ, sS]
      refine tk 4 ?_ rfl ?_ ?_; rotate_left; focus (intro w hSw; clear hSw; go_simp; try (with_reducible rfl))
      try simp only [Act.put, sA, sZ, sS]
      refine tk 5 ?_ rfl ?_ ?_; rotate_left
      · intro wl hSw
        have hSw : Keep _ wl := hSw
        have k0 := (hSw _ (.tail _ (.tail _ (.head _)))).1
        dsimp only at k0
        clear hSw
        go_simp
        try (with_reducible rfl)
      try simp only [Act.put, sA, sZ, sS]
      refine tk 7 ?_ rfl ?_ ?_; rotate_left; focus (intro w hSw; clear hSw; go_simp; try (with_reducible rfl))
      try simp only [Act.put, sA, sZ, sS]
      refine tk 8 ?_ rfl ?_ ?_; rotate_left
      · intro wl hSw
        have hSw : Keep _ wl := hSw
        have k0 := (hSw _ (.tail _ (.tail _ (.tail _ (.head _))))).1
        dsimp only at k0
        clear hSw
        go_simp
        try (with_reducible rfl)
      try simp only [Act.put, sA, sZ, sS]
      refine wpAnyH_ready (rs := [6]) (by kernel_rfl) (by simp) ?_
      refine AllReadyH.cons (List.getElem?_toArray.trans rfl) (fun K hK => ?_) AllReadyH.nil
      go_simp
      refine (Tryz.strconv_Itoa_small ci hci _).mono ?_
      rintro e w5 ⟨rfl, hw5⟩
      rw [HDG.out]
      have hb5 : Below wd.heap.size wd w5 := by rw [hw5]; exact Below.refl _ _
      have V5 := Lib.hid (VD.out.go hb5)
      clear hw5
      try go_wp2_with fail
      refine hK.out _ _ (hHeld.go hb5) (fun hHeld => ?_)
      clear hK K
      try simp only [Act.put, sA, sZ, sS]
      refine wpAnyH_ready (rs := [9]) (by kernel_rfl) (by simp) ?_
      refine AllReadyH.cons (List.getElem?_toArray.trans rfl) (fun K hK => ?_) AllReadyH.nil
      go_simp
      refine (whereWord_any x.w _).mono ?_
      rintro e w6 ⟨rfl, hw6⟩
      have hb6 : Below w5.heap.size w5 w6 := by rw [← hw6]; exact Below.refl _ _
      have V6 := Lib.hid (V5.out.go hb6)
      clear hw6
      try go_wp2_with fail
      refine hK.out _ _ (hHeld.go hb6) (fun hHeld => ?_)
      clear hK K
      try simp only [Act.put, sA, sZ, sS]
      refine wpAnyH_ready (rs := [10]) (by kernel_rfl) (by simp) ?_
      refine AllReadyH.cons (List.getElem?_toArray.trans rfl) (fun K hK => ?_) AllReadyH.nil
      obtain ⟨g5, hg5⟩ : ∃ z, z = w6.heap.size := ⟨_, rfl⟩
      obtain ⟨w7, hw7⟩ : ∃ z, z = w6.alloc (.cells #[.string (bs x.t), .string (bs (txL x.s)), .string (bs (dg2 (ci : Int))), .string (bs (wW x.w))] 9) := ⟨_, rfl⟩
      have V7 := Lib.hid (show Hp w (strs (some ⟨g5, 0, none⟩) 4 4 [x.t, txL x.s, dg2 (ci : Int), wW x.w] :: sgbox g2 (Aj, cj) x :: obox g1 nm (some ⟨b, off, none⟩) n c :: []) w7 by rw [hw7, hg5]; exact V6.out.lit 9 1 4 (strC [x.t, txL x.s, dg2 (ci : Int), wW x.w]) rfl (by decide))
      have B7 := Lib.hid (show Below w6.heap.size w6 w7 by rw [hw7]; exact bnew _ _)
      have q0 := (V7.out.cell (i := 0) rfl (g := g5) (cap := 4) rfl (j := 0) rfl).1
      have q1 := (V7.out.cell (i := 0) rfl (g := g5) (cap := 4) rfl (j := 1) rfl).1
      have q2 := (V7.out.cell (i := 0) rfl (g := g5) (cap := 4) rfl (j := 2) rfl).1
      have q3 := (V7.out.cell (i := 0) rfl (g := g5) (cap := 4) rfl (j := 3) rfl).1
      have hg5l := (V7.out.lt (i := 0) (k := g5) rfl rfl).2
      go_simp
      rw [← hw7, ← hg5]
      clear hw7 hg5
      refine hK.out _ _ (hHeld.go B7.out) (fun hHeld => ?_)
      clear hK K
      try simp only [Act.put, sA, sZ, sS]
      refine wpAnyH_ready (rs := [11]) (by kernel_rfl) (by simp) ?_
      refine AllReadyH.cons (List.getElem?_toArray.trans rfl) (fun K hK => ?_) AllReadyH.nil
      go_simp
      refine (Tryz.strings_Join g5 0 4 [bs x.t, bs (txL x.s), bs (dg2 (ci : Int)), bs (wW x.w)] ⟨#[32]⟩ _ (fun j u hu => ?_) hg5l (by simp) (by simp) (by rw [HJ.out]; exact HJL.out)).mono ?_
      · match j, hu with
        | 0, hu => injection hu with hu; subst hu; exact q0
        | 1, hu => injection hu with hu; subst hu; exact q1
        | 2, hu => injection hu with hu; subst hu; exact q2
        | 3, hu => injection hu with hu; subst hu; exact q3
        | j + 4, hu => simp at hu
      rintro e w8 ⟨rfl, hb8⟩
      rw [HJ.out, show (⟨(lnS x).toArray⟩ : ByteArray) = bs (lnS x) from rfl]
      have V8 := Lib.hid (V7.out.go hb8)
      clear q0 q1 q2 q3 hg5l
      try go_wp2_with fail
      refine hK.out _ _ (hHeld.go hb8) (fun hHeld => ?_)
      clear hK K
      try simp only [Act.put, sA, sZ, sS]
      refine tk 12 ?_ rfl ?_ ?_; rotate_left; focus (intro w hSw; clear hSw; go_simp; try (with_reducible rfl))
      try simp only [Act.put, sA, sZ, sS]
      refine tk 13 ?_ rfl ?_ ?_; rotate_left; focus (intro w hSw; clear hSw; go_simp; try (with_reducible rfl))
      try simp only [Act.put, sA, sZ, sS]
      refine tk 14 ?_ rfl ?_ ?_; rotate_left; focus (intro w hSw; clear hSw; go_simp; try (with_reducible rfl))
      try simp only [Act.put, sA, sZ, sS]
      refine wpAnyH_done (by kernel_rfl) ?_ _
      go_wp2_with fail
      go_roundw
      case rel => exact ⟨k + 1, by omega, by go_num, by rw [HN.out], V8.out.tail.tail⟩
      case measure => simp [intOf]; omega
    · have ht : L.take k = L := take_all (by have := HL.out; omega)
      rw [ht]
      clear ht
      go_wp2_with fail
      go_ret2
      exact ⟨by rw [HE.out]; rfl, V3.out.below⟩
end Go.Proofs.YtghjglcckpdbcaaGreatDoor
