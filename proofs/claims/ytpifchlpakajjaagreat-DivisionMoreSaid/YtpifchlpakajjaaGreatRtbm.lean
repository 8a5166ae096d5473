/- Several texts in one: Zk. -/
import Derived.Test.YtpifchlpakajjaaGreatRtaw
import Derived.Test.YtpifchlpakajjaaGreatRtbc
import Derived.Test.YtpifchlpakajjaaGreatRtab
namespace Go.Proofs.YtpifchlpakajjaaGreat
open Go.RowKit
set_option linter.unusedVariables false
set_option linter.unusedSimpArgs false
set_option maxRecDepth 100000

theorem trim_yes {s p : List UInt8} (h : p.isPrefixOf s = true) : Lib.trimPrefix s p = s.drop p.length := by
  unfold Lib.trimPrefix
  rw [if_pos (show Lib.hasPrefix s p = true from h)]
theorem tD_cut (L : List Sg) {d : List Nat} {k i : Nat} (h : d[k]? = some i) : tD L d = tD L (d.take k) ++ ((sgAt L i).t ++ tD L (d.drop (k + 1))) := by
  conv => lhs; rw [← List.take_append_drop k d, drop_at h]
  unfold tD
  rw [List.flatMap_append, List.flatMap_cons]
set_option maxHeartbeats 2000000 in
theorem spells_any (nm : List UInt8) (L : List Sg) (A : Option Addr) (n c : Nat) (d : List Nat) (D : Option Addr) (m e : Nat) (w : World) (hv : (vO nm L).2 = 0) (hl : L.length = n) (hA : SgnIn w A L) (hd : ∀ i ∈ d, i < n) (hm : d.length = m) (hmb : m ≤ 1000) (hD : CellsIn w D (ints (dI d))) (u : List UInt8) (hu : u.length ≤ 1000000) :
    Calls Tryz.prog 51 #[.agg #[.string (bs nm), .slice A n c], .slice D m e, .string (bs u)] w fun r w' => r = .returned (.bool (tD L d == u)) ∧ Below w.heap.size w w' := by
  obtain ⟨g1, hg1⟩ : ∃ z, z = w.heap.size := ⟨_, rfl⟩
  obtain ⟨W1, hW1⟩ : ∃ z, z = w.alloc (.cells #[.string (bs nm), .slice A n c] 24) := ⟨_, rfl⟩
  have V1 := Lib.hid (show Hp w [obox g1 nm A n c] W1 by rw [hW1, hg1]; exact (Hp.start w).obox_new nm A n c)
  have HW1 := Lib.hid hW1
  have HG1 := Lib.hid hg1
  have HV := Lib.hid hv
  have HL := Lib.hid hl
  have HA := Lib.hid hA
  have HD := Lib.hid hD
  have HDN := Lib.hid hd
  have HM := Lib.hid hm
  have hn120 : n ≤ 120 := by have := (vO_zero hv).2.2.1; omega
  clear hW1 hg1 hv hl hA hD hd hm
  go_enter Tryz.func51, Tryz.ntmps51
  go_upto_region 1 with fail
  rw [← HG1.out, ← HW1.out]
  go_wp2_with fail
  go_loopw [2, 13] (fun v i wr => ∃ (k : Nat) (r : List UInt8), k ≤ m ∧ i = .int .i64 (k : Int) ∧ v = .string (bs r) ∧ u = tD L (d.take k) ++ r ∧ Hp w [obox g1 nm A n c] wr) (fun _ i _ => m - (intOf i).toNat)
  case atStart => exact ⟨0, u, Nat.zero_le _, rfl, rfl, by simp [tD], V1.out⟩
  case round =>
    obtain ⟨k, r, hk, rfl, rfl, hr, hV⟩ := hrel
    obtain ⟨wi, rfl⟩ : ∃ wi : World, wi = wr := ⟨_, rfl⟩
    have V3 := Lib.hid hV
    have HR := Lib.hid hr
    clear hV V1 hr
    obtain ⟨o0, o1, o2⟩ := V3.out.obox_at (i := 0) rfl
    by_cases hlt : k < m
    · obtain ⟨i, hi⟩ := get_at (L := d) (k := k) (by have := HM.out; omega)
      have hin := HDN.out i (List.mem_of_getElem? hi)
      obtain ⟨bD, oD, hDe, hbD, d0⟩ := (HD.out.below V3.out.below).idx hi
      obtain ⟨x, hx⟩ := get_at (L := L) (k := i) (by have := HL.out; omega)
      obtain ⟨b, off, Aj, cj, hAe, hb, c0, c1, c2, c3, c4⟩ := (HA.out.below V3.out.below).at hx
      have HC := Lib.hid (show tD L d = tD L (d.take k) ++ (x.t ++ tD L (d.drop (k + 1))) by rw [tD_cut L hi, sgAt_is hx])
      have HT := Lib.hid (show tD L (d.take (k + 1)) = tD L (d.take k) ++ x.t by rw [take_snocA hi, tD_snoc, sgAt_is hx])
      rw [hAe] at o1
      have HAE := Lib.hid hAe
      have HDE := Lib.hid hDe
      subst hAe
      subst hDe
      have hi4 : i * 4 ≤ 480 := by omega
      clear hi hx c1 c2 c3 c4
      cases hp : x.t.isPrefixOf r with
      | true =>
        have HP := Lib.hid (show Lib.hasPrefix (bs r).data.toList (bs x.t).data.toList = true by rw [bs_list, bs_list]; exact hp)
        have HTR := Lib.hid (show (⟨(Lib.trimPrefix (bs r).data.toList (bs x.t).data.toList).toArray⟩ : ByteArray) = bs (r.drop x.t.length) by rw [bs_list, bs_list, trim_yes hp]; rfl)
        have HN := Lib.hid (show u = tD L (d.take (k + 1)) ++ r.drop x.t.length by
          obtain ⟨s, hs⟩ := List.isPrefixOf_iff_prefix.1 hp
          rw [HR.out, HT.out, List.append_assoc, ← hs, List.drop_left])
        clear hp
        go_wp2_with fail
        refine (Tryz.strings_CutPrefix _ _ _).mono ?_
        rintro e w9 ⟨rfl, hw⟩
        rw [HP.out, HTR.out]
        subst hw
        go_wp2_with fail
        go_roundw
        case rel => exact ⟨k + 1, _, by omega, by go_num, rfl, HN.out, V3.out⟩
        case measure => simp [intOf]; omega
      | false =>
        have HP := Lib.hid (show Lib.hasPrefix (bs r).data.toList (bs x.t).data.toList = false by rw [bs_list, bs_list]; exact hp)
        have HE := Lib.hid (show (tD L d == u) = false by
          rw [beq_eq_false_iff_ne]
          intro h
          rw [HC.out, HR.out] at h
          have h2 := List.append_cancel_left h
          have : x.t.isPrefixOf r = true := List.isPrefixOf_iff_prefix.2 ⟨_, h2⟩
          rw [hp] at this; cases this)
        clear hp
        go_wp2_with fail
        refine (Tryz.strings_CutPrefix _ _ _).mono ?_
        rintro e w9 ⟨rfl, hw⟩
        rw [HP.out]
        subst hw
        go_wp2_with fail
        go_ret
        exact ⟨ret_bool HE.out.symm, V3.out.below⟩
    · obtain rfl : k = m := by omega
      have HE := Lib.hid (show u = tD L d ++ r by have := HR.out; rwa [List.take_of_length_le (by have := HM.out; omega)] at this)
      by_cases h0 : r.length = 0
      · obtain ⟨q1, q2⟩ := emp_l (t := r) h0
        have HF := Lib.hid (show (tD L d == u) = true by rw [beq_iff_eq, HE.out, List.eq_nil_of_length_eq_zero h0, List.append_nil])
        clear h0
        go_wp2_with fail
        go_ret
        exact ⟨by rw [HF.out]; simp, V3.out.below⟩
      · obtain ⟨q1, q2⟩ := ful_l (t := r) (by omega)
        have HF := Lib.hid (show (tD L d == u) = false by
          rw [beq_eq_false_iff_ne]
          intro h
          have h2 := congrArg List.length HE.out
          rw [List.length_append, h] at h2
          omega)
        clear h0
        go_wp2_with fail
        go_ret
        exact ⟨by rw [HF.out]; simp, V3.out.below⟩
set_option maxHeartbeats 4000000 in
theorem standsP_any (nm : List UInt8) (L : List Sg) (A : Option Addr) (n c : Nat) (d : List Nat) (D : Option Addr) (m e : Nat) (w : World) (hv : (vO nm L).2 = 0) (hl : L.length = n) (hA : SgnIn w A L) (hd : ∀ i ∈ d, i < n) (hm : d.length = m) (hmb : m ≤ 1000) (hD : CellsIn w D (ints (dI d))) :
    Calls Tryz.prog 52 #[.agg #[.string (bs nm), .slice A n c], .slice D m e] w fun r w' => r = .returned (.bool (okD L [] d)) ∧ Below w.heap.size w w' := by
  obtain ⟨g1, hg1⟩ : ∃ z, z = w.heap.size := ⟨_, rfl⟩
  obtain ⟨W1, hW1⟩ : ∃ z, z = w.alloc (.cells #[.string (bs nm), .slice A n c] 24) := ⟨_, rfl⟩
  have V1 := Lib.hid (show Hp w [obox g1 nm A n c] W1 by rw [hW1, hg1]; exact (Hp.start w).obox_new nm A n c)
  have HW1 := Lib.hid hW1
  have HG1 := Lib.hid hg1
  have HV := Lib.hid hv
  have HL := Lib.hid hl
  have HA := Lib.hid hA
  have HD := Lib.hid hD
  have HDN := Lib.hid hd
  have HM := Lib.hid hm
  have hn120 : n ≤ 120 := by have := (vO_zero hv).2.2.1; omega
  clear hW1 hg1 hv hl hA hD hd hm
  go_enter Tryz.func52, Tryz.ntmps52
  go_upto_region 1 with fail
  rw [← HG1.out, ← HW1.out]
  go_wp2_with fail
  go_loopw [11] (fun i wr => ∃ (k : Nat), k ≤ m ∧ i = .int .i64 (k : Int) ∧ (∀ j, j < k → okN L d j = true) ∧ Hp w [obox g1 nm A n c] wr) (fun i _ => m - (intOf i).toNat)
  case atStart => exact ⟨0, Nat.zero_le _, rfl, fun j h => absurd h (Nat.not_lt_zero j), V1.out⟩
  case round =>
    obtain ⟨k, hk, rfl, hok, hV⟩ := hrel
    obtain ⟨wi, rfl⟩ : ∃ wi : World, wi = wr := ⟨_, rfl⟩
    have V3 := Lib.hid hV
    have HOK := Lib.hid hok
    clear hV V1 hok
    obtain ⟨o0, o1, o2⟩ := V3.out.obox_at (i := 0) rfl
    by_cases hlt : k < m
    · obtain ⟨i, hi⟩ := get_at (L := d) (k := k) (by have := HM.out; omega)
      have hin := HDN.out i (List.mem_of_getElem? hi)
      obtain ⟨bD, oD, hDe, hbD, d0⟩ := (HD.out.below V3.out.below).idx hi
      obtain ⟨x, hx⟩ := get_at (L := L) (k := i) (by have := HL.out; omega)
      obtain ⟨b, off, hAe⟩ : ∃ b off, A = some ⟨b, off, none⟩ := by obtain ⟨b, off, _, _, h, _⟩ := HA.out.at hx; exact ⟨b, off, h⟩
      have HI := Lib.hid hi
      have HFB := Lib.hid (show fitB L (i : Int) (nbS L d ((k : Int) - 1)) (nbS L d ((k : Int) + 1)) = okN L d k by
        rw [fitB_at hx]; unfold okN; rw [List.getD_eq_getElem?_getD, hi]; show _ = whB (sgAt L i).w _ _; rw [sgAt_is hx])
      have HDE := Lib.hid hDe
      have HAE := Lib.hid hAe
      have hwp : IntKind.i64.wrap ((k : Int) + 1) = ((k + 1 : Nat) : Int) := by rw [IntWalk.i64_in _ (by omega)]; omega
      have HNB := Lib.hid (fun (j q : Nat) (h : d[j]? = some q) => (show ∃ y Ay cy, L[q]? = some y ∧ q < n ∧ nbS L d (j : Int) = y.s ∧ w.cell? ⟨b, off + q * 4 + 1, none⟩ = some (.slice Ay y.s.length cy) ∧ b < w.heap.size ∧ CellsIn w Ay (sndsC y.s) from by
        have hq := HDN.out q (List.mem_of_getElem? h)
        obtain ⟨y, hy⟩ := get_at (L := L) (k := q) (by have := HL.out; omega)
        obtain ⟨b2, off2, Ay, cy, hAe2, hb2, _, c1, _, _, c4⟩ := HA.out.at hy
        rw [hAe] at hAe2
        injection hAe2 with hAe2
        injection hAe2 with e1 e2 _
        subst e1; subst e2
        exact ⟨y, Ay, cy, hy, hq, nbS_at h hy, c1, hb2, c4⟩))
      subst hAe
      subst hDe
      clear hi hx
      by_cases hk0 : k = 0
      · have e1 : decide (0 < (k : Int)) = false := decide_eq_false (by omega)
        have e1' : decide (0 < k) = false := decide_eq_false (by omega)
        have HQ1 := Lib.hid (show (nbS L d ((k : Int) - 1)).length = 0 by rw [nbS_none (Or.inl (by omega))]; rfl)
        have HC1 := Lib.hid (show CellsIn w none (sndsC (nbS L d ((k : Int) - 1))) by rw [nbS_none (Or.inl (by omega))]; exact CellsIn.nil _ _)
        have VR := V3
        clear hk0
        by_cases hlast : k + 1 < m
        · obtain ⟨inn, hinn⟩ := get_at (L := d) (k := k + 1) (by have := HM.out; omega)
          obtain ⟨y2, Ay2, cy2, hy2, hq2, hn2, cc2, hbb2, ccc2⟩ := HNB.out (k + 1) inn hinn
          have HQ2 := Lib.hid (show (nbS L d (((k : Nat) : Int) + 1)).length = y2.s.length by rw [show (((k : Nat) : Int) + 1) = ((k + 1 : Nat) : Int) by omega, hn2])
          have HC2 := Lib.hid (show CellsIn w Ay2 (sndsC (nbS L d (((k : Nat) : Int) + 1))) by rw [show (((k : Nat) : Int) + 1) = ((k + 1 : Nat) : Int) by omega, hn2]; exact ccc2)
          have HB2 := Lib.hid (And.intro hbb2 cc2)
          obtain ⟨bD3, oD3, hDe3, hbD3, dn⟩ := (HD.out.below VR.out.below).idx hinn
          injection hDe3 with hDe3
          injection hDe3 with e4 e5 _
          subst e4; subst e5
          have hinn4 : inn * 4 ≤ 480 := by omega
          obtain ⟨kn, hkn⟩ : ∃ kn, kn = k + 1 := ⟨_, rfl⟩
          rw [← hkn] at dn hlast
          have hwn : IntKind.i64.wrap (((k : Nat) : Int) + 1) = (kn : Int) := by rw [IntWalk.i64_in _ (by omega)]; omega
          have hwn2 : IntKind.i64.wrap ((k : Int) + 1) = (kn : Int) := by rw [IntWalk.i64_in _ (by omega)]; omega
          have hkn1 : k + 1 ≤ kn := by omega
          have hkn2 : kn ≤ k + 1 := by omega
          have hlI : (kn : Int) < (m : Int) := by omega
          clear hinn hy2 hn2 cc2 hbb2 ccc2 hbD3 hwp hkn
          go_upto_region 8 with fail
          have hKp : Keep [(⟨g1, 1, none⟩, .slice (some ⟨b, off, none⟩) n c), (⟨bD, oD + kn, none⟩, .int .i64 (inn : Int)), (⟨b, off + inn * 4 + 1, none⟩, .slice Ay2 y2.s.length cy2)] wi := List.forall_mem_cons.2 ⟨⟨(VR.out.box_at (i := 0) (j := 1) rfl rfl).1, (VR.out.box_at (i := 0) (j := 1) rfl rfl).2.2⟩, List.forall_mem_cons.2 ⟨⟨dn, Nat.lt_of_lt_of_le hbD (Nat.le_refl _)⟩, List.forall_mem_cons.2 ⟨⟨(VR.out.below.cell (p := ⟨b, off + inn * 4 + 1, none⟩) HB2.out.1).trans HB2.out.2, Nat.lt_of_lt_of_le HB2.out.1 VR.out.below.size⟩, fun _ h => by simp at h⟩⟩⟩
          refine wp_region_held_drew (S := Keep _) (by kernel_rfl) hKp.drew (fun hHeld => ?_)
          obtain ⟨wh, hwh⟩ : ∃ z, z = wi.drew := ⟨_, rfl⟩
          have Vwh := Lib.hid (show Hp w (obox g1 nm (some ⟨b, off, none⟩) n c :: []) wh by rw [hwh]; exact VR.out.go (bdrew _))
          have Bwh := Lib.hid (show Below wi.heap.size wi wh by rw [hwh]; exact bdrew _)
          rw [← hwh] at hHeld ⊢
          clear hwh hKp
          refine tk 0 ?_ rfl ?_ ?_; rotate_left; focus (intro w hSw; clear hSw; go_simp; try (with_reducible rfl))
          try simp only [Act.put, sA, sZ, sS]
          refine tk 1 ?_ rfl ?_ ?_; rotate_left
          · intro wl hSw
            have hSw : Keep _ wl := hSw
            have k0 := (hSw _ (.head _)).1
            dsimp only at k0
            clear hSw
            go_simp
            try (with_reducible rfl)
          try simp only [Act.put, sA, sZ, sS]
          refine tk 2 ?_ rfl ?_ ?_; rotate_left; focus (intro w hSw; clear hSw; go_simp; try (with_reducible rfl))
          try simp only [Act.put, sA, sZ, sS]
          refine tk 3 ?_ rfl ?_ ?_; rotate_left; focus (intro w hSw; clear hSw; go_simp; try (with_reducible rfl))
          try simp only [Act.put, sA, sZ, sS]
          refine tk 4 ?_ rfl ?_ ?_; rotate_left; focus (intro w hSw; clear hSw; go_simp; try (with_reducible rfl))
          try simp only [Act.put, sA, sZ, sS]
          refine tk 5 ?_ rfl ?_ ?_; rotate_left; focus (intro w hSw; clear hSw; go_simp; try (with_reducible rfl))
          try simp only [Act.put, sA, sZ, sS]
          refine tk 6 ?_ rfl ?_ ?_; rotate_left
          · intro wl hSw
            have hSw : Keep _ wl := hSw
            have k0 := (hSw _ (.tail _ (.head _))).1
            dsimp only at k0
            clear hSw
            go_simp
            try (with_reducible rfl)
          try simp only [Act.put, sA, sZ, sS]
          refine tk 7 ?_ rfl ?_ ?_; rotate_left; focus (intro w hSw; clear hSw; go_simp; try (with_reducible rfl))
          try simp only [Act.put, sA, sZ, sS]
          refine tk 8 ?_ rfl ?_ ?_; rotate_left; focus (intro w hSw; clear hSw; go_simp; try (with_reducible rfl))
          try simp only [Act.put, sA, sZ, sS]
          refine tk 9 ?_ rfl ?_ ?_; rotate_left
          · intro wl hSw
            have hSw : Keep _ wl := hSw
            have k0 := (hSw _ (.tail _ (.tail _ (.head _)))).1
            dsimp only at k0
            clear hSw
            go_simp
            try (with_reducible rfl)
          try simp only [Act.put, sA, sZ, sS]
          refine tk 10 ?_ rfl ?_ ?_; rotate_left; focus (intro w hSw; clear hSw; go_simp; try (with_reducible rfl))
          try simp only [Act.put, sA, sZ, sS]
          refine wpAnyH_done (by kernel_rfl) ?_ _
          clear hHeld
          have VS := Lib.hid Vwh.out
          obtain ⟨o0, o1, o2⟩ := VS.out.obox_at (i := 0) rfl
          go_wp2_with fail
          refine (fits_any nm L (i : Int) n c 0 0 y2.s.length cy2 (some ⟨b, off, none⟩) none Ay2 _ _ _ HL.out (by omega) (HA.out.below VS.out.below) HQ1.out (by rw [← HQ1.out]; exact nb_le HV.out _ _) HQ2.out (by rw [← HQ2.out]; exact nb_le HV.out _ _) (HC1.out.below VS.out.below) (HC2.out.below VS.out.below)).mono ?_
          rintro r w9 ⟨rfl, hb⟩
          rw [HFB.out]
          have V9 := Lib.hid (VS.out.go hb)
          clear hb o0 o1 o2
          cases hfb : okN L d k with
          | true =>
            have HN := Lib.hid (show ∀ j, j < k + 1 → okN L d j = true from fun j hj => by
              rcases Nat.lt_or_ge j (k) with h | h
              · exact HOK.out j h
              · rw [show j = k by omega]; exact hfb)
            clear hfb
            go_wp2_with fail
            go_roundw
            case rel => exact ⟨k + 1, by omega, by go_num, HN.out, V9.out⟩
            case measure => simp [intOf]; omega
          | false =>
            have HE := Lib.hid (show okD L [] d = false by
              rw [Bool.eq_false_iff]
              intro h
              have := (okD_is L d).1 h (k) (by rw [HM.out]; exact hlt)
              rw [hfb] at this; cases this)
            clear hfb
            go_wp2_with fail
            go_ret
            exact ⟨ret_bool HE.out.symm, V9.out.below⟩
        · have hlI : ¬ (((k : Nat) : Int) + 1 < (m : Int)) := by omega
          have hlI2 : ¬ (((k + 1 : Nat) : Int) < (m : Int)) := by omega
          have HQ2 := Lib.hid (show (nbS L d (((k : Nat) : Int) + 1)).length = 0 by rw [nbS_none (Or.inr (by have := HM.out; omega))]; rfl)
          have HC2 := Lib.hid (show CellsIn w none (sndsC (nbS L d (((k : Nat) : Int) + 1))) by rw [nbS_none (Or.inr (by have := HM.out; omega))]; exact CellsIn.nil _ _)
          obtain ⟨o0, o1, o2⟩ := VR.out.obox_at (i := 0) rfl
          have VS := VR
          go_wp2_with fail
          refine (fits_any nm L (i : Int) n c 0 0 0 0 (some ⟨b, off, none⟩) none none _ _ _ HL.out (by omega) (HA.out.below VS.out.below) HQ1.out (by rw [← HQ1.out]; exact nb_le HV.out _ _) HQ2.out (by rw [← HQ2.out]; exact nb_le HV.out _ _) (HC1.out.below VS.out.below) (HC2.out.below VS.out.below)).mono ?_
          rintro r w9 ⟨rfl, hb⟩
          rw [HFB.out]
          have V9 := Lib.hid (VS.out.go hb)
          clear hb o0 o1 o2
          cases hfb : okN L d k with
          | true =>
            have HN := Lib.hid (show ∀ j, j < k + 1 → okN L d j = true from fun j hj => by
              rcases Nat.lt_or_ge j (k) with h | h
              · exact HOK.out j h
              · rw [show j = k by omega]; exact hfb)
            clear hfb
            go_wp2_with fail
            go_roundw
            case rel => exact ⟨k + 1, by omega, by go_num, HN.out, V9.out⟩
            case measure => simp [intOf]; omega
          | false =>
            have HE := Lib.hid (show okD L [] d = false by
              rw [Bool.eq_false_iff]
              intro h
              have := (okD_is L d).1 h (k) (by rw [HM.out]; exact hlt)
              rw [hfb] at this; cases this)
            clear hfb
            go_wp2_with fail
            go_ret
            exact ⟨ret_bool HE.out.symm, V9.out.below⟩
      have e1 : decide (0 < (k : Int)) = true := decide_eq_true (by omega)
      have e1' : decide (0 < k) = true := decide_eq_true (by omega)
      obtain ⟨kp, hkp⟩ : ∃ kp, kp = k - 1 := ⟨_, rfl⟩
      have hkp1 : kp + 1 ≤ k := by omega
      have hkp2 : k ≤ kp + 1 := by omega
      obtain ⟨ip, hip⟩ := get_at (L := d) (k := kp) (by have := HM.out; omega)
      obtain ⟨y1, Ay1, cy1, hy1, hq1, hn1, cc1, hbb1, ccc1⟩ := HNB.out kp ip hip
      have hcast : ((k : Int) - 1) = (kp : Int) := by omega
      have hwm : IntKind.i64.wrap ((k : Int) - 1) = (kp : Int) := by rw [IntWalk.i64_in _ (by omega)]; omega
      have HQ1 := Lib.hid (show (nbS L d ((k : Int) - 1)).length = y1.s.length by rw [hcast, hn1])
      have HC1 := Lib.hid (show CellsIn w Ay1 (sndsC (nbS L d ((k : Int) - 1))) by rw [hcast, hn1]; exact ccc1)
      clear hcast hkp
      have HB1 := Lib.hid (And.intro hbb1 cc1)
      obtain ⟨bD2, oD2, hDe2, hbD2, dp⟩ := (HD.out.below V3.out.below).idx hip
      injection hDe2 with hDe2
      injection hDe2 with e2 e3 _
      subst e2; subst e3
      have hip4 : ip * 4 ≤ 480 := by omega
      have hkpm : kp < m := by omega
      clear hip hy1 hn1 cc1 hbb1 ccc1 hbD2 hk0
      go_upto_region 6 with fail
      have hKp : Keep [(⟨g1, 1, none⟩, .slice (some ⟨b, off, none⟩) n c), (⟨bD, oD + kp, none⟩, .int .i64 (ip : Int)), (⟨b, off + ip * 4 + 1, none⟩, .slice Ay1 y1.s.length cy1)] wi := List.forall_mem_cons.2 ⟨⟨(V3.out.box_at (i := 0) (j := 1) rfl rfl).1, (V3.out.box_at (i := 0) (j := 1) rfl rfl).2.2⟩, List.forall_mem_cons.2 ⟨⟨dp, hbD⟩, List.forall_mem_cons.2 ⟨⟨(V3.out.below.cell (p := ⟨b, off + ip * 4 + 1, none⟩) HB1.out.1).trans HB1.out.2, Nat.lt_of_lt_of_le HB1.out.1 V3.out.below.size⟩, fun _ h => by simp at h⟩⟩⟩
      refine wp_region_held_drew (S := Keep _) (by kernel_rfl) hKp.drew (fun hHeld => ?_)
      obtain ⟨wf, hwf⟩ : ∃ z, z = wi.drew := ⟨_, rfl⟩
      have Vwf := Lib.hid (show Hp w (obox g1 nm (some ⟨b, off, none⟩) n c :: []) wf by rw [hwf]; exact V3.out.go (bdrew _))
      have Bwf := Lib.hid (show Below wi.heap.size wi wf by rw [hwf]; exact bdrew _)
      rw [← hwf] at hHeld ⊢
      clear hwf hKp
      refine tk 0 ?_ rfl ?_ ?_; rotate_left; focus (intro w hSw; clear hSw; go_simp; try (with_reducible rfl))
      try simp only [Act.put, sA, sZ, sS]
      refine tk 1 ?_ rfl ?_ ?_; rotate_left
      · intro wl hSw
        have hSw : Keep _ wl := hSw
        have k0 := (hSw _ (.head _)).1
        dsimp only at k0
        clear hSw
        go_simp
        try (with_reducible rfl)
      try simp only [Act.put, sA, sZ, sS]
      refine tk 2 ?_ rfl ?_ ?_; rotate_left; focus (intro w hSw; clear hSw; go_simp; try (with_reducible rfl))
      try simp only [Act.put, sA, sZ, sS]
      refine tk 3 ?_ rfl ?_ ?_; rotate_left; focus (intro w hSw; clear hSw; go_simp; try (with_reducible rfl))
      try simp only [Act.put, sA, sZ, sS]
      refine tk 4 ?_ rfl ?_ ?_; rotate_left; focus (intro w hSw; clear hSw; go_simp; try (with_reducible rfl))
      try simp only [Act.put, sA, sZ, sS]
      refine tk 5 ?_ rfl ?_ ?_; rotate_left; focus (intro w hSw; clear hSw; go_simp; try (with_reducible rfl))
      try simp only [Act.put, sA, sZ, sS]
      refine tk 6 ?_ rfl ?_ ?_; rotate_left
      · intro wl hSw
        have hSw : Keep _ wl := hSw
        have k0 := (hSw _ (.tail _ (.head _))).1
        dsimp only at k0
        clear hSw
        go_simp
        try (with_reducible rfl)
      try simp only [Act.put, sA, sZ, sS]
      refine tk 7 ?_ rfl ?_ ?_; rotate_left; focus (intro w hSw; clear hSw; go_simp; try (with_reducible rfl))
      try simp only [Act.put, sA, sZ, sS]
      refine tk 8 ?_ rfl ?_ ?_; rotate_left; focus (intro w hSw; clear hSw; go_simp; try (with_reducible rfl))
      try simp only [Act.put, sA, sZ, sS]
      refine tk 9 ?_ rfl ?_ ?_; rotate_left
      · intro wl hSw
        have hSw : Keep _ wl := hSw
        have k0 := (hSw _ (.tail _ (.tail _ (.head _)))).1
        dsimp only at k0
        clear hSw
        go_simp
        try (with_reducible rfl)
      try simp only [Act.put, sA, sZ, sS]
      refine tk 10 ?_ rfl ?_ ?_; rotate_left; focus (intro w hSw; clear hSw; go_simp; try (with_reducible rfl))
      try simp only [Act.put, sA, sZ, sS]
      refine wpAnyH_done (by kernel_rfl) ?_ _
      clear hHeld
      have VR := Lib.hid Vwf.out
      by_cases hlast : k + 1 < m
      · obtain ⟨inn, hinn⟩ := get_at (L := d) (k := k + 1) (by have := HM.out; omega)
        obtain ⟨y2, Ay2, cy2, hy2, hq2, hn2, cc2, hbb2, ccc2⟩ := HNB.out (k + 1) inn hinn
        have HQ2 := Lib.hid (show (nbS L d (((k : Nat) : Int) + 1)).length = y2.s.length by rw [show (((k : Nat) : Int) + 1) = ((k + 1 : Nat) : Int) by omega, hn2])
        have HC2 := Lib.hid (show CellsIn w Ay2 (sndsC (nbS L d (((k : Nat) : Int) + 1))) by rw [show (((k : Nat) : Int) + 1) = ((k + 1 : Nat) : Int) by omega, hn2]; exact ccc2)
        have HB2 := Lib.hid (And.intro hbb2 cc2)
        obtain ⟨bD3, oD3, hDe3, hbD3, dn⟩ := (HD.out.below VR.out.below).idx hinn
        injection hDe3 with hDe3
        injection hDe3 with e4 e5 _
        subst e4; subst e5
        have hinn4 : inn * 4 ≤ 480 := by omega
        obtain ⟨kn, hkn⟩ : ∃ kn, kn = k + 1 := ⟨_, rfl⟩
        rw [← hkn] at dn hlast
        have hwn : IntKind.i64.wrap (((k : Nat) : Int) + 1) = (kn : Int) := by rw [IntWalk.i64_in _ (by omega)]; omega
        have hwn2 : IntKind.i64.wrap ((k : Int) + 1) = (kn : Int) := by rw [IntWalk.i64_in _ (by omega)]; omega
        have hkn1 : k + 1 ≤ kn := by omega
        have hkn2 : kn ≤ k + 1 := by omega
        have hlI : (kn : Int) < (m : Int) := by omega
        clear hinn hy2 hn2 cc2 hbb2 ccc2 hbD3 hwp hkn
        go_upto_region 8 with fail
        have hKp : Keep [(⟨g1, 1, none⟩, .slice (some ⟨b, off, none⟩) n c), (⟨bD, oD + kn, none⟩, .int .i64 (inn : Int)), (⟨b, off + inn * 4 + 1, none⟩, .slice Ay2 y2.s.length cy2)] wf := List.forall_mem_cons.2 ⟨⟨(VR.out.box_at (i := 0) (j := 1) rfl rfl).1, (VR.out.box_at (i := 0) (j := 1) rfl rfl).2.2⟩, List.forall_mem_cons.2 ⟨⟨dn, Nat.lt_of_lt_of_le hbD (Bwf.out.size)⟩, List.forall_mem_cons.2 ⟨⟨(VR.out.below.cell (p := ⟨b, off + inn * 4 + 1, none⟩) HB2.out.1).trans HB2.out.2, Nat.lt_of_lt_of_le HB2.out.1 VR.out.below.size⟩, fun _ h => by simp at h⟩⟩⟩
        refine wp_region_held_drew (S := Keep _) (by kernel_rfl) hKp.drew (fun hHeld => ?_)
        obtain ⟨wh, hwh⟩ : ∃ z, z = wf.drew := ⟨_, rfl⟩
        have Vwh := Lib.hid (show Hp w (obox g1 nm (some ⟨b, off, none⟩) n c :: []) wh by rw [hwh]; exact VR.out.go (bdrew _))
        have Bwh := Lib.hid (show Below wf.heap.size wf wh by rw [hwh]; exact bdrew _)
        rw [← hwh] at hHeld ⊢
        clear hwh hKp
        refine tk 0 ?_ rfl ?_ ?_; rotate_left; focus (intro w hSw; clear hSw; go_simp; try (with_reducible rfl))
        try simp only [Act.put, sA, sZ, sS]
        refine tk 1 ?_ rfl ?_ ?_; rotate_left
        · intro wl hSw
          have hSw : Keep _ wl := hSw
          have k0 := (hSw _ (.head _)).1
          dsimp only at k0
          clear hSw
          go_simp
          try (with_reducible rfl)
        try simp only [Act.put, sA, sZ, sS]
        refine tk 2 ?_ rfl ?_ ?_; rotate_left; focus (intro w hSw; clear hSw; go_simp; try (with_reducible rfl))
        try simp only [Act.put, sA, sZ, sS]
        refine tk 3 ?_ rfl ?_ ?_; rotate_left; focus (intro w hSw; clear hSw; go_simp; try (with_reducible rfl))
        try simp only [Act.put, sA, sZ, sS]
        refine tk 4 ?_ rfl ?_ ?_; rotate_left; focus (intro w hSw; clear hSw; go_simp; try (with_reducible rfl))
        try simp only [Act.put, sA, sZ, sS]
        refine tk 5 ?_ rfl ?_ ?_; rotate_left; focus (intro w hSw; clear hSw; go_simp; try (with_reducible rfl))
        try simp only [Act.put, sA, sZ, sS]
        refine tk 6 ?_ rfl ?_ ?_; rotate_left
        · intro wl hSw
          have hSw : Keep _ wl := hSw
          have k0 := (hSw _ (.tail _ (.head _))).1
          dsimp only at k0
          clear hSw
          go_simp
          try (with_reducible rfl)
        try simp only [Act.put, sA, sZ, sS]
        refine tk 7 ?_ rfl ?_ ?_; rotate_left; focus (intro w hSw; clear hSw; go_simp; try (with_reducible rfl))
        try simp only [Act.put, sA, sZ, sS]
        refine tk 8 ?_ rfl ?_ ?_; rotate_left; focus (intro w hSw; clear hSw; go_simp; try (with_reducible rfl))
        try simp only [Act.put, sA, sZ, sS]
        refine tk 9 ?_ rfl ?_ ?_; rotate_left
        · intro wl hSw
          have hSw : Keep _ wl := hSw
          have k0 := (hSw _ (.tail _ (.tail _ (.head _)))).1
          dsimp only at k0
          clear hSw
          go_simp
          try (with_reducible rfl)
        try simp only [Act.put, sA, sZ, sS]
        refine tk 10 ?_ rfl ?_ ?_; rotate_left; focus (intro w hSw; clear hSw; go_simp; try (with_reducible rfl))
        try simp only [Act.put, sA, sZ, sS]
        refine wpAnyH_done (by kernel_rfl) ?_ _
        clear hHeld
        have VS := Lib.hid Vwh.out
        obtain ⟨o0, o1, o2⟩ := VS.out.obox_at (i := 0) rfl
        go_wp2_with fail
        refine (fits_any nm L (i : Int) n c y1.s.length cy1 y2.s.length cy2 (some ⟨b, off, none⟩) Ay1 Ay2 _ _ _ HL.out (by omega) (HA.out.below VS.out.below) HQ1.out (by rw [← HQ1.out]; exact nb_le HV.out _ _) HQ2.out (by rw [← HQ2.out]; exact nb_le HV.out _ _) (HC1.out.below VS.out.below) (HC2.out.below VS.out.below)).mono ?_
        rintro r w9 ⟨rfl, hb⟩
        rw [HFB.out]
        have V9 := Lib.hid (VS.out.go hb)
        clear hb o0 o1 o2
        cases hfb : okN L d k with
        | true =>
          have HN := Lib.hid (show ∀ j, j < k + 1 → okN L d j = true from fun j hj => by
            rcases Nat.lt_or_ge j (k) with h | h
            · exact HOK.out j h
            · rw [show j = k by omega]; exact hfb)
          clear hfb
          go_wp2_with fail
          go_roundw
          case rel => exact ⟨k + 1, by omega, by go_num, HN.out, V9.out⟩
          case measure => simp [intOf]; omega
        | false =>
          have HE := Lib.hid (show okD L [] d = false by
            rw [Bool.eq_false_iff]
            intro h
            have := (okD_is L d).1 h (k) (by rw [HM.out]; exact hlt)
            rw [hfb] at this; cases this)
          clear hfb
          go_wp2_with fail
          go_ret
          exact ⟨ret_bool HE.out.symm, V9.out.below⟩
      · have hlI : ¬ (((k : Nat) : Int) + 1 < (m : Int)) := by omega
        have hlI2 : ¬ (((k + 1 : Nat) : Int) < (m : Int)) := by omega
        have HQ2 := Lib.hid (show (nbS L d (((k : Nat) : Int) + 1)).length = 0 by rw [nbS_none (Or.inr (by have := HM.out; omega))]; rfl)
        have HC2 := Lib.hid (show CellsIn w none (sndsC (nbS L d (((k : Nat) : Int) + 1))) by rw [nbS_none (Or.inr (by have := HM.out; omega))]; exact CellsIn.nil _ _)
        obtain ⟨o0, o1, o2⟩ := VR.out.obox_at (i := 0) rfl
        have VS := VR
        go_wp2_with fail
        refine (fits_any nm L (i : Int) n c y1.s.length cy1 0 0 (some ⟨b, off, none⟩) Ay1 none _ _ _ HL.out (by omega) (HA.out.below VS.out.below) HQ1.out (by rw [← HQ1.out]; exact nb_le HV.out _ _) HQ2.out (by rw [← HQ2.out]; exact nb_le HV.out _ _) (HC1.out.below VS.out.below) (HC2.out.below VS.out.below)).mono ?_
        rintro r w9 ⟨rfl, hb⟩
        rw [HFB.out]
        have V9 := Lib.hid (VS.out.go hb)
        clear hb o0 o1 o2
        cases hfb : okN L d k with
        | true =>
          have HN := Lib.hid (show ∀ j, j < k + 1 → okN L d j = true from fun j hj => by
            rcases Nat.lt_or_ge j (k) with h | h
            · exact HOK.out j h
            · rw [show j = k by omega]; exact hfb)
          clear hfb
          go_wp2_with fail
          go_roundw
          case rel => exact ⟨k + 1, by omega, by go_num, HN.out, V9.out⟩
          case measure => simp [intOf]; omega
        | false =>
          have HE := Lib.hid (show okD L [] d = false by
            rw [Bool.eq_false_iff]
            intro h
            have := (okD_is L d).1 h (k) (by rw [HM.out]; exact hlt)
            rw [hfb] at this; cases this)
          clear hfb
          go_wp2_with fail
          go_ret
          exact ⟨ret_bool HE.out.symm, V9.out.below⟩
    · obtain rfl : k = m := by omega
      have HE := Lib.hid (show okD L [] d = true from (okD_is L d).2 (fun j hj => HOK.out j (by rw [HM.out] at hj; exact hj)))
      go_wp2_with fail
      go_ret
      exact ⟨ret_bool HE.out.symm, V3.out.below⟩
end Go.Proofs.YtpifchlpakajjaaGreat
