/- Several texts in one: Jf, Jg. -/
import Derived.Test.YtpifchlpakajjaaGreatRdbf
namespace Go.Proofs.YtpifchlpakajjaaGreat
open Go.RowKit
set_option linter.unusedVariables false
set_option linter.unusedSimpArgs false
set_option maxRecDepth 100000

def txR (nm : List UInt8) (L : List Sg) (d : List Int) : List UInt8 := if lsE nm L d = 0 then tD L (dN d) else []
def sdR (nm : List UInt8) (L : List Sg) (d : List Int) : List Snd := if lsE nm L d = 0 then sndD L (dN d) else []
set_option maxHeartbeats 2000000 in
theorem rtext13_any (nm : List UInt8) (L : List Sg) (A : Option Addr) (n c : Nat) (d : List Int) (D : Option Addr) (m e : Nat) (w : World) (hnm : nm.length ≤ 140737488355328) (hl : L.length = n) (hn : n ≤ 17592186044416) (hs : SgBd L) (hA : SgnIn w A L) (hm : d.length = m) (hmb : m ≤ 1000) (hD : CellsIn w D (ints d)) :
    Calls Tryz.prog 29 #[.agg #[.string (bs nm), .slice A n c], .slice D m e] w fun r w' => r = .returned (.tuple #[.string (bs (txR nm L d)), .int .i64 (lsE nm L d)]) ∧ Below w.heap.size w w' := by
  obtain ⟨g1, hg1⟩ : ∃ z, z = w.heap.size := ⟨_, rfl⟩
  obtain ⟨W1, hW1⟩ : ∃ z, z = w.alloc (.cells #[.string (bs nm), .slice A n c] 24) := ⟨_, rfl⟩
  have V1 := Lib.hid (show Hp w [obox g1 nm A n c] W1 by rw [hW1, hg1]; exact (Hp.start w).obox_new nm A n c)
  have HW1 := Lib.hid hW1
  have HG1 := Lib.hid hg1
  have HLI := Lib.hid (rlist13_any nm L A n c d D m e W1 hnm hl hn hs (hA.below V1.out.below) hm (by omega) (hD.below V1.out.below))
  have HL := Lib.hid hl
  have HA := Lib.hid hA
  have HD := Lib.hid hD
  have HM := Lib.hid hm
  obtain ⟨z0, z1, z2⟩ := V1.out.obox_at (i := 0) rfl
  clear hW1 hg1 hl hA hD hm hs hnm
  go_enter Tryz.func29, Tryz.ntmps29
  go_upto_region 1 with fail
  rw [← HG1.out, ← HW1.out]
  go_wp2_with fail
  refine HLI.out.mono ?_
  rintro r w2 ⟨rfl, hb⟩
  have V2 := Lib.hid (V1.out.go hb)
  clear hb z0 z1 z2
  by_cases hv : lsE nm L d = 0
  case neg =>
    have HE := Lib.hid (show txR nm L d = [] by unfold txR; rw [if_neg hv]) 
    have _z := Lib.hid (show True from trivial)
    have _y := Lib.hid (show (if lsE nm L d = 0 then 0 else 1) = 1 by rw [if_neg hv])
    obtain ⟨v, hvv⟩ : ∃ v, v = lsE nm L d := ⟨_, rfl⟩
    rw [← hvv] at hv ⊢
    have HVV := Lib.hid hvv
    have e1 : (v != 0) = true := bne_yes hv
    clear hv hvv
    go_wp2_with fail
    go_ret2
    exact ⟨by rw [HE.out, ← HVV.out]; rfl, V2.out.below⟩
  have HLS := Lib.hid hv
  have HV := Lib.hid (lsE_zero hv).1
  have HRG := Lib.hid (lsE_zero hv).2.2
  have hm16 : m ≤ 16 := by have := (lsE_zero hv).2.1; have := HM.out; omega
  rw [hv]
  obtain ⟨dn, hdn⟩ : ∃ dn, dn = dN d := ⟨_, rfl⟩
  have HDN := Lib.hid (show ∀ i ∈ dn, i < n by rw [hdn, ← HL.out]; exact rgI_dN HRG.out)
  have HDE := Lib.hid (show CellsIn w D (ints (dI dn)) by rw [hdn, dI_dN HRG.out]; exact HD.out)
  have HDM := Lib.hid (show dn.length = m by rw [hdn, dN_len]; exact HM.out)
  have HN0 := Lib.hid hdn
  have hn120 : n ≤ 120 := by have := (vO_zero HV.out).2.2.1; have := HL.out; omega
  clear hv hdn
  obtain ⟨z0, z1, z2⟩ := V2.out.obox_at (i := 0) rfl
  have HE := Lib.hid (show txR nm L d = tD L dn by unfold txR; rw [if_pos HLS.out, HN0.out])
  go_wp2_with fail
  refine (rjoin13_any nm L A n c dn D m e _ HV.out HL.out (HA.out.below V2.out.below) HDN.out HDM.out hmb (HDE.out.below V2.out.below)).mono ?_
  rintro r w4 ⟨rfl, hb⟩
  have V4 := Lib.hid (V2.out.go hb)
  clear hb z0 z1 z2
  go_wp2_with fail
  go_ret2
  exact ⟨by rw [HE.out, HLS.out]; rfl, V4.out.below⟩
set_option maxHeartbeats 2000000 in
theorem rsounds13_any (nm : List UInt8) (L : List Sg) (A : Option Addr) (n c : Nat) (d : List Int) (D : Option Addr) (m e : Nat) (w : World) (hnm : nm.length ≤ 140737488355328) (hl : L.length = n) (hn : n ≤ 17592186044416) (hs : SgBd L) (hA : SgnIn w A L) (hm : d.length = m) (hmb : m ≤ 1000) (hD : CellsIn w D (ints d)) :
    Calls Tryz.prog 25 #[.agg #[.string (bs nm), .slice A n c], .slice D m e] w fun r w' => ∃ C q k, r = .returned (.tuple #[.slice C q k, .int .i64 (lsE nm L d)]) ∧ (sdR nm L d).length = q ∧ Hp w [snds C q k (sdR nm L d)] w' := by
  obtain ⟨g1, hg1⟩ : ∃ z, z = w.heap.size := ⟨_, rfl⟩
  obtain ⟨W1, hW1⟩ : ∃ z, z = w.alloc (.cells #[.string (bs nm), .slice A n c] 24) := ⟨_, rfl⟩
  have V1 := Lib.hid (show Hp w [obox g1 nm A n c] W1 by rw [hW1, hg1]; exact (Hp.start w).obox_new nm A n c)
  have HW1 := Lib.hid hW1
  have HG1 := Lib.hid hg1
  have HLI := Lib.hid (rlist13_any nm L A n c d D m e W1 hnm hl hn hs (hA.below V1.out.below) hm (by omega) (hD.below V1.out.below))
  have HL := Lib.hid hl
  have HA := Lib.hid hA
  have HD := Lib.hid hD
  have HM := Lib.hid hm
  obtain ⟨z0, z1, z2⟩ := V1.out.obox_at (i := 0) rfl
  clear hW1 hg1 hl hA hD hm hs hnm
  go_enter Tryz.func25, Tryz.ntmps25
  go_upto_region 1 with fail
  rw [← HG1.out, ← HW1.out]
  go_wp2_with fail
  refine HLI.out.mono ?_
  rintro r w2 ⟨rfl, hb⟩
  have V2 := Lib.hid (V1.out.go hb)
  clear hb z0 z1 z2
  by_cases hv : lsE nm L d = 0
  case neg =>
    have HE := Lib.hid (show sdR nm L d = [] by unfold sdR; rw [if_neg hv]) 
    have _y := Lib.hid (show (if lsE nm L d = 0 then 0 else 1) = 1 by rw [if_neg hv])
    obtain ⟨v, hvv⟩ : ∃ v, v = lsE nm L d := ⟨_, rfl⟩
    rw [← hvv] at hv ⊢
    have HVV := Lib.hid hvv
    have e1 : (v != 0) = true := bne_yes hv
    clear hv hvv
    go_wp2_with fail
    go_ret2
    have V3 := Lib.hid (show Hp w [snds none 0 0 (sdR nm L d), obox g1 nm A n c] w2 by rw [HE.out]; exact V2.out.nil_row _ rfl rfl rfl)
    exact ⟨none, 0, 0, by rw [← HVV.out]; rfl, by rw [HE.out]; rfl, V3.out.sub (fun i => i) (fun _ _ e => e) (fun i it hi => by
      cases i with
      | zero => exact hi
      | succ i => simp at hi)⟩
  have HLS := Lib.hid hv
  have HV := Lib.hid (lsE_zero hv).1
  have HRG := Lib.hid (lsE_zero hv).2.2
  have hm16 : m ≤ 16 := by have := (lsE_zero hv).2.1; have := HM.out; omega
  rw [hv]
  obtain ⟨dn, hdn⟩ : ∃ dn, dn = dN d := ⟨_, rfl⟩
  have HDN := Lib.hid (show ∀ i ∈ dn, i < n by rw [hdn, ← HL.out]; exact rgI_dN HRG.out)
  have HDE := Lib.hid (show CellsIn w D (ints (dI dn)) by rw [hdn, dI_dN HRG.out]; exact HD.out)
  have HDM := Lib.hid (show dn.length = m by rw [hdn, dN_len]; exact HM.out)
  have HN0 := Lib.hid hdn
  have hn120 : n ≤ 120 := by have := (vO_zero HV.out).2.2.1; have := HL.out; omega
  clear hv hdn
  have HE := Lib.hid (show sdR nm L d = sndD L dn by unfold sdR; rw [if_pos HLS.out, HN0.out])
  have V3 := Lib.hid (show Hp w [snds none 0 0 (sndD L (dn.take 0)), obox g1 nm A n c] w2 from V2.out.nil_row _ rfl rfl rfl)
  clear V2
  go_wp2_with fail
  go_loopw [7, 8] (fun v i wr => ∃ (k q h : Nat) (C : Option Addr), k ≤ m ∧ i = .int .i64 (k : Int) ∧ v = .slice C q h ∧ q ≤ k * 2 ∧ (sndD L (dn.take k)).length = q ∧ Hp w [snds C q h (sndD L (dn.take k)), obox g1 nm A n c] wr) (fun _ i _ => m - (intOf i).toNat)
  case atStart => exact ⟨0, 0, 0, none, Nat.zero_le _, rfl, rfl, Nat.zero_le _, rfl, V3.out⟩
  case round =>
    obtain ⟨k, q, h, C, hk, rfl, rfl, hq, hql, hV⟩ := hrel
    obtain ⟨wi, rfl⟩ : ∃ wi : World, wi = wr := ⟨_, rfl⟩
    have V5 := Lib.hid hV
    have HQL := Lib.hid hql
    clear hV hql V3 V1
    obtain ⟨o0, o1, o2⟩ := V5.out.obox_at (i := 1) rfl
    by_cases hlt : k < m
    · obtain ⟨i, hi⟩ := get_at (L := dn) (k := k) (by have := HDM.out; omega)
      have hin := HDN.out i (List.mem_of_getElem? hi)
      obtain ⟨bD, oD, hDe, hbD', d0'⟩ := HDE.out.idx hi
      obtain ⟨x, hx⟩ := get_at (L := L) (k := i) (by have := HL.out; omega)
      obtain ⟨b, off, Aj, cj, hAe, hb', c0', c1', c2', c3', c4'⟩ := HA.out.at hx
      have HB0 := Lib.hid (And.intro hbD' d0')
      have HB1 := Lib.hid (And.intro hb' c1')
      have d0 := (V5.out.below.cell (p := ⟨bD, oD + k, none⟩) hbD').trans d0'
      have c1 := (V5.out.below.cell (p := ⟨b, off + i * 4 + 1, none⟩) hb').trans c1'
      have hbD := Nat.lt_of_lt_of_le hbD' V5.out.below.size
      have hb := Nat.lt_of_lt_of_le hb' V5.out.below.size
      have c4 := c4'.below V5.out.below
      clear hbD' d0' hb' c0' c1' c2' c3' c4'
      have hxs : 0 < x.s.length ∧ x.s.length ≤ 2 := by have := sgn_bd HV.out (i := i) (by rw [HL.out]; exact hin); rw [sgAt_is hx] at this; omega
      have HC := Lib.hid c4
      have HN := Lib.hid (show sndD L (dn.take (k + 1)) = sndD L (dn.take k) ++ x.s by rw [take_snocA hi, sndD_snoc, sgAt_is hx])
      rw [hAe] at o1
      have HAE := Lib.hid hAe
      have HDD := Lib.hid hDe
      subst hAe
      subst hDe
      have hi4 : i * 4 ≤ 480 := by omega
      clear hi hx c4
      go_upto_region 8 with fail
      have hKp : Keep [(⟨g1, 1, none⟩, .slice (some ⟨b, off, none⟩) n c), (⟨bD, oD + k, none⟩, .int .i64 (i : Int)), (⟨b, off + i * 4 + 1, none⟩, .slice Aj x.s.length cj)] wi := List.forall_mem_cons.2 ⟨⟨(V5.out.box_at (i := 1) (j := 1) rfl rfl).1, (V5.out.box_at (i := 1) (j := 1) rfl rfl).2.2⟩, List.forall_mem_cons.2 ⟨⟨d0, hbD⟩, List.forall_mem_cons.2 ⟨⟨c1, hb⟩, fun _ h => by simp at h⟩⟩⟩
      refine wp_region_held_drew (S := Keep _) (by kernel_rfl) hKp.drew (fun hHeld => ?_)
      obtain ⟨wf, hwf⟩ : ∃ z, z = wi.drew := ⟨_, rfl⟩
      have Vwf := Lib.hid (show Hp w (snds C q h (sndD L (dn.take k)) :: obox g1 nm (some ⟨b, off, none⟩) n c :: []) wf by rw [hwf]; exact V5.out.go (bdrew _))
      have Bwf := Lib.hid (show Below wi.heap.size wi wf by rw [hwf]; exact bdrew _)
      rw [← hwf] at hHeld ⊢
      clear hwf hKp
      refine tk 0 ?_ rfl ?_ ?_; rotate_left; focus (intro w hSw; clear hSw; go_simp; try (with_reducible rfl))
      try simp only [Act.put, sA, sZ, sS]
      refine tk 1 ?_ rfl ?_ ?_; rotate_left; focus (intro w hSw; clear hSw; go_simp; try (with_reducible rfl))
      try simp only [Act.put, sA, sZ, sS]
      refine tk 2 ?_ rfl ?_ ?_; rotate_left
      · intro wl hSw
        have hSw : Keep _ wl := hSw
        have k0 := (hSw _ (.head _)).1
        dsimp only at k0
        clear hSw
        go_simp
        try (with_reducible rfl)
      try simp only [Act.put, sA, sZ, sS]
      refine tk 3 ?_ rfl ?_ ?_; rotate_left; focus (intro w hSw; clear hSw; go_simp; try (with_reducible rfl))
      try simp only [Act.put, sA, sZ, sS]
      refine tk 4 ?_ rfl ?_ ?_; rotate_left; focus (intro w hSw; clear hSw; go_simp; try (with_reducible rfl))
      try simp only [Act.put, sA, sZ, sS]
      refine tk 5 ?_ rfl ?_ ?_; rotate_left; focus (intro w hSw; clear hSw; go_simp; try (with_reducible rfl))
      try simp only [Act.put, sA, sZ, sS]
      refine tk 6 ?_ rfl ?_ ?_; rotate_left
      · intro wl hSw
        have hSw : Keep _ wl := hSw
        have k0 := (hSw _ (.tail _ (.head _))).1
        dsimp only at k0
        clear hSw
        go_simp
        try (with_reducible rfl)
      try simp only [Act.put, sA, sZ, sS]
      refine tk 7 ?_ rfl ?_ ?_; rotate_left; focus (intro w hSw; clear hSw; go_simp; try (with_reducible rfl))
      try simp only [Act.put, sA, sZ, sS]
      refine tk 8 ?_ rfl ?_ ?_; rotate_left; focus (intro w hSw; clear hSw; go_simp; try (with_reducible rfl))
      try simp only [Act.put, sA, sZ, sS]
      refine tk 9 ?_ rfl ?_ ?_; rotate_left
      · intro wl hSw
        have hSw : Keep _ wl := hSw
        have k0 := (hSw _ (.tail _ (.tail _ (.head _)))).1
        dsimp only at k0
        clear hSw
        go_simp
        try (with_reducible rfl)
      try simp only [Act.put, sA, sZ, sS]
      refine wpAnyH_ready (rs := [10]) (by kernel_rfl) (by simp) ?_
      refine AllReadyH.cons (List.getElem?_toArray.trans rfl) (fun K hK => ?_) AllReadyH.nil
      obtain ⟨A2, c2, w_10, hr, hv2, hg2⟩ := run_cat_snds Vwf.out (i := 0) rfl 41 (B := Aj) (m := x.s.length) (d := cj) x.s rfl (HC.out.below Bwf.out) (by omega) (by omega)
      have HR := Lib.hid hr
      have V_10 := Lib.hid (show Hp w [snds A2 (q + x.s.length) c2 (sndD L (dn.take k) ++ x.s), obox g1 nm (some ⟨b, off, none⟩) n c] w_10 from hv2)
      have k1 : w_10.cell? ⟨bD, oD + k, none⟩ = some (.int .i64 (i : Int)) := (V_10.out.below.cell (p := ⟨bD, oD + k, none⟩) HB0.out.1).trans HB0.out.2
      have k2 := Nat.lt_of_lt_of_le HB0.out.1 V_10.out.below.size
      have k3 : w_10.cell? ⟨b, off + i * 4 + 1, none⟩ = some (.slice Aj x.s.length cj) := (V_10.out.below.cell (p := ⟨b, off + i * 4 + 1, none⟩) HB1.out.1).trans HB1.out.2
      have k4 := Nat.lt_of_lt_of_le HB1.out.1 V_10.out.below.size
      clear hr hv2 hg2
      refine step_app_run rfl (.tmp 21) (.tmp 30) 41 rfl HR.out rfl rfl ?_
      refine hK.out _ _ (List.forall_mem_cons.2 ⟨⟨(V_10.out.box_at (i := 1) (j := 1) rfl rfl).1, (V_10.out.box_at (i := 1) (j := 1) rfl rfl).2.2⟩, List.forall_mem_cons.2 ⟨⟨k1, k2⟩, List.forall_mem_cons.2 ⟨⟨k3, k4⟩, fun _ h => by simp at h⟩⟩⟩) (fun hHeld => ?_)
      clear hK K
      try simp only [Act.put, sA, sZ, sS]
      refine tk 11 ?_ rfl ?_ ?_; rotate_left; focus (intro w hSw; clear hSw; go_simp; try (with_reducible rfl))
      try simp only [Act.put, sA, sZ, sS]
      refine wpAnyH_done (by kernel_rfl) ?_ _
      clear hHeld
      rw [← HN.out] at V_10
      have HL2 := Lib.hid (show (sndD L (dn.take (k + 1))).length = q + x.s.length by rw [HN.out, List.length_append, HQL.out])
      clear k1 k2 k3 k4
      go_wp2_with fail
      go_roundw
      case rel => exact ⟨k + 1, q + x.s.length, c2, A2, by omega, by go_num, rfl, by omega, HL2.out, V_10.out⟩
      case measure => simp [intOf]; omega
    · obtain rfl : k = m := by omega
      have HT := Lib.hid (show dn.take k = dn from List.take_of_length_le (by have := HDM.out; omega))
      rw [HT.out, ← HE.out] at HQL V5
      go_wp2_with fail
      go_ret2
      exact ⟨C, q, h, by rw [HLS.out]; rfl, HQL.out, V5.out.sub (fun i => i) (fun _ _ e => e) (fun i it hi => by
        cases i with
        | zero => exact hi
        | succ i => simp at hi)⟩
end Go.Proofs.YtpifchlpakajjaaGreat

namespace Go.Proofs.YtpifchlpakajjaaGreat
open Go.RowKit
set_option linter.unusedVariables false
set_option linter.unusedSimpArgs false
set_option maxRecDepth 100000

def ofR (nm : List UInt8) (L : List Sg) (d : List Int) : List Int := if lsE nm L d = 0 then offD L 0 (dN d) else []
set_option maxHeartbeats 2000000 in
theorem roffsets13_any (nm : List UInt8) (L : List Sg) (A : Option Addr) (n c : Nat) (d : List Int) (D : Option Addr) (m e : Nat) (w : World) (hnm : nm.length ≤ 140737488355328) (hl : L.length = n) (hn : n ≤ 17592186044416) (hs : SgBd L) (hA : SgnIn w A L) (hm : d.length = m) (hmb : m ≤ 1000) (hD : CellsIn w D (ints d)) :
    Calls Tryz.prog 27 #[.agg #[.string (bs nm), .slice A n c], .slice D m e] w fun r w' => ∃ C q k, r = .returned (.tuple #[.slice C q k, .int .i64 (lsE nm L d)]) ∧ (ofR nm L d).length = q ∧ Hp w [nums C q k (ofR nm L d)] w' := by
  obtain ⟨g1, hg1⟩ : ∃ z, z = w.heap.size := ⟨_, rfl⟩
  obtain ⟨W1, hW1⟩ : ∃ z, z = w.alloc (.cells #[.string (bs nm), .slice A n c] 24) := ⟨_, rfl⟩
  have V1 := Lib.hid (show Hp w [obox g1 nm A n c] W1 by rw [hW1, hg1]; exact (Hp.start w).obox_new nm A n c)
  have HW1 := Lib.hid hW1
  have HG1 := Lib.hid hg1
  have HLI := Lib.hid (rlist13_any nm L A n c d D m e W1 hnm hl hn hs (hA.below V1.out.below) hm (by omega) (hD.below V1.out.below))
  have HL := Lib.hid hl
  have HA := Lib.hid hA
  have HD := Lib.hid hD
  have HM := Lib.hid hm
  obtain ⟨z0, z1, z2⟩ := V1.out.obox_at (i := 0) rfl
  clear hW1 hg1 hl hA hD hm hs hnm
  go_enter Tryz.func27, Tryz.ntmps27
  go_upto_region 1 with fail
  rw [← HG1.out, ← HW1.out]
  go_wp2_with fail
  refine HLI.out.mono ?_
  rintro r w2 ⟨rfl, hb⟩
  have V2 := Lib.hid (V1.out.go hb)
  clear hb z0 z1 z2
  by_cases hv : lsE nm L d = 0
  case neg =>
    have HE := Lib.hid (show ofR nm L d = [] by unfold ofR; rw [if_neg hv]) 
    have _y := Lib.hid (show (if lsE nm L d = 0 then 0 else 1) = 1 by rw [if_neg hv])
    obtain ⟨v, hvv⟩ : ∃ v, v = lsE nm L d := ⟨_, rfl⟩
    rw [← hvv] at hv ⊢
    have HVV := Lib.hid hvv
    have e1 : (v != 0) = true := bne_yes hv
    clear hv hvv
    go_wp2_with fail
    go_ret2
    have V3 := Lib.hid (show Hp w [nums none 0 0 (ofR nm L d), obox g1 nm A n c] w2 by rw [HE.out]; exact V2.out.nil_row _ rfl rfl rfl)
    exact ⟨none, 0, 0, by rw [← HVV.out]; rfl, by rw [HE.out]; rfl, V3.out.sub (fun i => i) (fun _ _ e => e) (fun i it hi => by
      cases i with
      | zero => exact hi
      | succ i => simp at hi)⟩
  have HLS := Lib.hid hv
  have HV := Lib.hid (lsE_zero hv).1
  have HRG := Lib.hid (lsE_zero hv).2.2
  have hm16 : m ≤ 16 := by have := (lsE_zero hv).2.1; have := HM.out; omega
  rw [hv]
  obtain ⟨dn, hdn⟩ : ∃ dn, dn = dN d := ⟨_, rfl⟩
  have HDN := Lib.hid (show ∀ i ∈ dn, i < n by rw [hdn, ← HL.out]; exact rgI_dN HRG.out)
  have HDE := Lib.hid (show CellsIn w D (ints (dI dn)) by rw [hdn, dI_dN HRG.out]; exact HD.out)
  have HDM := Lib.hid (show dn.length = m by rw [hdn, dN_len]; exact HM.out)
  have HN0 := Lib.hid hdn
  have hn120 : n ≤ 120 := by have := (vO_zero HV.out).2.2.1; have := HL.out; omega
  clear hv hdn
  have HE := Lib.hid (show ofR nm L d = offD L 0 dn by unfold ofR; rw [if_pos HLS.out, HN0.out])
  have V3 := Lib.hid (show Hp w [nums none 0 0 (offD L 0 (dn.take 0)), obox g1 nm A n c] w2 from V2.out.nil_row _ rfl rfl rfl)
  clear V2
  go_wp2_with fail
  go_loopw [7, 8, 9] (fun v a i wr => ∃ (k q h at_ : Nat) (C : Option Addr), k ≤ m ∧ i = .int .i64 (k : Int) ∧ v = .slice C q h ∧ a = .int .i64 (at_ : Int) ∧ q ≤ k * 2 ∧ at_ ≤ k * 4 ∧ (offD L 0 (dn.take k)).length = q ∧ (tD L (dn.take k)).length = at_ ∧ Hp w [nums C q h (offD L 0 (dn.take k)), obox g1 nm A n c] wr) (fun _ _ i _ => m - (intOf i).toNat)
  case atStart => exact ⟨0, 0, 0, 0, none, Nat.zero_le _, rfl, rfl, rfl, Nat.zero_le _, Nat.zero_le _, rfl, rfl, V3.out⟩
  case round =>
    obtain ⟨k, q, h, at_, C, hk, rfl, rfl, rfl, hq, hat, hql, hal, hV⟩ := hrel
    obtain ⟨wi, rfl⟩ : ∃ wi : World, wi = wr := ⟨_, rfl⟩
    have V5 := Lib.hid hV
    have HQL := Lib.hid hql
    have HAL := Lib.hid hal
    clear hV hql hal V3 V1
    obtain ⟨o0, o1, o2⟩ := V5.out.obox_at (i := 1) rfl
    by_cases hlt : k < m
    · obtain ⟨i, hi⟩ := get_at (L := dn) (k := k) (by have := HDM.out; omega)
      have hin := HDN.out i (List.mem_of_getElem? hi)
      obtain ⟨bD, oD, hDe, hbD, d0⟩ := (HDE.out.below V5.out.below).idx hi
      obtain ⟨x, hx⟩ := get_at (L := L) (k := i) (by have := HL.out; omega)
      obtain ⟨b, off, Aj, cj, hAe, hb, c0, c1, c2, c3, c4⟩ := (HA.out.below V5.out.below).at hx
      have hxs : x.s.length ≤ 2 ∧ x.t.length ≤ 4 := by have := sgn_bd HV.out (i := i) (by rw [HL.out]; exact hin); rw [sgAt_is hx] at this; omega
      have HN := Lib.hid (show offD L 0 (dn.take (k + 1)) = offD L 0 (dn.take k) ++ List.replicate x.s.length (at_ : Int) by rw [take_snocA hi, offD_snoc, sgAt_is hx, Nat.zero_add, HAL.out])
      have HAN := Lib.hid (show (tD L (dn.take (k + 1))).length = at_ + x.t.length by rw [take_snocA hi, tD_snoc, List.length_append, HAL.out, sgAt_is hx])
      rw [hAe] at o1
      have HAE := Lib.hid hAe
      have HDD := Lib.hid hDe
      subst hAe
      subst hDe
      have hi4 : i * 4 ≤ 480 := by omega
      clear hi hx c4
      go_upto_region 9 with fail
      go_cut [10] (fun p wx => ∃ g8, p = .pointer (some ⟨g8, 0, none⟩) ∧ Hp w (sgbox g8 (Aj, cj) x :: nums C q h (offD L 0 (dn.take k)) :: obox g1 nm (some ⟨b, off, none⟩) n c :: []) wx)
      case first =>
        have hKp : Keep [(⟨g1, 1, none⟩, .slice (some ⟨b, off, none⟩) n c), (⟨bD, oD + k, none⟩, .int .i64 (i : Int)), (⟨b, off + i * 4, none⟩, .string (bs x.t)), (⟨b, off + i * 4 + 1, none⟩, .slice Aj x.s.length cj), (⟨b, off + i * 4 + 2, none⟩, .int .i64 x.c), (⟨b, off + i * 4 + 3, none⟩, .int .i64 x.w)] wi := List.forall_mem_cons.2 ⟨⟨(V5.out.box_at (i := 1) (j := 1) rfl rfl).1, (V5.out.box_at (i := 1) (j := 1) rfl rfl).2.2⟩, List.forall_mem_cons.2 ⟨⟨d0, hbD⟩, List.forall_mem_cons.2 ⟨⟨c0, hb⟩, List.forall_mem_cons.2 ⟨⟨c1, hb⟩, List.forall_mem_cons.2 ⟨⟨c2, hb⟩, List.forall_mem_cons.2 ⟨⟨c3, hb⟩, fun _ h => by simp at h⟩⟩⟩⟩⟩⟩
        refine wp_region_held_drew (S := Keep _) (by kernel_rfl) hKp.drew (fun hHeld => ?_)
        obtain ⟨wd, hwd⟩ : ∃ z, z = wi.drew := ⟨_, rfl⟩
        have Vwd := Lib.hid (show Hp w (nums C q h (offD L 0 (dn.take k)) :: obox g1 nm (some ⟨b, off, none⟩) n c :: []) wd by rw [hwd]; exact V5.out.go (bdrew _))
        have Bwd := Lib.hid (show Below wi.heap.size wi wd by rw [hwd]; exact bdrew _)
        rw [← hwd] at hHeld ⊢
        clear hwd hKp
        refine tk 0 ?_ rfl ?_ ?_; rotate_left; focus (intro w hSw; clear hSw; go_simp; try (with_reducible rfl))
        try simp only [Act.put, sA, sZ, sS]
        refine tk 1 ?_ rfl ?_ ?_; rotate_left
        · intro wl hSw
          have hSw : Keep _ wl := hSw
          have k0 := (hSw _ (.head _)).1
          dsimp only at k0
          clear hSw
          go_simp
          try (with_reducible rfl)
        try simp only [Act.put, sA, sZ, sS]
        refine tk 2 ?_ rfl ?_ ?_; rotate_left; focus (intro w hSw; clear hSw; go_simp; try (with_reducible rfl))
        try simp only [Act.put, sA, sZ, sS]
        refine tk 3 ?_ rfl ?_ ?_; rotate_left; focus (intro w hSw; clear hSw; go_simp; try (with_reducible rfl))
        try simp only [Act.put, sA, sZ, sS]
        refine tk 4 ?_ rfl ?_ ?_; rotate_left; focus (intro w hSw; clear hSw; go_simp; try (with_reducible rfl))
        try simp only [Act.put, sA, sZ, sS]
        refine tk 5 ?_ rfl ?_ ?_; rotate_left
        · intro wl hSw
          have hSw : Keep _ wl := hSw
          have k0 := (hSw _ (.tail _ (.head _))).1
          dsimp only at k0
          clear hSw
          go_simp
          try (with_reducible rfl)
        try simp only [Act.put, sA, sZ, sS]
        refine tk 6 ?_ rfl ?_ ?_; rotate_left; focus (intro w hSw; clear hSw; go_simp; try (with_reducible rfl))
        try simp only [Act.put, sA, sZ, sS]
        refine tk 7 ?_ rfl ?_ ?_; rotate_left
        · intro wl hSw
          have hSw : Keep _ wl := hSw
          have k0 := (hSw _ (.tail _ (.tail _ (.head _)))).1
          have k1 := (hSw _ (.tail _ (.tail _ (.tail _ (.head _))))).1
          have k2 := (hSw _ (.tail _ (.tail _ (.tail _ (.tail _ (.head _)))))).1
          have k3 := (hSw _ (.tail _ (.tail _ (.tail _ (.tail _ (.tail _ (.head _))))))).1
          dsimp only at k0 k1 k2 k3
          clear hSw
          go_simp
          try (with_reducible rfl)
        try simp only [Act.put, sA, sZ, sS]
        refine wpAnyH_ready (rs := [8]) (by kernel_rfl) (by simp) ?_
        refine AllReadyH.cons (List.getElem?_toArray.trans rfl) (fun K hK => ?_) AllReadyH.nil
        obtain ⟨w_8, hw_8⟩ : ∃ z, z = wd.alloc (.cells #[.string ⟨#[]⟩, .slice none 0 0, .int .i64 0, .int .i64 0] 58) := ⟨_, rfl⟩
        obtain ⟨g_8, hg_8⟩ : ∃ z, z = wd.heap.size := ⟨_, rfl⟩
        have V_8 := Lib.hid (show Hp w (sgbox g_8 (none, 0) zSg :: nums C q h (offD L 0 (dn.take k)) :: obox g1 nm (some ⟨b, off, none⟩) n c :: []) w_8 by rw [hw_8, hg_8]; exact Vwd.out.sgbox_new none 0 zSg)
        have B_8 := Lib.hid (show Below wd.heap.size wd w_8 by rw [hw_8]; exact bnew _ _)
        have HW_8 := Lib.hid hw_8
        have HG_8 := Lib.hid hg_8
        clear hw_8 hg_8
        go_simp
        try rw [← HW_8.out]
        try rw [← HG_8.out]
        refine hK.out _ _ (hHeld.go B_8.out) (fun hHeld => ?_)
        clear hK K
        try simp only [Act.put, sA, sZ, sS]
        refine wpAnyH_ready (rs := [9]) (by kernel_rfl) (by simp) ?_
        refine AllReadyH.cons (List.getElem?_toArray.trans rfl) (fun K hK => ?_) AllReadyH.nil
        have hlt1 : g1 < g_8 := by rw [HG_8.out]; exact Nat.lt_of_lt_of_le o2 Bwd.out.size
        have hlt2 : bD < g_8 := by rw [HG_8.out]; exact Nat.lt_of_lt_of_le hbD Bwd.out.size
        have hlt3 : b < g_8 := by rw [HG_8.out]; exact Nat.lt_of_lt_of_le hb Bwd.out.size
        obtain ⟨⟨k0, k1, k2, k3⟩, ⟨f0, f1, f2, f3⟩, k4⟩ := V_8.out.sgbox_all (i := 0) rfl
        dsimp only [zSg, List.length_nil] at k0 k1 k2 k3
        have VE := Lib.hid (V_8.out.sgbox_put (i := 0) rfl Aj cj x)
        go_simp
        refine hK.out _ _ (((((hHeld.set _ _ _ (List.forall_mem_cons.2 ⟨Nat.ne_of_lt hlt1, List.forall_mem_cons.2 ⟨Nat.ne_of_lt hlt2, List.forall_mem_cons.2 ⟨Nat.ne_of_lt hlt3, List.forall_mem_cons.2 ⟨Nat.ne_of_lt hlt3, List.forall_mem_cons.2 ⟨Nat.ne_of_lt hlt3, List.forall_mem_cons.2 ⟨Nat.ne_of_lt hlt3, fun _ h => by simp at h⟩⟩⟩⟩⟩⟩)).set _ _ _ (List.forall_mem_cons.2 ⟨Nat.ne_of_lt hlt1, List.forall_mem_cons.2 ⟨Nat.ne_of_lt hlt2, List.forall_mem_cons.2 ⟨Nat.ne_of_lt hlt3, List.forall_mem_cons.2 ⟨Nat.ne_of_lt hlt3, List.forall_mem_cons.2 ⟨Nat.ne_of_lt hlt3, List.forall_mem_cons.2 ⟨Nat.ne_of_lt hlt3, fun _ h => by simp at h⟩⟩⟩⟩⟩⟩)).set _ _ _ (List.forall_mem_cons.2 ⟨Nat.ne_of_lt hlt1, List.forall_mem_cons.2 ⟨Nat.ne_of_lt hlt2, List.forall_mem_cons.2 ⟨Nat.ne_of_lt hlt3, List.forall_mem_cons.2 ⟨Nat.ne_of_lt hlt3, List.forall_mem_cons.2 ⟨Nat.ne_of_lt hlt3, List.forall_mem_cons.2 ⟨Nat.ne_of_lt hlt3, fun _ h => by simp at h⟩⟩⟩⟩⟩⟩)).set _ _ _ (List.forall_mem_cons.2 ⟨Nat.ne_of_lt hlt1, List.forall_mem_cons.2 ⟨Nat.ne_of_lt hlt2, List.forall_mem_cons.2 ⟨Nat.ne_of_lt hlt3, List.forall_mem_cons.2 ⟨Nat.ne_of_lt hlt3, List.forall_mem_cons.2 ⟨Nat.ne_of_lt hlt3, List.forall_mem_cons.2 ⟨Nat.ne_of_lt hlt3, fun _ h => by simp at h⟩⟩⟩⟩⟩⟩))) (fun hHeld => ?_)
        clear hK K
        try simp only [Act.put, sA, sZ, sS]
        refine wpAnyH_done (by kernel_rfl) ?_ _
        clear hHeld
        go_wp2_with fail
        go_meet
        exact ⟨_, rfl, VE.out⟩
      case rest =>
      obtain ⟨g8, rfl, hV6⟩ := hcut
      obtain ⟨wj, rfl⟩ : ∃ z : World, z = wc := ⟨_, rfl⟩
      have V6 := Lib.hid hV6
      clear hV6 V5 o0 o1 o2 d0 hbD c0 c1 c2 c3 hb
      obtain ⟨sl, hsl⟩ : ∃ z, z = x.s.length := ⟨_, rfl⟩
      obtain ⟨tl, htl⟩ : ∃ z, z = x.t.length := ⟨_, rfl⟩
      have HSL := Lib.hid hsl
      have HTL := Lib.hid htl
      rw [← hsl] at HN hxs
      rw [← htl] at HAN hxs
      clear hsl htl
      go_wp2_with fail
      go_loopw [7, 11] (fun v i wr => ∃ (j r g : Nat) (E : Option Addr), j ≤ sl ∧ i = .int .i64 (j : Int) ∧ v = .slice E r g ∧ q + j ≤ r ∧ r ≤ q + j ∧ Hp w (sgbox g8 (Aj, cj) x :: nums E r g (offD L 0 (dn.take k) ++ List.replicate j (at_ : Int)) :: obox g1 nm (some ⟨b, off, none⟩) n c :: []) wr) (fun _ i _ => sl - (intOf i).toNat)
      case atStart => exact ⟨0, q, h, C, Nat.zero_le _, rfl, rfl, Nat.le_refl _, Nat.le_refl _, by rw [List.replicate_zero, List.append_nil]; exact V6.out⟩
      case round =>
        obtain ⟨j, r, g, E, hj, rfl, rfl, hr1, hr2, hV⟩ := hrel
        obtain ⟨wk, rfl⟩ : ∃ wi : World, wi = wr := ⟨_, rfl⟩
        have V7 := Lib.hid hV
        clear hV V6
        obtain ⟨y0, y1, y2, y3, y4⟩ := V7.out.sgbox_at (i := 0) rfl
        dsimp only at y1
        rw [← HSL.out] at y1
        by_cases hjl : j < sl
        · obtain ⟨wy, hwy⟩ : ∃ z, z = wk.alloc (.cells #[.int .i64 (at_ : Int)] 3) := ⟨_, rfl⟩
          have V8 := Lib.hid (show Hp w (box 3 wk.heap.size [.int .i64 (at_ : Int)] :: sgbox g8 (Aj, cj) x :: nums E r g (offD L 0 (dn.take k) ++ List.replicate j (at_ : Int)) :: obox g1 nm (some ⟨b, off, none⟩) n c :: []) wy by rw [hwy]; exact V7.out.box_new _ _)
          have q0 := (V8.out.box_at (i := 0) (j := 0) rfl rfl).1
          obtain ⟨g9, cap9, w9, hr9, hv9, _⟩ := run_app_num V8.out (i := 2) rfl 35 (at_ : Int) q0 (by omega)
          have V9 := Lib.hid (show Hp w (sgbox g8 (Aj, cj) x :: nums (some ⟨g9, 0, none⟩) (r + 1) cap9 (offD L 0 (dn.take k) ++ List.replicate (j + 1) (at_ : Int)) :: obox g1 nm (some ⟨b, off, none⟩) n c :: []) w9 by
            rw [List.replicate_succ', ← List.append_assoc]; exact hv9.tail)
          have HY := Lib.hid hwy
          have HR9 := Lib.hid hr9
          clear hwy q0 hv9 hr9
          go_wp2_with (at_builtin; rw [← HY.out]; refine wpList_app_run rfl (.tmp 39) (.tmp 41) 35 rfl HR9.out rfl rfl ?_)
          go_roundw
          case rel => exact ⟨j + 1, r + 1, cap9, _, by omega, by go_num, rfl, by omega, by omega, V9.out⟩
          case measure => simp [intOf]; omega
        · obtain rfl : j = sl := by omega
          have hzt : (bs x.t).size = tl := by rw [bs_size, HTL.out]
          rw [← HN.out] at V7
          have HQ2 := Lib.hid (show (offD L 0 (dn.take (k + 1))).length = r by rw [HN.out, List.length_append, HQL.out, List.length_replicate]; omega)
          go_wp2_with fail
          go_roundw
          case rel => exact ⟨k + 1, r, g, at_ + tl, E, by omega, by go_num, rfl, by go_num, by omega, by omega, HQ2.out, HAN.out, V7.out.tail⟩
          case measure => simp [intOf]; omega
    · obtain rfl : k = m := by omega
      have HT := Lib.hid (show dn.take k = dn from List.take_of_length_le (by have := HDM.out; omega))
      rw [HT.out, ← HE.out] at HQL V5
      go_wp2_with fail
      go_ret2
      exact ⟨C, q, h, by rw [HLS.out]; rfl, HQL.out, V5.out.sub (fun i => i) (fun _ _ e => e) (fun i it hi => by
        cases i with
        | zero => exact hi
        | succ i => simp at hi)⟩
end Go.Proofs.YtpifchlpakajjaaGreat
