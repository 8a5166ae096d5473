/- Several texts in one: Jp, Jq. -/
import Derived.Test.YtjamfcihjendiaaGreatRabr
import Derived.Test.YtjamfcihjendiaaGreatRabl
import Derived.Test.YtjamfcihjendiaaGreatRaau
import Derived.Test.YtjamfcihjendiaaGreatRabq
import Derived.Test.YtjamfcihjendiaaGreatRaat
import Derived.Test.YtjamfcihjendiaaGreatRaaq
namespace Go.Proofs.YtjamfcihjendiaaGreat
open Go.RowKit
set_option linter.unusedVariables false
set_option linter.unusedSimpArgs false
set_option maxRecDepth 100000

theorem bh_le (L : List Sg) (u : List UInt8) : ∀ (ks : List Nat) {i : Nat}, i ∈ ks → (bh L u.length i u []).length ≤ (dvK L u ks).length
  | [], i, h => by cases h
  | k :: r, i, h => by
    unfold dvK
    rw [List.flatMap_cons, List.length_append]
    rcases List.mem_cons.1 h with rfl | h
    · omega
    · have := bh_le L u r h
      unfold dvK at this
      omega
theorem dvs_lim {nm : List UInt8} {L : List Sg} (hv : (vO nm L).2 = 0) {u : List UInt8} (h0 : 0 < u.length) {d : List Nat} (h : d ∈ dvs L u) : d.length ≤ u.length ∧ ∀ i ∈ d, i < L.length := by
  have := (dvs_mem (TxNe.ok hv) h0 d).1 h
  exact ⟨isD_len hv this, this.1⟩
theorem dvK_snoc (L : List Sg) (u : List UInt8) (ks : List Nat) (i : Nat) : dvK L u (ks ++ [i]) = dvK L u ks ++ bh L u.length i u [] := by unfold dvK; rw [List.flatMap_append]; simp
theorem dvK_pre (L : List Sg) (u : List UInt8) (ks : List Nat) (k : Nat) : (dvK L u (ks.take k)).length ≤ (dvK L u ks).length := by
  conv => rhs; rw [← List.take_append_drop k ks]
  unfold dvK
  rw [List.flatMap_append, List.length_append]
  omega
set_option maxHeartbeats 4000000 in
theorem rall13_any (nm : List UInt8) (L : List Sg) (A : Option Addr) (n c0 : Nat) (u : List UInt8) (w : World) (hnm : nm.length ≤ 140737488355328) (hl : L.length = n) (hn : n ≤ 17592186044416) (hs : SgBd L) (hA : SgnIn w A L) (hu : u.length ≤ 1000) :
    Calls Tryz.prog 8 #[.agg #[.string (bs nm), .slice A n c0], .string (bs u)] w (AlPost nm L u w) := by
  obtain ⟨g0, hg0⟩ : ∃ z, z = w.heap.size := ⟨_, rfl⟩
  obtain ⟨W1, hW1⟩ : ∃ z, z = w.alloc (.cells #[.string (bs nm), .slice A n c0] 24) := ⟨_, rfl⟩
  have V1 := Lib.hid (show Hp w [obox g0 nm A n c0] W1 by rw [hW1, hg0]; exact (Hp.start w).obox_new nm A n c0)
  have HW1 := Lib.hid hW1
  have HG0 := Lib.hid hg0
  have HL := Lib.hid hl
  have HA := Lib.hid hA
  have GV := Lib.hid (fun (w' : World) (hb : Below w.heap.size w w') => rgiven_any nm L A n c0 u w' hnm hl hn hs (hA.below hb) (by omega))
  have CN := Lib.hid (fun (w' : World) (hb : Below w.heap.size w w') (hv : (vO nm L).2 = 0) => rcounted_any nm L A n c0 u w' hv hl (hA.below hb) hu)
  have ST := Lib.hid (fun (w' : World) (hb : Below w.heap.size w w') (hv : (vO nm L).2 = 0) (hn120 : n ≤ 120) => rstands_any nm L A n c0 (bs u) u 0 w' rfl (by omega) (Nat.zero_le _) hl (by omega) (fun x hx => by have := (txE_zero (sgE_zero ((vO_zero hv).2.2.2 x hx)).1).2.1; omega) (hA.below hb))
  have BH := Lib.hid (fun (w' : World) (hb : Below w.heap.size w w') (hv : (vO nm L).2 = 0) (T : Option Addr) (N e0 i : Nat) (hN : u.length < N) (hT : ∀ p, p < u.length → RowAt w' T p n (tbN L u p)) (hi : i ∈ stL L (u.drop 0)) (hle : (bh L u.length i (u.drop 0) []).length ≤ 200) => rbehind_any nm L A n c0 u T N e0 hv hl hu hN u.length i 0 [] none 0 0 w' (by rw [List.length_drop]; omega) (hA.below hb) hT hi (Nat.zero_le _) rfl (by decide) (CellsIn.nil _ _) hle)
  have SO := Lib.hid (fun (w' : World) (hb : Below w.heap.size w w') (hv : (vO nm L).2 = 0) (R : Option Addr) (m d : Nat) (ps : List Prow) (hm : ps.length = m) (hmb : m ≤ 100000) (hR : CellsIn w' R (rvP ps)) (hP : ∀ p ∈ ps, p.2.length ≤ 1000 ∧ (∀ i ∈ p.2, i < n) ∧ CellsIn w' p.1.1 (ints (dI p.2))) => rsorted_any nm L A n c0 R m d ps w' hv hl (hA.below hb) hm hmb hR hP)
  obtain ⟨s, hsu⟩ : ∃ s, s = bs u := ⟨_, rfl⟩
  rw [← hsu] at GV CN ST BH ⊢
  clear hW1 hg0 hl hA hsu hs hn
  go_enter Tryz.func8, Tryz.ntmps8
  go_upto_region 1 with fail
  rw [← HG0.out, ← HW1.out]
  obtain ⟨z0, z1, z2⟩ := V1.out.obox_at (i := 0) rfl
  go_wp2_with fail
  refine (GV.out _ V1.out.below).mono ?_
  rintro r w2 ⟨rfl, hb2⟩
  have V2 := Lib.hid (V1.out.go hb2)
  clear hb2 z0 z1 z2
  obtain ⟨v, hv⟩ : ∃ v, gvE nm L u = v := ⟨_, rfl⟩
  have HGV := Lib.hid hv
  rw [hv]
  clear hv
  by_cases h0 : v = 0
  · subst h0
    obtain ⟨hv0, hwd⟩ := gvE_zero HGV.out
    have HV := Lib.hid hv0
    have HBG := Lib.hid (show bgE nm L u = if (dvs L u).length = 0 then 9 else if 200 < (dvs L u).length then 3 else 0 by unfold bgE; rw [if_neg (by simp [HGV.out])])
    have hn120 : n ≤ 120 := by have := (vO_zero hv0).2.2.1; rw [HL.out] at this; exact this
    have HU0 := Lib.hid (show 0 < u.length from (wdE_zero hwd).1)
    clear hv0 hwd
    obtain ⟨z0, z1, z2⟩ := V2.out.obox_at (i := 0) rfl
    go_wp2_with fail
    refine (CN.out _ V2.out.below HV.out).mono ?_
    rintro r w3 ⟨gt, eT, rfl, hT, hb3⟩
    have V3 := Lib.hid (V2.out.go hb3)
    have HT := Lib.hid hT
    clear hb3 hT z0 z1 z2
    obtain ⟨z0, z1, z2⟩ := V3.out.obox_at (i := 0) rfl
    go_wp2_with fail
    refine (ST.out _ V3.out.below HV.out hn120).mono ?_
    rintro r w4 ⟨C, m, d, rfl, hm, hp4⟩
    rw [List.drop_zero] at hm hp4
    have V4 := Lib.hid (show Hp w [nums C m d (dI (stL L u)), obox g0 nm A n c0] w4 from V3.out.join hp4)
    have HT4 := Lib.hid (fun p hp => (HT.out p hp).below hp4.below)
    have HC4 := Lib.hid (hp4.cells (i := 0) (it := nums C m d (dI (stL L u))) rfl (A := C) (c := d) rfl)
    have HM := Lib.hid hm
    have hmn : m ≤ n := by rw [← hm, ← HL.out]; exact stL_len _ _
    clear hm hp4 z0 z1 z2 V3 V2 V1
    obtain ⟨t, oT, b, qb, eb, hTe, hTl, hbl, hT0, hTc⟩ := HT4.out 0 HU0.out
    injection hTe with hTe
    injection hTe with hTe1 hTe2
    subst hTe1 hTe2
    rw [Nat.add_zero] at hT0
    have HTC := Lib.hid hTc
    have hN1 : 0 < u.length + 1 := by omega
    clear hTc
    go_wp2_with fail
    go_loopw [8, 10] (fun v i wr => ∃ k sm nq : Nat, k ≤ m ∧ sm ≤ k * 201 ∧ i = .int .i64 (k : Int) ∧ v = .int .i64 (sm : Int) ∧ smK L u ((stL L u).take k) = sm ∧ wr = w4.drewN nq) (fun _ i _ => m - (intOf i).toNat)
    case atStart => exact ⟨0, 0, 0, Nat.zero_le _, Nat.zero_le _, rfl, rfl, rfl, by first | rfl | simp⟩
    case round =>
      obtain ⟨k, sm, nq0, hk, hsm, rfl, rfl, hsk, rfl⟩ := hrel
      have HSK := Lib.hid hsk
      clear hsk
      by_cases hkm : k < m
      · obtain ⟨j, hj⟩ := get_at (L := stL L u) (k := k) (by have := HM.out; omega)
        have HJ := Lib.hid hj
        have hjn : j < n := by rw [← HL.out]; exact (stL_mem.1 (List.mem_of_getElem? hj)).1
        obtain ⟨bC, oC, hCe, hbC, q0⟩ := HC4.out.int (L := dI (stL L u)) (j := k) (by unfold dI; rw [List.length_map, HM.out]; exact hkm)
        have hq0 : (dI (stL L u)).getD k 0 = (j : Int) := by unfold dI; rw [List.getD_eq_getElem?_getD, List.getElem?_map, HJ.out]; rfl
        rw [hq0] at q0
        have r0 := HTC.out j 0 hjn (by decide)
        rw [Nat.add_zero] at r0
        have hjni : (j : Int) < (n : Int) := by omega
        have hm201 : m * 201 ≤ 24120 := by omega
        obtain ⟨x, hx⟩ : ∃ x, tbN L u 0 j 0 = x := ⟨_, rfl⟩
        have hx2 : x ≤ 201 := by rw [← hx]; exact tbN_le _ _ _ _ _
        have HS := Lib.hid (show smK L u ((stL L u).take (k + 1)) = sm + x by rw [take_snoc hj, smK_snoc, HSK.out, hx])
        rw [hx] at r0
        subst hCe
        clear hj hq0 hx
        have hkb : k * 201 + 201 ≤ 24321 := by have := Nat.mul_le_mul_right 201 hkm; omega
        go_wp2_with fail
        go_quiet (fail)
        go_wp2_with fail
        go_roundw
        case rel => exact ⟨k + 1, sm + x, _, by omega, by omega, by go_num, by go_num, HS.out, by first | rfl | (rw [World.drewN_drewN])⟩
        case measure => simp [intOf]; omega
      · obtain rfl : k = m := by omega
        rw [take_all HM.out] at HSK
        obtain ⟨hs1, hs2⟩ := smK_is (TxNe.ok HV.out) u (stL L u) (fun i hi => hi)
        rw [HSK.out, show dvK L u (stL L u) = dvs L u from rfl] at hs1 hs2
        obtain ⟨wq, hwq⟩ : ∃ z, z = w4.drewN nq0 := ⟨_, rfl⟩
        rw [← hwq]
        have V5 := Lib.hid (show Hp w [nums C k d (dI (stL L u)), obox g0 nm A n c0] wq by rw [hwq]; exact V4.out.go (bdrewN _ _))
        have BQ : Below w4.heap.size w4 wq := by rw [hwq]; exact bdrewN _ _
        have HT5 := Lib.hid (fun p hp => (HT4.out p hp).below BQ)
        have HC5 := Lib.hid (HC4.out.below BQ)
        clear hwq BQ
        by_cases hz : sm = 0
        · subst hz
          have HE := Lib.hid (show bgE nm L u = 9 by rw [HBG.out, if_pos (hs2.1 rfl)])
          clear hs1 hs2
          go_wp2_with fail
          go_ret2
          exact .inl ⟨by rw [HE.out]; decide, by rw [HE.out]; rfl, V5.out.below⟩
        · by_cases hbig : 200 < sm
          · have HE := Lib.hid (show bgE nm L u = 3 by
              rw [HBG.out, if_neg (fun h => hz (hs2.2 h)), if_pos (by unfold mn at hs1; omega)])
            have hbi : (200 : Int) < (sm : Int) := by omega
            have ezz : ((sm : Int) == 0) = false := beq_no (by omega)
            clear hs1 hs2 hz
            go_wp2_with fail
            go_ret2
            exact .inl ⟨by rw [HE.out]; decide, by rw [HE.out]; rfl, V5.out.below⟩
          · have H200 := Lib.hid (show (dvs L u).length ≤ 200 by unfold mn at hs1; omega)
            have HE := Lib.hid (show bgE nm L u = 0 by
              rw [HBG.out, if_neg (fun h => hz (hs2.2 h)), if_neg (by have := H200.out; omega)])
            have ezz : ((sm : Int) == 0) = false := beq_no (by omega)
            have hbi : ¬ (200 : Int) < (sm : Int) := by omega
            have BW := Lib.hid V5.out.below
            obtain ⟨z0, z1, z2⟩ := V5.out.obox_at (i := 1) rfl
            have HZ := Lib.hid (show wq.cell? ⟨g0, 0, none⟩ = some (.string (bs nm)) ∧ wq.cell? ⟨g0, 1, none⟩ = some (.slice A n c0) ∧ g0 < wq.heap.size from ⟨z0, z1, z2⟩)
            clear hs1 hs2 hz z0 z1 z2 hT0 hbl hTl hsm hk HSK
            go_wp2_with fail
            go_loopw [11, 12] (fun v i wr => ∃ (j q e : Nat) (Q : Option Addr) (ps : List Prow) (pool : List Itm), j ≤ k ∧ i = .int .i64 (j : Int) ∧ v = .slice Q q e ∧ ps.length = q ∧ ps.map (·.2) = dvK L u ((stL L u).take j) ∧ (∀ p ∈ ps, ∃ x : Nat, pool[x]? = some (nums p.1.1 p.2.length p.1.2 (dI p.2))) ∧ Hp wq (hdrP Q q e ps :: pool) wr) (fun _ i _ => k - (intOf i).toNat)
            case atStart => exact ⟨0, 0, 0, none, [], [], Nat.zero_le _, rfl, rfl, rfl, rfl, fun p hp => (by cases hp), (Hp.start wq).nil_row (hdrP none 0 0 []) rfl rfl rfl⟩
            case round =>
              obtain ⟨j, q, e, Q, ps, pool, hj, rfl, rfl, hpl, hpe, hpo, hV⟩ := hrel
              obtain ⟨wi, rfl⟩ : ∃ wi : World, wi = wr := ⟨_, rfl⟩
              have V := Lib.hid hV
              have HPL := Lib.hid hpl
              have HPE := Lib.hid hpe
              have HPO := Lib.hid hpo
              have hq200 : q ≤ 200 := by
                have h1 := congrArg List.length hpe
                rw [List.length_map, hpl] at h1
                have h2 := dvK_pre L u (stL L u) j
                rw [show dvK L u (stL L u) = dvs L u from rfl] at h2
                have := H200.out
                omega
              clear hV hpl hpe hpo
              by_cases hjk : j < k
              · obtain ⟨i, hi⟩ := get_at (L := stL L u) (k := j) (by have := HM.out; omega)
                have HI := Lib.hid hi
                have HIM := Lib.hid (List.mem_of_getElem? hi)
                have hin : i < n := by rw [← HL.out]; exact (stL_mem.1 HIM.out).1
                have hini : (i : Int) < (n : Int) := by omega
                obtain ⟨bC, oC, hCe, hbC, q0⟩ := (HC5.out.below V.out.below).int (L := dI (stL L u)) (j := j) (by unfold dI; rw [List.length_map, HM.out]; exact hjk)
                have hq0 : (dI (stL L u)).getD j 0 = (i : Int) := by unfold dI; rw [List.getD_eq_getElem?_getD, List.getElem?_map, HI.out]; rfl
                have HQD := Lib.hid hq0
                have HKD := Lib.hid (show j < (dI (stL L u)).length by unfold dI; rw [List.length_map, HM.out]; exact hjk)
                rw [hq0] at q0
                obtain ⟨t2, o2, b2, qb2, eb2, hTe, hTl, hbl, hT0, hTc⟩ := (HT5.out 0 HU0.out).below V.out.below
                injection hTe with hTe
                injection hTe with hTe1 hTe2
                subst hTe1 hTe2
                rw [Nat.add_zero] at hT0
                have r0 := hTc i 0 hin (by decide)
                rw [Nat.add_zero] at r0
                obtain ⟨x, hx⟩ : ∃ x, tbN L u 0 i 0 = x := ⟨_, rfl⟩
                have HXX := Lib.hid (show mn (bh L u.length i u []).length = x by rw [← hx, ← tbN_here (a := 0) (i := i) (by rw [List.drop_zero]; exact HIM.out) 0, List.drop_zero]; rfl)
                have HS := Lib.hid (show dvK L u ((stL L u).take (j + 1)) = dvK L u ((stL L u).take j) ++ bh L u.length i u [] by rw [take_snoc HI.out, dvK_snoc])
                rw [hx] at r0
                subst hCe
                clear hi hq0 hx hTc
                go_upto_region 19 with fail
                go_cut [63] (fun r wx => r = .bool (decide (0 < x)) ∧ Hp wq (hdrP Q q e ps :: pool) wx)
                case first =>
                  by_cases hx0 : 0 < x
                  · have hx0i : (0 : Int) < (x : Int) := by omega
                    go_quiet (fail)
                    try go_wp2_with fail
                    go_meet
                    exact ⟨by rw [decide_eq_true hx0], V.out.go (bdrewN _ _)⟩
                  · have hx0i : ¬ (0 : Int) < (x : Int) := by omega
                    go_quiet (fail)
                    try go_wp2_with fail
                    go_meet
                    exact ⟨by rw [decide_eq_false hx0], V.out.go (bdrewN _ _)⟩
                case rest =>
                obtain ⟨rfl, hV⟩ := hcut
                clear V q0 r0 hT0 hTl hbl
                have V := Lib.hid hV
                clear hV
                by_cases hx0 : 0 < x
                · rw [decide_eq_true hx0]
                  go_upto_region 20 with fail
                  have hKp : Keep [(⟨g0, 0, none⟩, .string (bs nm)), (⟨g0, 1, none⟩, .slice A n c0), (⟨bC, oC + j, none⟩, .int .i64 (i : Int))] wc := List.forall_mem_cons.2 ⟨⟨(V.out.below.cell (p := ⟨g0, 0, none⟩) HZ.out.2.2).trans HZ.out.1, Nat.lt_of_lt_of_le HZ.out.2.2 V.out.below.size⟩, List.forall_mem_cons.2 ⟨⟨(V.out.below.cell (p := ⟨g0, 1, none⟩) HZ.out.2.2).trans HZ.out.2.1, Nat.lt_of_lt_of_le HZ.out.2.2 V.out.below.size⟩, List.forall_mem_cons.2 ⟨⟨((HC5.out.below V.out.below).nat HQD.out HKD.out).1, ((HC5.out.below V.out.below).nat HQD.out HKD.out).2⟩, fun _ h => by simp at h⟩⟩⟩
                  refine wp_region_held_drew (S := Keep _) (by kernel_rfl) hKp.drew (fun hHeld => ?_)
                  obtain ⟨wd, hwd⟩ : ∃ z, z = wc.drew := ⟨_, rfl⟩
                  have Vwd := Lib.hid (show Hp wq (hdrP Q q e ps :: pool) wd by rw [hwd]; exact V.out.go (bdrew _))
                  have Bwd := Lib.hid (show Below wc.heap.size wc wd by rw [hwd]; exact bdrew _)
                  rw [← hwd] at hHeld ⊢
                  clear hwd hKp
                  refine tk 0 ?_ rfl ?_ ?_; rotate_left; focus (intro w hSw; clear hSw; go_simp; try (with_reducible rfl))
                  try simp only [Act.put, sA, sZ, sS]
                  refine tk 1 ?_ rfl ?_ ?_; rotate_left
                  · intro wl hSw
                    have hSw : Keep _ wl := hSw
                    have k0 := (hSw _ (.head _)).1
                    have k1 := (hSw _ (.tail _ (.head _))).1
                    dsimp only at k0 k1
                    clear hSw
                    go_simp
                    try (with_reducible rfl)
                  try simp only [Act.put, sA, sZ, sS]
                  refine tk 2 ?_ rfl ?_ ?_; rotate_left; focus (intro w hSw; clear hSw; go_simp; try (with_reducible rfl))
                  try simp only [Act.put, sA, sZ, sS]
                  refine tk 3 ?_ rfl ?_ ?_; rotate_left; focus (intro w hSw; clear hSw; go_simp; try (with_reducible rfl))
                  try simp only [Act.put, sA, sZ, sS]
                  refine tk 4 ?_ rfl ?_ ?_; rotate_left; focus (intro w hSw; clear hSw; go_simp; try (with_reducible rfl))
                  try simp only [Act.put, sA, sZ, sS]
                  refine tk 5 ?_ rfl ?_ ?_; rotate_left; focus (intro w hSw; clear hSw; go_simp; try (with_reducible rfl))
                  try simp only [Act.put, sA, sZ, sS]
                  refine tk 6 ?_ rfl ?_ ?_; rotate_left; focus (intro w hSw; clear hSw; go_simp; try (with_reducible rfl))
                  try simp only [Act.put, sA, sZ, sS]
                  refine tk 7 ?_ rfl ?_ ?_; rotate_left
                  · intro wl hSw
                    have hSw : Keep _ wl := hSw
                    have k0 := (hSw _ (.tail _ (.tail _ (.head _)))).1
                    dsimp only at k0
                    clear hSw
                    go_simp
                    try (with_reducible rfl)
                  try simp only [Act.put, sA, sZ, sS]
                  refine wpAnyH_ready (rs := [8]) (by kernel_rfl) (by simp) ?_
                  refine AllReadyH.cons (List.getElem?_toArray.trans rfl) (fun K hK => ?_) AllReadyH.nil
                  go_simp
                  refine (BH.out _ (btwo BW.out Vwd.out.below) HV.out _ _ _ i (Nat.lt_succ_self _) (fun p hp => (HT5.out p hp).below Vwd.out.below) (by rw [List.drop_zero]; exact HIM.out) (by rw [List.drop_zero]; exact Nat.le_trans (bh_le L u _ HIM.out) H200.out)).mono ?_
                  rintro r w_8 ⟨Q2, k2, e2, qs, rfl, hqs, hqk, hpB⟩
                  rw [List.drop_zero] at hqs
                  have HQS := Lib.hid hqs
                  have HQK := Lib.hid hqk
                  have V_8 := Lib.hid (show Hp wq (hdrP Q q e ps :: ((hdrP Q2 k2 e2 qs :: rowP qs) ++ pool)) w_8 from Hp.front (l := hdrP Q2 k2 e2 qs :: rowP qs) (Vwd.out.join hpB))
                  have hbB := hpB.below
                  clear hqs hqk
                  try go_wp2_with fail
                  refine hK.out _ _ (hHeld.go hbB) (fun hHeld => ?_)
                  clear hK K
                  try simp only [Act.put, sA, sZ, sS]
                  refine wpAnyH_ready (rs := [9]) (by kernel_rfl) (by simp) ?_
                  refine AllReadyH.cons (List.getElem?_toArray.trans rfl) (fun K hK => ?_) AllReadyH.nil
                  have hk2 : k2 ≤ 200 := by
                    have h1 := congrArg List.length HQS.out
                    rw [List.length_map, HQK.out] at h1
                    rw [h1]
                    exact Nat.le_trans (bh_le L u _ HIM.out) H200.out
                  obtain ⟨A3, c3, w_8_9, hr_8_9, hv_8_9, _⟩ := run_cat_P V_8.out (i := 0) rfl 27 qs HQK.out (V_8.out.cells (i := 1) (it := hdrP Q2 k2 e2 qs) rfl (A := Q2) (c := e2) rfl) (by omega) (by omega)
                  have HR_8_9 := Lib.hid hr_8_9
                  have V_8_9 := Lib.hid (show Hp wq (hdrP A3 (q + k2) c3 (ps ++ qs) :: ((hdrP Q2 k2 e2 qs :: rowP qs) ++ pool)) w_8_9 from hv_8_9)
                  clear hr_8_9 hv_8_9
                  refine step_app_run rfl (.tmp 64) (.tmp 72) 27 rfl HR_8_9.out rfl rfl ?_
                  refine hK.out _ _ (List.forall_mem_cons.2 ⟨⟨(V_8_9.out.below.cell (p := ⟨g0, 0, none⟩) HZ.out.2.2).trans HZ.out.1, Nat.lt_of_lt_of_le HZ.out.2.2 V_8_9.out.below.size⟩, List.forall_mem_cons.2 ⟨⟨(V_8_9.out.below.cell (p := ⟨g0, 1, none⟩) HZ.out.2.2).trans HZ.out.2.1, Nat.lt_of_lt_of_le HZ.out.2.2 V_8_9.out.below.size⟩, List.forall_mem_cons.2 ⟨⟨((HC5.out.below V_8_9.out.below).nat HQD.out HKD.out).1, ((HC5.out.below V_8_9.out.below).nat HQD.out HKD.out).2⟩, fun _ h => by simp at h⟩⟩⟩) (fun hHeld => ?_)
                  clear hK K
                  try simp only [Act.put, sA, sZ, sS]
                  refine tk 10 ?_ rfl ?_ ?_; rotate_left; focus (intro w hSw; clear hSw; go_simp; try (with_reducible rfl))
                  try simp only [Act.put, sA, sZ, sS]
                  refine wpAnyH_done (by kernel_rfl) ?_ _
                  have HP2 := Lib.hid (show ∀ p ∈ ps ++ qs, ∃ x : Nat, ((hdrP Q2 k2 e2 qs :: rowP qs) ++ pool)[x]? = some (nums p.1.1 p.2.length p.1.2 (dI p.2)) from fun p hp => by
                    rcases List.mem_append.1 hp with hp | hp
                    · obtain ⟨x, hx⟩ := HPO.out p hp
                      exact ⟨(hdrP Q2 k2 e2 qs :: rowP qs).length + x, by rw [List.getElem?_append_right (by omega), Nat.add_sub_cancel_left]; exact hx⟩
                    · obtain ⟨x, hx, hx2⟩ := List.mem_iff_getElem.1 hp
                      have h3 := rowP_get (ps := qs) (k := x) (p := p) (by rw [List.getElem?_eq_getElem hx, hx2])
                      have h4 := (List.getElem?_eq_some_iff.1 h3).1
                      exact ⟨x + 1, by rw [List.getElem?_append_left (by rw [List.length_cons]; omega), List.getElem?_cons_succ]; exact h3⟩)
                  clear hHeld
                  go_wp2_with fail
                  go_roundw
                  case rel => exact ⟨j + 1, q + k2, c3, A3, ps ++ qs, _, by omega, by go_num, rfl, by rw [List.length_append, HPL.out, HQK.out], by rw [List.map_append, HPE.out, HQS.out, HS.out], HP2.out, V_8_9.out⟩
                  case measure => simp [intOf]; omega
                · rw [decide_eq_false hx0]
                  have HB0 := Lib.hid (show bh L u.length i u [] = [] from List.eq_nil_of_length_eq_zero (by have := HXX.out; unfold mn at this; omega))
                  go_wp2_with fail
                  go_roundw
                  case rel => exact ⟨j + 1, q, e, Q, ps, pool, by omega, by go_num, rfl, HPL.out, by rw [HS.out, HB0.out, List.append_nil]; exact HPE.out, HPO.out, V.out⟩
                  case measure => simp [intOf]; omega
              · obtain rfl : j = k := by omega
                rw [take_all HM.out] at HPE
                have z0 := (V.out.below.cell (p := ⟨g0, 0, none⟩) HZ.out.2.2).trans HZ.out.1
                have z1 := (V.out.below.cell (p := ⟨g0, 1, none⟩) HZ.out.2.2).trans HZ.out.2.1
                have hsm : ∀ p ∈ ps, p.2 ∈ dvs L u := fun p hp => by
                  have : p.2 ∈ ps.map (·.2) := List.mem_map.2 ⟨p, hp, rfl⟩
                  rw [HPE.out] at this
                  exact this
                have HSM := Lib.hid hsm
                clear hsm
                go_wp2_with fail
                refine (SO.out _ (btwo BW.out V.out.below) HV.out Q q e ps HPL.out (by omega) (V.out.cells (i := 0) (A := Q) (c := e) rfl rfl) (fun p hp => ?_)).mono ?_
                · have hd := dvs_lim HV.out HU0.out (HSM.out p hp)
                  obtain ⟨x, hx⟩ := HPO.out p hp
                  exact ⟨by omega, fun i hi => by rw [← HL.out]; exact hd.2 i hi, V.out.cells (i := x + 1) (it := nums p.1.1 p.2.length p.1.2 (dI p.2)) (by rw [List.getElem?_cons_succ]; exact hx) (A := p.1.1) (c := p.1.2) rfl⟩
                · rintro r wz ⟨R, e2, rfl, hpz⟩
                  have VZ := Lib.hid (V5.out.join (V.out.join hpz))
                  clear z0 z1 hpz
                  go_wp2_with fail
                  go_ret2
                  refine .inr ⟨HE.out, R, q, e2, srtP L ps, _, rfl, by rw [srtP_len]; exact HPL.out, by rw [srtP_snd, HPE.out]; rfl, VZ.out, fun p hp => ?_⟩
                  obtain ⟨x, hx⟩ := HPO.out p (srtP_mem hp)
                  refine ⟨1 + x, ?_⟩
                  have hxl := (List.getElem?_eq_some_iff.1 hx).1
                  show ((hdrP Q q e ps :: pool) ++ _)[1 + x]? = _
                  rw [List.getElem?_append_left (by rw [List.length_cons]; omega), Nat.add_comm 1 x, List.getElem?_cons_succ]
                  exact hx
  · have HE := Lib.hid (show bgE nm L u = v by unfold bgE; rw [HGV.out, if_pos h0])
    have hne : (v != 0) = true := bne_yes h0
    have hv0 := h0
    clear h0
    go_wp2_with fail
    go_ret2
    exact .inl ⟨by rw [HE.out]; exact hv0, by rw [HE.out]; rfl, V2.out.below⟩
end Go.Proofs.YtjamfcihjendiaaGreat

namespace Go.Proofs.YtjamfcihjendiaaGreat
open Go.RowKit
set_option linter.unusedVariables false
set_option linter.unusedSimpArgs false
set_option maxRecDepth 100000

theorem al_rows13 {nm : List UInt8} {L : List Sg} {t : List UInt8} {W w : World} {Q : Option Addr} {q e : Nat} {ps : List Prow} {pool : List Itm} (h0 : bgE nm L t = 0) (hpl : ps.length = q) (hpe : ps.map (·.2) = srtD L (dvs L t)) (hp : Hp W (hdrP Q q e ps :: pool) w) (hpo : ∀ p ∈ ps, ∃ k : Nat, pool[k]? = some (nums p.1.1 p.2.length p.1.2 (dI p.2))) :
    q ≤ 200 ∧ RowsIn w Q ((srtD L (dvs L t)).map dI) ∧ (srtD L (dvs L t)).length = q := by
  obtain ⟨hv, hu0, hu16, hl0, hl200⟩ := bgE_zero h0
  have hnd := dvs_nodup (TxNe.ok hv) t
  have hlen : (srtD L (dvs L t)).length = q := by rw [← hpe, List.length_map, hpl]
  refine ⟨by rw [srtD_len] at hlen; omega, ?_, hlen⟩
  have hrow := rows_in hp (fun p hp2 => by
    have h1 : p.2 ∈ ps.map (·.2) := List.mem_map_of_mem hp2
    rw [hpe, srtD_mem hnd] at h1
    have := (dv_bd hv hu0 hu16 h1).1
    omega) hpo
  rwa [rows_map hpe] at hrow
set_option maxHeartbeats 4000000 in
theorem lawdivisionall_any (nm : List UInt8) (A : Option Addr) (n c : Nat) (L : List Sg) (t : List UInt8) (w : World) (hnm : nm.length ≤ 140737488355328) (hl : L.length = n) (hnc : n ≤ c) (hn : n ≤ 17592186044416) (hlim : ∀ x ∈ L, SgLim x) (hO : SgnIn w A L) (ht : t.length ≤ maxLen) :
    Calls Tryz.prog 3 #[.agg #[.string (bs nm), .slice A n c], .string (bs t)] w fun e w' => e = .returned (.bool true) ∧ Below w.heap.size w w' := by
  obtain ⟨g1, hg1⟩ : ∃ z, z = w.heap.size := ⟨_, rfl⟩
  obtain ⟨W1, hW1⟩ : ∃ z, z = w.alloc (.cells #[.string (bs nm), .slice A n c] 24) := ⟨_, rfl⟩
  have V1 := Lib.hid (show Hp w [obox g1 nm A n c] W1 by rw [hW1, hg1]; exact (Hp.start w).obox_new nm A n c)
  have HW1 := Lib.hid hW1
  have HG1 := Lib.hid hg1
  have HO := Lib.hid hO
  have HL := Lib.hid hl
  have HLIM := Lib.hid hlim
  have HT := Lib.hid ht
  obtain ⟨ty, hty⟩ : ∃ y, y = t.length := ⟨_, rfl⟩
  have htz : (bs t).size = ty := by rw [bs_size]; exact hty.symm
  have HTY := Lib.hid hty
  unfold maxLen at ht
  rw [← hty] at ht
  clear hW1 hg1 hO hl hlim hty
  go_enter Tryz.func3, Tryz.ntmps3
  go_upto_region 1 with fail
  rw [← HG1.out, ← HW1.out]
  go_wp2_with fail
  refine (awake13_any _).mono ?_
  rintro e wa ⟨rfl, hb⟩
  have V2 := Lib.hid (V1.out.go hb)
  clear hb
  obtain ⟨z0, z1, z2⟩ := V2.out.obox_at (i := 0) rfl
  go_wp2_with fail
  refine (few13_any nm A n c L t none 0 0 _ hnm HL.out hn HLIM.out (HO.out.below V2.out.below) HT.out (by decide)).mono ?_
  rintro e w3 ⟨rfl, hb⟩
  have V3 := Lib.hid (V2.out.go hb)
  clear hb z0 z1 z2
  cases hf : fwD nm L t.length 0 with
  | false =>
    clear hf
    go_wp2_with fail
    refine (awake13_any _).mono ?_
    rintro e wa ⟨rfl, hb⟩
    have VZ := Lib.hid (V3.out.go hb)
    clear hb
    go_wp2_with fail
    go_ret
    exact ⟨rfl, VZ.out.below⟩
  | true =>
  obtain ⟨hf1, hf2, hf3⟩ := fwD_yes hf
  have HSB := Lib.hid (fewO_bd hf1 HLIM.out)
  clear hf hf1
  rw [← HTY.out] at hf2
  have hu : t.length ≤ 1000000 := by rw [← HTY.out]; omega
  have HU := Lib.hid hu
  clear hu
  obtain ⟨z0, z1, z2⟩ := V3.out.obox_at (i := 0) rfl
  go_wp2_with fail
  refine (all_any nm L A n c t _ hnm HL.out hn hnc HSB.out (HO.out.below V3.out.below) HU.out).mono ?_
  have hu1000 : t.length ≤ 1000 := by rw [← HTY.out]; omega
  have HU1 := Lib.hid hu1000
  clear hu1000
  rintro e w4 (⟨hne, rfl, hb4⟩ | ⟨h0, Q, q, e4, ps, pool, rfl, hpl, hpe, hp, hpo⟩)
  · have V4 := Lib.hid (V3.out.go hb4)
    have HNE := Lib.hid hne
    have HCT := Lib.hid (show cnT nm L t = 0 by unfold cnT; rw [if_neg hne])
    clear hb4 z0 z1 z2 hne
    obtain ⟨E, hE⟩ : ∃ E, bgE nm L t = E := ⟨_, rfl⟩
    have HE := Lib.hid hE
    rw [hE]
    clear hE
    obtain ⟨z0, z1, z2⟩ := V4.out.obox_at (i := 0) rfl
    go_wp2_with fail
    refine (rall13_any nm L A n c t _ hnm HL.out hn HSB.out (HO.out.below V4.out.below) HU1.out).mono ?_
    rintro e w5 (⟨_, rfl, hb5⟩ | ⟨h0, _⟩)
    · have V5 := Lib.hid (V4.out.go hb5)
      clear hb5 z0 z1 z2
      rw [HE.out]
      obtain ⟨z0, z1, z2⟩ := V5.out.obox_at (i := 0) rfl
      go_wp2_with fail
      refine (countD_any nm L A n c t _ hnm HL.out hn hnc HSB.out (HO.out.below V5.out.below) HU.out).mono ?_
      rintro e w6 ⟨rfl, hb6⟩
      have V6 := Lib.hid (V5.out.go hb6)
      clear hb6 z0 z1 z2
      rw [HE.out, HCT.out]
      go_wp2_with fail
      refine (rlists_any none none 0 0 0 0 [] [] _ rfl rfl (by decide) (by decide) (fun h => by simp at h) (fun h => by simp at h)).mono ?_
      rintro e w7 ⟨rfl, hb7⟩
      have V7 := Lib.hid (V6.out.go hb7)
      clear hb7
      rw [show decide (([] : List (List Int)) = []) = true from by decide]
      go_wp2_with fail
      go_ret
      exact ⟨rfl, V7.out.below⟩
    · exact absurd h0 HNE.out
  · obtain ⟨hq, hR, hql⟩ := al_rows13 h0 hpl hpe hp hpo
    have V4 := Lib.hid (V3.out.go hp.below)
    have HR := Lib.hid hR
    have HQL := Lib.hid hql
    have H0 := Lib.hid h0
    have HCT := Lib.hid (show cnT nm L t = q by unfold cnT; rw [if_pos h0, ← hql, srtD_len])
    clear hp hpo hpl hpe hR hql h0 z0 z1 z2
    obtain ⟨z0, z1, z2⟩ := V4.out.obox_at (i := 0) rfl
    go_wp2_with fail
    refine (rall13_any nm L A n c t _ hnm HL.out hn HSB.out (HO.out.below V4.out.below) HU1.out).mono ?_
    rintro e w5 (⟨hne, _, _⟩ | ⟨h0, Q5, q5, e5, ps5, pool5, rfl, hpl, hpe, hp, hpo⟩)
    · exact absurd H0.out hne
    · obtain ⟨_, hR5, hql5⟩ := al_rows13 h0 hpl hpe hp hpo
      obtain rfl : q = q5 := HQL.out.symm.trans hql5
      have V5 := Lib.hid (V4.out.go hp.below)
      have HR4 := Lib.hid (HR.out.below hp.below)
      have HR5 := Lib.hid hR5
      clear hp hpo hpl hpe hR5 hql5 h0 z0 z1 z2
      obtain ⟨z0, z1, z2⟩ := V5.out.obox_at (i := 0) rfl
      go_wp2_with fail
      refine (countD_any nm L A n c t _ hnm HL.out hn hnc HSB.out (HO.out.below V5.out.below) HU.out).mono ?_
      rintro e w6 ⟨rfl, hb6⟩
      have V6 := Lib.hid (V5.out.go hb6)
      have HR6 := Lib.hid (HR4.out.below hb6)
      have HR7 := Lib.hid (HR5.out.below hb6)
      clear hb6 z0 z1 z2
      rw [H0.out, HCT.out]
      go_wp2_with fail
      refine (rlists_any Q Q5 q e4 q e5 _ _ _ (by rw [List.length_map]; exact HQL.out) (by rw [List.length_map]; exact HQL.out) (by omega) (by omega) HR6.out HR7.out).mono ?_
      rintro e w7 ⟨rfl, hb7⟩
      have V7 := Lib.hid (V6.out.go hb7)
      clear hb7
      rw [decide_eq_true rfl]
      go_wp2_with fail
      go_ret
      exact ⟨rfl, V7.out.below⟩
end Go.Proofs.YtjamfcihjendiaaGreat
