/- Several texts in one: Jj. -/
import Derived.Test.YtjamfcihjendiaaGreatRaav
namespace Go.Proofs.YtjamfcihjendiaaGreat
open Go.RowKit
set_option linter.unusedVariables false
set_option linter.unusedSimpArgs false
set_option maxRecDepth 100000

theorem idx_cellJ {W w : World} {l : List Itm} {b o m d k i : Nat} {D : List Nat} (h : Hp W (nums (some ⟨b, o, none⟩) m d (dI D) :: l) w) (hi : D[k]? = some i) : w.cell? ⟨b, o + k, none⟩ = some (.int .i64 (i : Int)) ∧ b < w.heap.size := by
  obtain ⟨b2, o2, e, h1, h2⟩ := CellsIn.idx (h.cells (i := 0) (it := nums (some ⟨b, o, none⟩) m d (dI D)) (A := some ⟨b, o, none⟩) (c := d) rfl rfl) hi
  injection e with e
  injection e with e1 e2
  subst e1; subst e2
  exact ⟨h2, h1⟩
def RowAt (w : World) (T : Option Addr) (p n : Nat) (tab : Nat → Nat → Nat) : Prop := ∃ t o b q e, T = some ⟨t, o, none⟩ ∧ t < w.heap.size ∧ b < w.heap.size ∧ w.cell? ⟨t, o + p, none⟩ = some (.slice (some ⟨b, q, none⟩) n e) ∧ ∀ i c, i < n → c < 3 → w.cell? ⟨b, q + i * 3 + c, none⟩ = some (.int .i64 (tab i c : Nat))
theorem RowAt.below {w w' : World} {T : Option Addr} {p n : Nat} {tab : Nat → Nat → Nat} (h : RowAt w T p n tab) (hb : Below w.heap.size w w') : RowAt w' T p n tab := by
  obtain ⟨t, o, b, q, e, h1, h2, h3, h4, h5⟩ := h
  exact ⟨t, o, b, q, e, h1, Nat.lt_of_lt_of_le h2 hb.size, Nat.lt_of_lt_of_le h3 hb.size, (hb.cell (p := ⟨t, o + p, none⟩) h2).trans h4, fun i c hi hc => (hb.cell (p := ⟨b, q + i * 3 + c, none⟩) h3).trans (h5 i c hi hc)⟩
theorem min_mn (a : Nat) (x : Int) (h : x = (a : Int)) : min (201 : Int) x = (mn a : Nat) := by rw [h]; unfold mn; omega
set_option maxHeartbeats 3000000 in
theorem rgoes_any (nm : List UInt8) (L : List Sg) (A : Option Addr) (n c0 : Nat) (u : List UInt8) (T : Option Addr) (N e0 i at_ nx : Nat) (S : List Snd) (B : Option Addr) (nb cb : Nat) (w : World) (hv : (vO nm L).2 = 0) (hl : L.length = n) (hA : SgnIn w A L) (hu : u.length ≤ 1000) (hi : i ∈ stL L (u.drop at_)) (hat : at_ ≤ u.length) (hnx : nx = at_ + (sgAt L i).t.length) (hN : u.length < N) (hS : S.length = nb) (hnb : nb ≤ 1000) (hB : CellsIn w B (sndsC S))
    (hrow : nx < u.length → RowAt w T nx n (tbN L u nx)) :
    Calls Tryz.prog 45 #[.agg #[.string (bs nm), .slice A n c0], .string (bs u), .slice T N e0, .int .i64 (i : Int), .int .i64 (nx : Int), .slice B nb cb, .int .i64 (clsB (sgAt L i).s : Nat)] w fun r w' => r = .returned (.int .i64 (mn (bh L u.length i (u.drop at_) S).length : Nat)) ∧ Below w.heap.size w w' := by
  obtain ⟨g1, hg1⟩ : ∃ z, z = w.heap.size := ⟨_, rfl⟩
  obtain ⟨W1, hW1⟩ : ∃ z, z = w.alloc (.cells #[.string (bs nm), .slice A n c0] 24) := ⟨_, rfl⟩
  have V1 := Lib.hid (show Hp w [obox g1 nm A n c0] W1 by rw [hW1, hg1]; exact (Hp.start w).obox_new nm A n c0)
  have HW1 := Lib.hid hW1
  have HG1 := Lib.hid hg1
  have HV := Lib.hid hv
  have HL := Lib.hid hl
  have HA := Lib.hid hA
  have HS := Lib.hid hS
  have HB := Lib.hid hB
  have HROW := Lib.hid hrow
  have HNE := Lib.hid (TxNe.ok hv)
  have HI := Lib.hid (stL_mem.1 hi)
  obtain ⟨ul, hul⟩ : ∃ ul, ul = u.length := ⟨_, rfl⟩
  obtain ⟨s, hsu⟩ : ∃ s, s = bs u := ⟨_, rfl⟩
  have HSU := Lib.hid hsu
  have HUL := Lib.hid hul
  have hsz : s.size = ul := by rw [hsu, bs_size, hul]
  have hile := HI.out.2.length_le
  rw [List.length_drop, ← hul] at hile
  have h0 := HNE.out.at HI.out.1
  have hnxu : nx ≤ ul := by omega
  have hul1 : 1 ≤ ul := by omega
  have hnx1 : 1 ≤ nx := by omega
  have HDD := Lib.hid (show (u.drop at_).drop (sgAt L i).t.length = u.drop nx by rw [List.drop_drop, hnx])
  obtain ⟨fu, hfu⟩ : ∃ fu, ul = fu + 1 := ⟨ul - 1, by omega⟩
  have HFU := Lib.hid hfu
  have hin : i < n := by have := HI.out.1; omega
  rw [← hsu]
  rw [← hul] at hu hN ⊢
  have hn120 : n ≤ 120 := by have := (vO_zero HV.out).2.2.1; omega
  obtain ⟨cc, hcc⟩ : ∃ cc, cc = clsB (sgAt L i).s := ⟨_, rfl⟩
  have HCC := Lib.hid hcc
  have hcc3 : cc < 3 := by rw [hcc]; exact clsB_lt _
  have hcc4 : (cc : Int) < 3 := by omega
  rw [← hcc]
  have HFB := Lib.hid (fun (Q : List Snd) => (show fitB L (i : Int) S Q = whB (sgAt L i).w S Q from fitB_at (sgAt_get HI.out.1)))
  obtain ⟨z0, z1, z2⟩ := V1.out.obox_at (i := 0) rfl
  clear hW1 hg1 hv hl hA hS hB hrow hi hsu hul hile h0 hcc hfu hnx
  by_cases hend : nx = ul
  · have HBH := Lib.hid (show bh L ul i (u.drop at_) S = if whB (sgAt L i).w S [] = true then [[i]] else [] by
      rw [HFU.out, bh_end]
      rw [HDD.out, List.length_drop, ← HUL.out]; omega)
    have e1 : ((nx : Int) == (ul : Int)) = true := by rw [hend]; simp
    clear hend
    go_enter Tryz.func45, Tryz.ntmps45
    go_upto_region 1 with fail
    rw [← HG1.out, ← HW1.out]
    go_wp2_with fail
    refine (rfits_any nm L (i : Int) n c0 nb cb 0 0 A B none _ S [] HL.out (by omega) (HA.out.below V1.out.below) HS.out (by omega) rfl (by decide) (HB.out.below V1.out.below) (CellsIn.nil _ _)).mono ?_
    rintro r w2 ⟨rfl, hb⟩
    rw [HFB.out]
    have V2 := Lib.hid (V1.out.go hb)
    clear hb z0 z1 z2
    cases hw : whB (sgAt L i).w S [] with
    | true =>
      have HE := Lib.hid (show mn (bh L ul i (u.drop at_) S).length = 1 by rw [HBH.out, hw, if_pos rfl]; rfl)
      go_wp2_with fail
      go_ret
      exact ⟨by rw [HE.out]; rfl, V2.out.below⟩
    | false =>
      have HE := Lib.hid (show mn (bh L ul i (u.drop at_) S).length = 0 by rw [HBH.out, hw, if_neg (by decide)]; rfl)
      go_wp2_with fail
      go_ret
      exact ⟨by rw [HE.out]; rfl, V2.out.below⟩
  have e1 : ((nx : Int) == (ul : Int)) = false := by rw [beq_eq_false_iff_ne]; omega
  have hlt : nx < ul := by omega
  have HBH := Lib.hid (show bh L ul i (u.drop at_) S = onTo L fu i (u.drop nx) S (stL L (u.drop nx)) by
    rw [HFU.out, bh_on (by rw [HDD.out, List.length_drop, ← HUL.out]; omega), HDD.out]; rfl)
  have HROW2 := Lib.hid (HROW.out (by rw [← HUL.out]; exact hlt))
  have HTB := Lib.hid (fun (k : Nat) (hk : k ∈ stL L (u.drop nx)) => (show tbN L u nx k cc = mn (bh L fu k (u.drop nx) (sgAt L i).s).length by
    rw [HCC.out]; exact tbN_is HNE.out hk _ (by rw [List.length_drop, ← HUL.out]; have := HFU.out; omega)))
  clear hend
  go_enter Tryz.func45, Tryz.ntmps45
  go_upto_region 1 with fail
  rw [← HG1.out, ← HW1.out]
  go_wp2_with fail
  refine (rstands_any nm L A n c0 s u nx _ HSU.out (by rw [← HUL.out]; omega) (by rw [← HUL.out]; exact hnxu) HL.out (by omega) (fun x hx => by have := (txE_zero (sgE_zero ((vO_zero HV.out).2.2.2 x hx)).1).2.1; omega) (HA.out.below V1.out.below)).mono ?_
  rintro r w2 ⟨C, m, d, rfl, hm, hp⟩
  have V2 := Lib.hid (show Hp w (nums C m d (dI (stL L (u.drop nx))) :: obox g1 nm A n c0 :: []) w2 from V1.out.join hp)
  have HM := Lib.hid hm
  have hmn : m ≤ n := by rw [← hm, ← HL.out]; exact stL_len _ _
  clear hm hp z0 z1 z2 V1
  go_wp2_with fail
  clear e1
  go_loopw [15, 17] (fun v j wr => ∃ k : Nat, k ≤ m ∧ j = .int .i64 (k : Int) ∧ v = .int .i64 (mn (onTo L fu i (u.drop nx) S ((stL L (u.drop nx)).take k)).length : Nat) ∧ Hp w (nums C m d (dI (stL L (u.drop nx))) :: obox g1 nm A n c0 :: []) wr) (fun _ j _ => m - (intOf j).toNat)
  case atStart => exact ⟨0, Nat.zero_le _, rfl, rfl, V2.out⟩
  case round =>
    obtain ⟨k, hk, rfl, rfl, hV⟩ := hrel
    obtain ⟨wi, rfl⟩ : ∃ wi : World, wi = wr := ⟨_, rfl⟩
    have V3 := Lib.hid hV
    clear hV V2
    obtain ⟨sm, hsm⟩ : ∃ sm, sm = mn (onTo L fu i (u.drop nx) S ((stL L (u.drop nx)).take k)).length := ⟨_, rfl⟩
    have hsm2 : sm ≤ 201 := by rw [hsm]; exact mn_le _
    rw [← hsm]
    have HSM := Lib.hid hsm
    clear hsm
    by_cases hkm : k < m
    · obtain ⟨j, hj⟩ := get_at (L := stL L (u.drop nx)) (k := k) (by have := HM.out; omega)
      have hjm := List.mem_of_getElem? hj
      have hjl := (stL_mem.1 hjm).1
      obtain ⟨x, hx⟩ := get_at (L := L) (k := j) hjl
      have HLN := Lib.hid (show (onTo L fu i (u.drop nx) S ((stL L (u.drop nx)).take (k + 1))).length = (onTo L fu i (u.drop nx) S ((stL L (u.drop nx)).take k)).length + (if whB (sgAt L i).w S x.s = true then (bh L fu j (u.drop nx) (sgAt L i).s).length else 0) by
        rw [take_snocA hj, onTo_len, sgAt_is hx])
      have HTJ := Lib.hid (HTB.out j hjm)
      obtain ⟨nj, hnj⟩ : ∃ nj, nj = tbN L u nx j cc := ⟨_, rfl⟩
      have hnj2 : nj ≤ 201 := by rw [hnj]; exact tbN_le _ _ _ _ _
      have HNJ := Lib.hid hnj
      obtain ⟨t, o, bR, qR, eR, hTe, ht0, hb0, t0, hrc⟩ := HROW2.out
      have r0 := hrc j cc (by have := HL.out; omega) hcc3
      rw [← hnj] at r0
      have HT0 := Lib.hid (And.intro ht0 t0)
      have HR0 := Lib.hid (And.intro hb0 r0)
      obtain ⟨bC, oC', hCe, hbC, d0⟩ := CellsIn.idx (V3.out.cells (i := 0) (it := nums C m d (dI (stL L (u.drop nx)))) (A := C) (c := d) rfl rfl) hj
      obtain ⟨b, off, Aj, cj, hAe, hb', c0', c1', c2', c3', c4'⟩ := HA.out.at hx
      have HC1 := Lib.hid (And.intro hb' c1')
      have HC4 := Lib.hid c4'
      have HXS := Lib.hid (show x.s.length ≤ 2 by have := sgn_bd HV.out hjl; rw [sgAt_is hx] at this; omega)
      have HJ := Lib.hid hj
      have HAE := Lib.hid hAe
      have HCE := Lib.hid hCe
      have HTE := Lib.hid hTe
      have hjn : j < n := by have := HL.out; omega
      have hj4 : j * 4 ≤ 480 := by omega
      have hj3 : j * 3 ≤ 360 := by omega
      have hnxN : nx < N := by omega
      obtain ⟨z0, z1, z2⟩ := V3.out.obox_at (i := 1) rfl
      rw [hAe] at z1
      subst hAe
      subst hCe
      subst hTe
      clear hj hjm hjl hx hnj ht0 hb0 t0 hrc r0 hb' c0' c1' c2' c3' c4'
      go_upto_region 10 with fail
      by_cases hz : nj = 0
      · have e2 : decide (0 < (nj : Int)) = false := decide_eq_false (by omega)
        have e3 : decide (0 < nj) = false := decide_eq_false (by omega)
        have HN := Lib.hid (show sm = mn (onTo L fu i (u.drop nx) S ((stL L (u.drop nx)).take (k + 1))).length by
          have h1 : (bh L fu j (u.drop nx) (sgAt L i).s).length = 0 := by
            have h2 := HTJ.out
            rw [← HNJ.out, hz] at h2
            have := (mn_pos (n := (bh L fu j (u.drop nx) (sgAt L i).s).length))
            omega
          rw [HLN.out, h1, HSM.out]; split <;> rfl)
        clear hz
        have hKp : Keep [(⟨t, o + nx, none⟩, .slice (some ⟨bR, qR, none⟩) n eR), (⟨bC, oC' + k, none⟩, .int .i64 (j : Int)), (⟨bR, qR + j * 3 + cc, none⟩, .int .i64 (nj : Int)), (⟨g1, 0, none⟩, .string (bs nm)), (⟨g1, 1, none⟩, .slice (some ⟨b, off, none⟩) n c0), (⟨b, off + j * 4 + 1, none⟩, .slice Aj x.s.length cj)] wi := List.forall_mem_cons.2 ⟨⟨(V3.out.below.cell (p := ⟨t, o + nx, none⟩) HT0.out.1).trans HT0.out.2, Nat.lt_of_lt_of_le HT0.out.1 V3.out.below.size⟩, List.forall_mem_cons.2 ⟨⟨(idx_cellJ V3.out HJ.out).1, (idx_cellJ V3.out HJ.out).2⟩, List.forall_mem_cons.2 ⟨⟨(V3.out.below.cell (p := ⟨bR, qR + j * 3 + cc, none⟩) HR0.out.1).trans HR0.out.2, Nat.lt_of_lt_of_le HR0.out.1 V3.out.below.size⟩, List.forall_mem_cons.2 ⟨⟨(V3.out.box_at (i := 1) (j := 0) rfl rfl).1, (V3.out.box_at (i := 1) (j := 0) rfl rfl).2.2⟩, List.forall_mem_cons.2 ⟨⟨(V3.out.box_at (i := 1) (j := 1) rfl rfl).1, (V3.out.box_at (i := 1) (j := 1) rfl rfl).2.2⟩, List.forall_mem_cons.2 ⟨⟨(V3.out.below.cell (p := ⟨b, off + j * 4 + 1, none⟩) HC1.out.1).trans HC1.out.2, Nat.lt_of_lt_of_le HC1.out.1 V3.out.below.size⟩, fun _ h => by simp at h⟩⟩⟩⟩⟩⟩
        refine wp_region_held_drew (S := Keep _) (by kernel_rfl) hKp.drew (fun hHeld => ?_)
        obtain ⟨wf, hwf⟩ : ∃ z, z = wi.drew := ⟨_, rfl⟩
        have Vwf := Lib.hid (show Hp w (nums (some ⟨bC, oC', none⟩) m d (dI (stL L (u.drop nx))) :: obox g1 nm (some ⟨b, off, none⟩) n c0 :: []) wf by rw [hwf]; exact V3.out.go (bdrew _))
        have Bwf := Lib.hid (show Below wi.heap.size wi wf by rw [hwf]; exact bdrew _)
        rw [← hwf] at hHeld ⊢
        clear hwf hKp
        refine tk 0 ?_ rfl ?_ ?_; rotate_left; focus (intro w hSw; clear hSw; go_simp; try (with_reducible rfl))
        try simp only [Act.put, sA, sZ, sS]
        refine tk 1 ?_ rfl ?_ ?_; rotate_left; focus (intro w hSw; clear hSw; go_simp; try (with_reducible rfl))
        try simp only [Act.put, sA, sZ, sS]
        refine tk 2 ?_ rfl ?_ ?_; rotate_left; focus (intro w hSw; clear hSw; go_simp; try (with_reducible rfl))
        try simp only [Act.put, sA, sZ, sS]
        refine tk 3 ?_ rfl ?_ ?_; rotate_left
        · intro wl hSw
          have hSw : Keep _ wl := hSw
          have k0 := (hSw _ (.head _)).1
          dsimp only at k0
          clear hSw
          go_simp
          try (with_reducible rfl)
        try simp only [Act.put, sA, sZ, sS]
        refine tk 4 ?_ rfl ?_ ?_; rotate_left; focus (intro w hSw; clear hSw; go_simp; try (with_reducible rfl))
        try simp only [Act.put, sA, sZ, sS]
        refine tk 5 ?_ rfl ?_ ?_; rotate_left; focus (intro w hSw; clear hSw; go_simp; try (with_reducible rfl))
        try simp only [Act.put, sA, sZ, sS]
        refine tk 6 ?_ rfl ?_ ?_; rotate_left; focus (intro w hSw; clear hSw; go_simp; try (with_reducible rfl))
        try simp only [Act.put, sA, sZ, sS]
        refine tk 7 ?_ rfl ?_ ?_; rotate_left
        · intro wl hSw
          have hSw : Keep _ wl := hSw
          have k0 := (hSw _ (.tail _ (.head _))).1
          dsimp only at k0
          clear hSw
          go_simp
          try (with_reducible rfl)
        try simp only [Act.put, sA, sZ, sS]
        refine tk 8 ?_ rfl ?_ ?_; rotate_left; focus (intro w hSw; clear hSw; go_simp; try (with_reducible rfl))
        try simp only [Act.put, sA, sZ, sS]
        refine tk 9 ?_ rfl ?_ ?_; rotate_left; focus (intro w hSw; clear hSw; go_simp; try (with_reducible rfl))
        try simp only [Act.put, sA, sZ, sS]
        refine tk 10 ?_ rfl ?_ ?_; rotate_left; focus (intro w hSw; clear hSw; go_simp; try (with_reducible rfl))
        try simp only [Act.put, sA, sZ, sS]
        refine tk 11 ?_ rfl ?_ ?_; rotate_left
        · intro wl hSw
          have hSw : Keep _ wl := hSw
          have k0 := (hSw _ (.tail _ (.tail _ (.head _)))).1
          dsimp only at k0
          clear hSw
          go_simp
          try (with_reducible rfl)
        try simp only [Act.put, sA, sZ, sS]
        refine tk 12 ?_ rfl ?_ ?_; rotate_left; focus (intro w hSw; clear hSw; go_simp; try (with_reducible rfl))
        try simp only [Act.put, sA, sZ, sS]
        refine tk 13 ?_ rfl ?_ ?_; rotate_left; focus (intro w hSw; clear hSw; go_simp; try (with_reducible rfl))
        try simp only [Act.put, sA, sZ, sS]
        refine tu 14 rfl ?_
        try simp only [Act.put, sA, sZ, sS]
        refine tu 15 rfl ?_
        try simp only [Act.put, sA, sZ, sS]
        refine tu 16 rfl ?_
        try simp only [Act.put, sA, sZ, sS]
        refine tu 17 rfl ?_
        try simp only [Act.put, sA, sZ, sS]
        refine tu 18 rfl ?_
        try simp only [Act.put, sA, sZ, sS]
        refine tu 19 rfl ?_
        try simp only [Act.put, sA, sZ, sS]
        refine tu 20 rfl ?_
        try simp only [Act.put, sA, sZ, sS]
        refine tu 21 rfl ?_
        try simp only [Act.put, sA, sZ, sS]
        refine tu 22 rfl ?_
        try simp only [Act.put, sA, sZ, sS]
        refine tu 23 rfl ?_
        try simp only [Act.put, sA, sZ, sS]
        refine tu 24 rfl ?_
        try simp only [Act.put, sA, sZ, sS]
        refine tu 25 rfl ?_
        try simp only [Act.put, sA, sZ, sS]
        refine tu 26 rfl ?_
        try simp only [Act.put, sA, sZ, sS]
        refine tk 27 ?_ rfl ?_ ?_; rotate_left; focus (intro w hSw; clear hSw; go_simp; try (with_reducible rfl))
        try simp only [Act.put, sA, sZ, sS]
        refine wpAnyH_done (by kernel_rfl) ?_ _
        clear hHeld
        go_wp2_with fail
        go_roundw
        case rel => exact ⟨k + 1, by omega, by go_num, by rw [← HN.out], Vwf.out⟩
        case measure => simp [intOf]; omega
      · have e2 : decide (0 < (nj : Int)) = true := decide_eq_true (by omega)
        have e3 : decide (0 < nj) = true := decide_eq_true (by omega)
        cases hw : whB (sgAt L i).w S x.s with
        | false =>
          have HW := Lib.hid (show fitB L (i : Int) S x.s = false by rw [HFB.out, hw])
          have HN := Lib.hid (show sm = mn (onTo L fu i (u.drop nx) S ((stL L (u.drop nx)).take (k + 1))).length by
            rw [HLN.out, if_neg (by rw [hw]; decide), HSM.out]; rfl)
          clear hz hw
          have hKp : Keep [(⟨t, o + nx, none⟩, .slice (some ⟨bR, qR, none⟩) n eR), (⟨bC, oC' + k, none⟩, .int .i64 (j : Int)), (⟨bR, qR + j * 3 + cc, none⟩, .int .i64 (nj : Int)), (⟨g1, 0, none⟩, .string (bs nm)), (⟨g1, 1, none⟩, .slice (some ⟨b, off, none⟩) n c0), (⟨b, off + j * 4 + 1, none⟩, .slice Aj x.s.length cj)] wi := List.forall_mem_cons.2 ⟨⟨(V3.out.below.cell (p := ⟨t, o + nx, none⟩) HT0.out.1).trans HT0.out.2, Nat.lt_of_lt_of_le HT0.out.1 V3.out.below.size⟩, List.forall_mem_cons.2 ⟨⟨(idx_cellJ V3.out HJ.out).1, (idx_cellJ V3.out HJ.out).2⟩, List.forall_mem_cons.2 ⟨⟨(V3.out.below.cell (p := ⟨bR, qR + j * 3 + cc, none⟩) HR0.out.1).trans HR0.out.2, Nat.lt_of_lt_of_le HR0.out.1 V3.out.below.size⟩, List.forall_mem_cons.2 ⟨⟨(V3.out.box_at (i := 1) (j := 0) rfl rfl).1, (V3.out.box_at (i := 1) (j := 0) rfl rfl).2.2⟩, List.forall_mem_cons.2 ⟨⟨(V3.out.box_at (i := 1) (j := 1) rfl rfl).1, (V3.out.box_at (i := 1) (j := 1) rfl rfl).2.2⟩, List.forall_mem_cons.2 ⟨⟨(V3.out.below.cell (p := ⟨b, off + j * 4 + 1, none⟩) HC1.out.1).trans HC1.out.2, Nat.lt_of_lt_of_le HC1.out.1 V3.out.below.size⟩, fun _ h => by simp at h⟩⟩⟩⟩⟩⟩
          refine wp_region_held_drew (S := Keep _) (by kernel_rfl) hKp.drew (fun hHeld => ?_)
          obtain ⟨wf, hwf⟩ : ∃ z, z = wi.drew := ⟨_, rfl⟩
          have Vwf := Lib.hid (show Hp w (nums (some ⟨bC, oC', none⟩) m d (dI (stL L (u.drop nx))) :: obox g1 nm (some ⟨b, off, none⟩) n c0 :: []) wf by rw [hwf]; exact V3.out.go (bdrew _))
          have Bwf := Lib.hid (show Below wi.heap.size wi wf by rw [hwf]; exact bdrew _)
          rw [← hwf] at hHeld ⊢
          clear hwf hKp
          refine tk 0 ?_ rfl ?_ ?_; rotate_left; focus (intro w hSw; clear hSw; go_simp; try (with_reducible rfl))
          try simp only [Act.put, sA, sZ, sS]
          refine tk 1 ?_ rfl ?_ ?_; rotate_left; focus (intro w hSw; clear hSw; go_simp; try (with_reducible rfl))
          try simp only [Act.put, sA, sZ, sS]
          refine tk 2 ?_ rfl ?_ ?_; rotate_left; focus (intro w hSw; clear hSw; go_simp; try (with_reducible rfl))
          try simp only [Act.put, sA, sZ, sS]
          refine tk 3 ?_ rfl ?_ ?_; rotate_left
          · intro wl hSw
            have hSw : Keep _ wl := hSw
            have k0 := (hSw _ (.head _)).1
            dsimp only at k0
            clear hSw
            go_simp
            try (with_reducible rfl)
          try simp only [Act.put, sA, sZ, sS]
          refine tk 4 ?_ rfl ?_ ?_; rotate_left; focus (intro w hSw; clear hSw; go_simp; try (with_reducible rfl))
          try simp only [Act.put, sA, sZ, sS]
          refine tk 5 ?_ rfl ?_ ?_; rotate_left; focus (intro w hSw; clear hSw; go_simp; try (with_reducible rfl))
          try simp only [Act.put, sA, sZ, sS]
          refine tk 6 ?_ rfl ?_ ?_; rotate_left; focus (intro w hSw; clear hSw; go_simp; try (with_reducible rfl))
          try simp only [Act.put, sA, sZ, sS]
          refine tk 7 ?_ rfl ?_ ?_; rotate_left
          · intro wl hSw
            have hSw : Keep _ wl := hSw
            have k0 := (hSw _ (.tail _ (.head _))).1
            dsimp only at k0
            clear hSw
            go_simp
            try (with_reducible rfl)
          try simp only [Act.put, sA, sZ, sS]
          refine tk 8 ?_ rfl ?_ ?_; rotate_left; focus (intro w hSw; clear hSw; go_simp; try (with_reducible rfl))
          try simp only [Act.put, sA, sZ, sS]
          refine tk 9 ?_ rfl ?_ ?_; rotate_left; focus (intro w hSw; clear hSw; go_simp; try (with_reducible rfl))
          try simp only [Act.put, sA, sZ, sS]
          refine tk 10 ?_ rfl ?_ ?_; rotate_left; focus (intro w hSw; clear hSw; go_simp; try (with_reducible rfl))
          try simp only [Act.put, sA, sZ, sS]
          refine tk 11 ?_ rfl ?_ ?_; rotate_left
          · intro wl hSw
            have hSw : Keep _ wl := hSw
            have k0 := (hSw _ (.tail _ (.tail _ (.head _)))).1
            dsimp only at k0
            clear hSw
            go_simp
            try (with_reducible rfl)
          try simp only [Act.put, sA, sZ, sS]
          refine tk 12 ?_ rfl ?_ ?_; rotate_left; focus (intro w hSw; clear hSw; go_simp; try (with_reducible rfl))
          try simp only [Act.put, sA, sZ, sS]
          refine tk 13 ?_ rfl ?_ ?_; rotate_left; focus (intro w hSw; clear hSw; go_simp; try (with_reducible rfl))
          try simp only [Act.put, sA, sZ, sS]
          refine tk 14 ?_ rfl ?_ ?_; rotate_left
          · intro wl hSw
            have hSw : Keep _ wl := hSw
            have k0 := (hSw _ (.tail _ (.tail _ (.tail _ (.head _))))).1
            have k1 := (hSw _ (.tail _ (.tail _ (.tail _ (.tail _ (.head _)))))).1
            dsimp only at k0 k1
            clear hSw
            go_simp
            try (with_reducible rfl)
          try simp only [Act.put, sA, sZ, sS]
          refine tk 15 ?_ rfl ?_ ?_; rotate_left; focus (intro w hSw; clear hSw; go_simp; try (with_reducible rfl))
          try simp only [Act.put, sA, sZ, sS]
          refine tk 16 ?_ rfl ?_ ?_; rotate_left; focus (intro w hSw; clear hSw; go_simp; try (with_reducible rfl))
          try simp only [Act.put, sA, sZ, sS]
          refine tk 17 ?_ rfl ?_ ?_; rotate_left; focus (intro w hSw; clear hSw; go_simp; try (with_reducible rfl))
          try simp only [Act.put, sA, sZ, sS]
          refine tk 18 ?_ rfl ?_ ?_; rotate_left
          · intro wl hSw
            have hSw : Keep _ wl := hSw
            have k0 := (hSw _ (.tail _ (.tail _ (.tail _ (.tail _ (.head _)))))).1
            dsimp only at k0
            clear hSw
            go_simp
            try (with_reducible rfl)
          try simp only [Act.put, sA, sZ, sS]
          refine tk 19 ?_ rfl ?_ ?_; rotate_left; focus (intro w hSw; clear hSw; go_simp; try (with_reducible rfl))
          try simp only [Act.put, sA, sZ, sS]
          refine tk 20 ?_ rfl ?_ ?_; rotate_left; focus (intro w hSw; clear hSw; go_simp; try (with_reducible rfl))
          try simp only [Act.put, sA, sZ, sS]
          refine tk 21 ?_ rfl ?_ ?_; rotate_left; focus (intro w hSw; clear hSw; go_simp; try (with_reducible rfl))
          try simp only [Act.put, sA, sZ, sS]
          refine tk 22 ?_ rfl ?_ ?_; rotate_left
          · intro wl hSw
            have hSw : Keep _ wl := hSw
            have k0 := (hSw _ (.tail _ (.head _))).1
            dsimp only at k0
            clear hSw
            go_simp
            try (with_reducible rfl)
          try simp only [Act.put, sA, sZ, sS]
          refine tk 23 ?_ rfl ?_ ?_; rotate_left; focus (intro w hSw; clear hSw; go_simp; try (with_reducible rfl))
          try simp only [Act.put, sA, sZ, sS]
          refine tk 24 ?_ rfl ?_ ?_; rotate_left; focus (intro w hSw; clear hSw; go_simp; try (with_reducible rfl))
          try simp only [Act.put, sA, sZ, sS]
          refine tk 25 ?_ rfl ?_ ?_; rotate_left
          · intro wl hSw
            have hSw : Keep _ wl := hSw
            have k0 := (hSw _ (.tail _ (.tail _ (.tail _ (.tail _ (.tail _ (.head _))))))).1
            dsimp only at k0
            clear hSw
            go_simp
            try (with_reducible rfl)
          try simp only [Act.put, sA, sZ, sS]
          refine wpAnyH_ready (rs := [26]) (by kernel_rfl) (by simp) ?_
          refine AllReadyH.cons (List.getElem?_toArray.trans rfl) (fun K hK => ?_) AllReadyH.nil
          go_simp
          refine (rfits_any nm L (i : Int) n c0 nb cb x.s.length cj (some ⟨b, off, none⟩) B Aj _ S x.s HL.out (by omega) (HA.out.below Vwf.out.below) HS.out (by omega) rfl (by have := HXS.out; omega) (HB.out.below Vwf.out.below) (HC4.out.below Vwf.out.below)).mono ?_
          rintro r w_26 ⟨rfl, hb⟩
          rw [HW.out]
          have V_26 := Lib.hid (Vwf.out.go hb)
          have B_26 := Lib.hid hb
          clear hb
          try go_wp2_with fail
          refine hK.out _ _ (hHeld.go B_26.out) (fun hHeld => ?_)
          clear hK K
          try simp only [Act.put, sA, sZ, sS]
          refine tk 27 ?_ rfl ?_ ?_; rotate_left; focus (intro w hSw; clear hSw; go_simp; try (with_reducible rfl))
          try simp only [Act.put, sA, sZ, sS]
          refine wpAnyH_done (by kernel_rfl) ?_ _
          clear hHeld
          go_wp2_with fail
          go_roundw
          case rel => exact ⟨k + 1, by omega, by go_num, by rw [← HN.out], V_26.out⟩
          case measure => simp [intOf]; omega
        | true =>
          have HW := Lib.hid (show fitB L (i : Int) S x.s = true by rw [HFB.out, hw])
          have HN := Lib.hid (show mn (sm + nj) = mn (onTo L fu i (u.drop nx) S ((stL L (u.drop nx)).take (k + 1))).length by
            rw [HLN.out, if_pos hw, HSM.out, HNJ.out, HTJ.out, mn_add])
          clear hz hw
          have hKp : Keep [(⟨t, o + nx, none⟩, .slice (some ⟨bR, qR, none⟩) n eR), (⟨bC, oC' + k, none⟩, .int .i64 (j : Int)), (⟨bR, qR + j * 3 + cc, none⟩, .int .i64 (nj : Int)), (⟨g1, 0, none⟩, .string (bs nm)), (⟨g1, 1, none⟩, .slice (some ⟨b, off, none⟩) n c0), (⟨b, off + j * 4 + 1, none⟩, .slice Aj x.s.length cj)] wi := List.forall_mem_cons.2 ⟨⟨(V3.out.below.cell (p := ⟨t, o + nx, none⟩) HT0.out.1).trans HT0.out.2, Nat.lt_of_lt_of_le HT0.out.1 V3.out.below.size⟩, List.forall_mem_cons.2 ⟨⟨(idx_cellJ V3.out HJ.out).1, (idx_cellJ V3.out HJ.out).2⟩, List.forall_mem_cons.2 ⟨⟨(V3.out.below.cell (p := ⟨bR, qR + j * 3 + cc, none⟩) HR0.out.1).trans HR0.out.2, Nat.lt_of_lt_of_le HR0.out.1 V3.out.below.size⟩, List.forall_mem_cons.2 ⟨⟨(V3.out.box_at (i := 1) (j := 0) rfl rfl).1, (V3.out.box_at (i := 1) (j := 0) rfl rfl).2.2⟩, List.forall_mem_cons.2 ⟨⟨(V3.out.box_at (i := 1) (j := 1) rfl rfl).1, (V3.out.box_at (i := 1) (j := 1) rfl rfl).2.2⟩, List.forall_mem_cons.2 ⟨⟨(V3.out.below.cell (p := ⟨b, off + j * 4 + 1, none⟩) HC1.out.1).trans HC1.out.2, Nat.lt_of_lt_of_le HC1.out.1 V3.out.below.size⟩, fun _ h => by simp at h⟩⟩⟩⟩⟩⟩
          refine wp_region_held_drew (S := Keep _) (by kernel_rfl) hKp.drew (fun hHeld => ?_)
          obtain ⟨wf, hwf⟩ : ∃ z, z = wi.drew := ⟨_, rfl⟩
          have Vwf := Lib.hid (show Hp w (nums (some ⟨bC, oC', none⟩) m d (dI (stL L (u.drop nx))) :: obox g1 nm (some ⟨b, off, none⟩) n c0 :: []) wf by rw [hwf]; exact V3.out.go (bdrew _))
          have Bwf := Lib.hid (show Below wi.heap.size wi wf by rw [hwf]; exact bdrew _)
          rw [← hwf] at hHeld ⊢
          clear hwf hKp
          refine tk 0 ?_ rfl ?_ ?_; rotate_left; focus (intro w hSw; clear hSw; go_simp; try (with_reducible rfl))
          try simp only [Act.put, sA, sZ, sS]
          refine tk 1 ?_ rfl ?_ ?_; rotate_left; focus (intro w hSw; clear hSw; go_simp; try (with_reducible rfl))
          try simp only [Act.put, sA, sZ, sS]
          refine tk 2 ?_ rfl ?_ ?_; rotate_left; focus (intro w hSw; clear hSw; go_simp; try (with_reducible rfl))
          try simp only [Act.put, sA, sZ, sS]
          refine tk 3 ?_ rfl ?_ ?_; rotate_left
          · intro wl hSw
            have hSw : Keep _ wl := hSw
            have k0 := (hSw _ (.head _)).1
            dsimp only at k0
            clear hSw
            go_simp
            try (with_reducible rfl)
          try simp only [Act.put, sA, sZ, sS]
          refine tk 4 ?_ rfl ?_ ?_; rotate_left; focus (intro w hSw; clear hSw; go_simp; try (with_reducible rfl))
          try simp only [Act.put, sA, sZ, sS]
          refine tk 5 ?_ rfl ?_ ?_; rotate_left; focus (intro w hSw; clear hSw; go_simp; try (with_reducible rfl))
          try simp only [Act.put, sA, sZ, sS]
          refine tk 6 ?_ rfl ?_ ?_; rotate_left; focus (intro w hSw; clear hSw; go_simp; try (with_reducible rfl))
          try simp only [Act.put, sA, sZ, sS]
          refine tk 7 ?_ rfl ?_ ?_; rotate_left
          · intro wl hSw
            have hSw : Keep _ wl := hSw
            have k0 := (hSw _ (.tail _ (.head _))).1
            dsimp only at k0
            clear hSw
            go_simp
            try (with_reducible rfl)
          try simp only [Act.put, sA, sZ, sS]
          refine tk 8 ?_ rfl ?_ ?_; rotate_left; focus (intro w hSw; clear hSw; go_simp; try (with_reducible rfl))
          try simp only [Act.put, sA, sZ, sS]
          refine tk 9 ?_ rfl ?_ ?_; rotate_left; focus (intro w hSw; clear hSw; go_simp; try (with_reducible rfl))
          try simp only [Act.put, sA, sZ, sS]
          refine tk 10 ?_ rfl ?_ ?_; rotate_left; focus (intro w hSw; clear hSw; go_simp; try (with_reducible rfl))
          try simp only [Act.put, sA, sZ, sS]
          refine tk 11 ?_ rfl ?_ ?_; rotate_left
          · intro wl hSw
            have hSw : Keep _ wl := hSw
            have k0 := (hSw _ (.tail _ (.tail _ (.head _)))).1
            dsimp only at k0
            clear hSw
            go_simp
            try (with_reducible rfl)
          try simp only [Act.put, sA, sZ, sS]
          refine tk 12 ?_ rfl ?_ ?_; rotate_left; focus (intro w hSw; clear hSw; go_simp; try (with_reducible rfl))
          try simp only [Act.put, sA, sZ, sS]
          refine tk 13 ?_ rfl ?_ ?_; rotate_left; focus (intro w hSw; clear hSw; go_simp; try (with_reducible rfl))
          try simp only [Act.put, sA, sZ, sS]
          refine tk 14 ?_ rfl ?_ ?_; rotate_left
          · intro wl hSw
            have hSw : Keep _ wl := hSw
            have k0 := (hSw _ (.tail _ (.tail _ (.tail _ (.head _))))).1
            have k1 := (hSw _ (.tail _ (.tail _ (.tail _ (.tail _ (.head _)))))).1
            dsimp only at k0 k1
            clear hSw
            go_simp
            try (with_reducible rfl)
          try simp only [Act.put, sA, sZ, sS]
          refine tk 15 ?_ rfl ?_ ?_; rotate_left; focus (intro w hSw; clear hSw; go_simp; try (with_reducible rfl))
          try simp only [Act.put, sA, sZ, sS]
          refine tk 16 ?_ rfl ?_ ?_; rotate_left; focus (intro w hSw; clear hSw; go_simp; try (with_reducible rfl))
          try simp only [Act.put, sA, sZ, sS]
          refine tk 17 ?_ rfl ?_ ?_; rotate_left; focus (intro w hSw; clear hSw; go_simp; try (with_reducible rfl))
          try simp only [Act.put, sA, sZ, sS]
          refine tk 18 ?_ rfl ?_ ?_; rotate_left
          · intro wl hSw
            have hSw : Keep _ wl := hSw
            have k0 := (hSw _ (.tail _ (.tail _ (.tail _ (.tail _ (.head _)))))).1
            dsimp only at k0
            clear hSw
            go_simp
            try (with_reducible rfl)
          try simp only [Act.put, sA, sZ, sS]
          refine tk 19 ?_ rfl ?_ ?_; rotate_left; focus (intro w hSw; clear hSw; go_simp; try (with_reducible rfl))
          try simp only [Act.put, sA, sZ, sS]
          refine tk 20 ?_ rfl ?_ ?_; rotate_left; focus (intro w hSw; clear hSw; go_simp; try (with_reducible rfl))
          try simp only [Act.put, sA, sZ, sS]
          refine tk 21 ?_ rfl ?_ ?_; rotate_left; focus (intro w hSw; clear hSw; go_simp; try (with_reducible rfl))
          try simp only [Act.put, sA, sZ, sS]
          refine tk 22 ?_ rfl ?_ ?_; rotate_left
          · intro wl hSw
            have hSw : Keep _ wl := hSw
            have k0 := (hSw _ (.tail _ (.head _))).1
            dsimp only at k0
            clear hSw
            go_simp
            try (with_reducible rfl)
          try simp only [Act.put, sA, sZ, sS]
          refine tk 23 ?_ rfl ?_ ?_; rotate_left; focus (intro w hSw; clear hSw; go_simp; try (with_reducible rfl))
          try simp only [Act.put, sA, sZ, sS]
          refine tk 24 ?_ rfl ?_ ?_; rotate_left; focus (intro w hSw; clear hSw; go_simp; try (with_reducible rfl))
          try simp only [Act.put, sA, sZ, sS]
          refine tk 25 ?_ rfl ?_ ?_; rotate_left
          · intro wl hSw
            have hSw : Keep _ wl := hSw
            have k0 := (hSw _ (.tail _ (.tail _ (.tail _ (.tail _ (.tail _ (.head _))))))).1
            dsimp only at k0
            clear hSw
            go_simp
            try (with_reducible rfl)
          try simp only [Act.put, sA, sZ, sS]
          refine wpAnyH_ready (rs := [26]) (by kernel_rfl) (by simp) ?_
          refine AllReadyH.cons (List.getElem?_toArray.trans rfl) (fun K hK => ?_) AllReadyH.nil
          go_simp
          refine (rfits_any nm L (i : Int) n c0 nb cb x.s.length cj (some ⟨b, off, none⟩) B Aj _ S x.s HL.out (by omega) (HA.out.below Vwf.out.below) HS.out (by omega) rfl (by have := HXS.out; omega) (HB.out.below Vwf.out.below) (HC4.out.below Vwf.out.below)).mono ?_
          rintro r w_26 ⟨rfl, hb⟩
          rw [HW.out]
          have V_26 := Lib.hid (Vwf.out.go hb)
          have B_26 := Lib.hid hb
          clear hb
          try go_wp2_with fail
          refine hK.out _ _ (hHeld.go B_26.out) (fun hHeld => ?_)
          clear hK K
          try simp only [Act.put, sA, sZ, sS]
          refine tk 27 ?_ rfl ?_ ?_; rotate_left; focus (intro w hSw; clear hSw; go_simp; try (with_reducible rfl))
          try simp only [Act.put, sA, sZ, sS]
          refine wpAnyH_done (by kernel_rfl) ?_ _
          clear hHeld
          have hws : IntKind.i64.wrap ((sm : Int) + (nj : Int)) = (sm : Int) + (nj : Int) := IntWalk.i64_in _ (by omega)
          have hmin : min (201 : Int) ((sm : Int) + (nj : Int)) = (mn (sm + nj) : Nat) := min_mn _ _ (by omega)
          go_upto_region 11 with fail
          have hKp : Keep [(⟨t, o + nx, none⟩, .slice (some ⟨bR, qR, none⟩) n eR), (⟨bC, oC' + k, none⟩, .int .i64 (j : Int)), (⟨bR, qR + j * 3 + cc, none⟩, .int .i64 (nj : Int)), (⟨g1, 0, none⟩, .string (bs nm)), (⟨g1, 1, none⟩, .slice (some ⟨b, off, none⟩) n c0), (⟨b, off + j * 4 + 1, none⟩, .slice Aj x.s.length cj)] w_26 := List.forall_mem_cons.2 ⟨⟨(V_26.out.below.cell (p := ⟨t, o + nx, none⟩) HT0.out.1).trans HT0.out.2, Nat.lt_of_lt_of_le HT0.out.1 V_26.out.below.size⟩, List.forall_mem_cons.2 ⟨⟨(idx_cellJ V_26.out HJ.out).1, (idx_cellJ V_26.out HJ.out).2⟩, List.forall_mem_cons.2 ⟨⟨(V_26.out.below.cell (p := ⟨bR, qR + j * 3 + cc, none⟩) HR0.out.1).trans HR0.out.2, Nat.lt_of_lt_of_le HR0.out.1 V_26.out.below.size⟩, List.forall_mem_cons.2 ⟨⟨(V_26.out.box_at (i := 1) (j := 0) rfl rfl).1, (V_26.out.box_at (i := 1) (j := 0) rfl rfl).2.2⟩, List.forall_mem_cons.2 ⟨⟨(V_26.out.box_at (i := 1) (j := 1) rfl rfl).1, (V_26.out.box_at (i := 1) (j := 1) rfl rfl).2.2⟩, List.forall_mem_cons.2 ⟨⟨(V_26.out.below.cell (p := ⟨b, off + j * 4 + 1, none⟩) HC1.out.1).trans HC1.out.2, Nat.lt_of_lt_of_le HC1.out.1 V_26.out.below.size⟩, fun _ h => by simp at h⟩⟩⟩⟩⟩⟩
          refine wp_region_held_drew (S := Keep _) (by kernel_rfl) hKp.drew (fun hHeld => ?_)
          obtain ⟨wg, hwg⟩ : ∃ z, z = w_26.drew := ⟨_, rfl⟩
          have Vwg := Lib.hid (show Hp w (nums (some ⟨bC, oC', none⟩) m d (dI (stL L (u.drop nx))) :: obox g1 nm (some ⟨b, off, none⟩) n c0 :: []) wg by rw [hwg]; exact V_26.out.go (bdrew _))
          have Bwg := Lib.hid (show Below w_26.heap.size w_26 wg by rw [hwg]; exact bdrew _)
          rw [← hwg] at hHeld ⊢
          clear hwg hKp
          refine tk 0 ?_ rfl ?_ ?_; rotate_left; focus (intro w hSw; clear hSw; go_simp; try (with_reducible rfl))
          try simp only [Act.put, sA, sZ, sS]
          refine tk 1 ?_ rfl ?_ ?_; rotate_left; focus (intro w hSw; clear hSw; go_simp; try (with_reducible rfl))
          try simp only [Act.put, sA, sZ, sS]
          refine tk 2 ?_ rfl ?_ ?_; rotate_left; focus (intro w hSw; clear hSw; go_simp; try (with_reducible rfl))
          try simp only [Act.put, sA, sZ, sS]
          refine tk 3 ?_ rfl ?_ ?_; rotate_left; focus (intro w hSw; clear hSw; go_simp; try (with_reducible rfl))
          try simp only [Act.put, sA, sZ, sS]
          refine tk 4 ?_ rfl ?_ ?_; rotate_left
          · intro wl hSw
            have hSw : Keep _ wl := hSw
            have k0 := (hSw _ (.head _)).1
            dsimp only at k0
            clear hSw
            go_simp
            try (with_reducible rfl)
          try simp only [Act.put, sA, sZ, sS]
          refine tk 5 ?_ rfl ?_ ?_; rotate_left; focus (intro w hSw; clear hSw; go_simp; try (with_reducible rfl))
          try simp only [Act.put, sA, sZ, sS]
          refine tk 6 ?_ rfl ?_ ?_; rotate_left; focus (intro w hSw; clear hSw; go_simp; try (with_reducible rfl))
          try simp only [Act.put, sA, sZ, sS]
          refine tk 7 ?_ rfl ?_ ?_; rotate_left; focus (intro w hSw; clear hSw; go_simp; try (with_reducible rfl))
          try simp only [Act.put, sA, sZ, sS]
          refine tk 8 ?_ rfl ?_ ?_; rotate_left
          · intro wl hSw
            have hSw : Keep _ wl := hSw
            have k0 := (hSw _ (.tail _ (.head _))).1
            dsimp only at k0
            clear hSw
            go_simp
            try (with_reducible rfl)
          try simp only [Act.put, sA, sZ, sS]
          refine tk 9 ?_ rfl ?_ ?_; rotate_left; focus (intro w hSw; clear hSw; go_simp; try (with_reducible rfl))
          try simp only [Act.put, sA, sZ, sS]
          refine tk 10 ?_ rfl ?_ ?_; rotate_left; focus (intro w hSw; clear hSw; go_simp; try (with_reducible rfl))
          try simp only [Act.put, sA, sZ, sS]
          refine tk 11 ?_ rfl ?_ ?_; rotate_left; focus (intro w hSw; clear hSw; go_simp; try (with_reducible rfl))
          try simp only [Act.put, sA, sZ, sS]
          refine tk 12 ?_ rfl ?_ ?_; rotate_left
          · intro wl hSw
            have hSw : Keep _ wl := hSw
            have k0 := (hSw _ (.tail _ (.tail _ (.head _)))).1
            dsimp only at k0
            clear hSw
            go_simp
            try (with_reducible rfl)
          try simp only [Act.put, sA, sZ, sS]
          refine tk 13 ?_ rfl ?_ ?_; rotate_left; focus (intro w hSw; clear hSw; go_simp; try (with_reducible rfl))
          try simp only [Act.put, sA, sZ, sS]
          refine tk 14 ?_ rfl ?_ ?_; rotate_left; focus (intro w hSw; clear hSw; go_simp; try (with_reducible rfl))
          try simp only [Act.put, sA, sZ, sS]
          refine tk 15 ?_ rfl ?_ ?_; rotate_left; focus (intro w hSw; clear hSw; go_simp; try (with_reducible rfl))
          try simp only [Act.put, sA, sZ, sS]
          refine wpAnyH_done (by kernel_rfl) ?_ _
          clear hHeld
          go_wp2_with fail
          go_roundw
          case rel => exact ⟨k + 1, by omega, by go_num, by rw [← HN.out], Vwg.out⟩
          case measure => simp [intOf]; omega
    · obtain rfl : k = m := by omega
      have HE := Lib.hid (show sm = mn (bh L ul i (u.drop at_) S).length by
        rw [HBH.out, HSM.out, List.take_of_length_le (by have := HM.out; omega)])
      go_wp2_with fail
      go_ret
      exact ⟨by rw [← HE.out]; rfl, V3.out.below⟩
end Go.Proofs.YtjamfcihjendiaaGreat
