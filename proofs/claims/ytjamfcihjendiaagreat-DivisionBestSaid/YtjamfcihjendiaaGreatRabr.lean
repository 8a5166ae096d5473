/- Several texts in one: Jo. -/
import Derived.Test.YtjamfcihjendiaaGreatRabq
namespace Go.Proofs.YtjamfcihjendiaaGreat
open Go.RowKit
set_option linter.unusedVariables false
set_option linter.unusedSimpArgs false
set_option maxRecDepth 100000

theorem trow_congr {g n : Nat} {F G : Nat → Nat → Nat} (h : ∀ i c, i < n → c < 3 → F i c = G i c) : trow g n F = trow g n G := by unfold trow; rw [thr_congr h]
theorem CellsIn.nat {w : World} {b off k : Nat} {D : List Int} {z : Int} (h : CellsIn w (some ⟨b, off, none⟩) (ints D)) (hz : D.getD k 0 = z) (hk : k < D.length) : w.cell? ⟨b, off + k, none⟩ = some (.int .i64 z) ∧ b < w.heap.size := by
  obtain ⟨b2, o2, e, hb, hc⟩ := h.int (j := k) hk
  injection e with e
  injection e with e1 e2
  subst e1 e2
  rw [hz] at hc
  exact ⟨hc, hb⟩
def CtPost (L : List Sg) (n : Nat) (u : List UInt8) (w : World) (r : Ending) (w' : World) : Prop := ∃ g e, r = .returned (.slice (some ⟨g, 0, none⟩) (u.length + 1) e) ∧ (∀ p, p < u.length → RowAt w' (some ⟨g, 0, none⟩) p n (tbN L u p)) ∧ Below w.heap.size w w'
set_option maxHeartbeats 4000000 in
theorem rcounted_any (nm : List UInt8) (L : List Sg) (A : Option Addr) (n c0 : Nat) (u : List UInt8) (w : World) (hv : (vO nm L).2 = 0) (hl : L.length = n) (hA : SgnIn w A L) (hu : u.length ≤ 1000) :
    Calls Tryz.prog 22 #[.agg #[.string (bs nm), .slice A n c0], .string (bs u)] w (CtPost L n u w) := by
  obtain ⟨_, hn0, hn1, _⟩ := vO_zero hv
  rw [hl] at hn0 hn1
  obtain ⟨g0, hg0⟩ : ∃ z, z = w.heap.size := ⟨_, rfl⟩
  obtain ⟨W1, hW1⟩ : ∃ z, z = w.alloc (.cells #[.string (bs nm), .slice A n c0] 24) := ⟨_, rfl⟩
  have V1 := Lib.hid (show Hp w [obox g0 nm A n c0] W1 by rw [hW1, hg0]; exact (Hp.start w).obox_new nm A n c0)
  have HW1 := Lib.hid hW1
  have HG0 := Lib.hid hg0
  have HV := Lib.hid hv
  have HL := Lib.hid hl
  have HA := Lib.hid hA
  obtain ⟨s, hsu⟩ : ∃ s, s = bs u := ⟨_, rfl⟩
  obtain ⟨ul, hul⟩ : ∃ ul, ul = u.length := ⟨_, rfl⟩
  have hsz : s.size = ul := by rw [hsu, bs_size, hul]
  have HSU := Lib.hid hsu
  have HUL := Lib.hid hul
  rw [← hul] at hu
  rw [← hsu]
  clear hW1 hg0 hv hl hA hsu hul
  obtain ⟨N, hN⟩ : ∃ N, N = ul + 1 := ⟨_, rfl⟩
  have hwN : IntKind.i64.wrap ((ul : Int) + 1) = (N : Int) := by rw [IntWalk.i64_in _ (by omega)]; omega
  have hmk := fun w => make_threes (N : Int) N rfl (by omega) w
  have HN := Lib.hid hN
  have hN1 : N ≤ 1001 := by omega
  clear hN
  go_enter Tryz.func22, Tryz.ntmps22
  go_upto_region 1 with fail
  rw [← HG0.out, ← HW1.out]
  obtain ⟨gt, hgt⟩ : ∃ z, z = W1.heap.size := ⟨_, rfl⟩
  obtain ⟨W2, hW2⟩ : ∃ z, z = W1.alloc (.cells (List.replicate N (.slice none 0 0)).toArray 54) := ⟨_, rfl⟩
  have V2 := Lib.hid (show Hp w [ttab gt N (List.replicate N (.slice none 0 0)), obox g0 nm A n c0] W2 by rw [hW2, hgt]; exact V1.out.made_threes N (by omega))
  have HGT := Lib.hid hgt
  have HW2 := Lib.hid hW2
  clear hgt hW2
  go_upto_region 2 with fail
  clear hmk hwN
  try simp only [List.toArray_replicate] at HW2
  rw [← HGT.out, ← HW2.out]
  have hwl : IntKind.i64.wrap ((ul : Int) - 1) = (ul : Int) - 1 := IntWalk.i64_in _ (by omega)
  have hmk2 := fun w => make_three (n : Int) n rfl (by omega) w
  try simp only [List.toArray_replicate] at hmk2
  have HMK := Lib.hid hmk2
  clear hmk2
  go_wp2_with fail
  go_loopw [6] (fun i wr => ∃ (b : Nat) (tv : List Value), b ≤ ul ∧ i = .int .i64 ((b : Int) - 1) ∧ tv.length = N ∧ Hp w [ttab gt N tv, obox g0 nm A n c0] wr ∧ RowsD wr tv gt wr.heap.size n L u b) (fun i _ => (intOf i + 1).toNat)
  case atStart => exact ⟨ul, _, Nat.le_refl _, rfl, by simp, V2.out, fun p h1 h2 => absurd h2 (by have := HUL.out; omega)⟩
  case round =>
    obtain ⟨b, tv, hb, rfl, htv, hV, hD⟩ := hrel
    obtain ⟨wi, rfl⟩ : ∃ wi : World, wi = wr := ⟨_, rfl⟩
    have V3 := Lib.hid hV
    have HD := Lib.hid hD
    have HTV := Lib.hid htv
    clear hV hD htv V2 hwl
    by_cases h0 : b = 0
    · subst h0
      have hneg : ¬ (0 : Int) ≤ ((0 : Nat) : Int) - 1 := by omega
      go_wp2_with fail
      go_ret
      have hN' : N = u.length + 1 := by have := HN.out; have := HUL.out; omega
      refine ⟨gt, N, by rw [← hN']; rfl, fun p hp => ?_, V3.out.below⟩
      obtain ⟨g, a1, a2, a3, a4, a5⟩ := HD.out p (Nat.zero_le _) hp
      have hT := V3.out.ttab_at (k := 0) rfl a4
      exact ⟨gt, 0, g, 0, n, rfl, hT.2.2, a3, by rw [Nat.zero_add]; exact hT.1, fun i c hi hc => by rw [Nat.zero_add]; exact a5 i c hi hc⟩
    · obtain ⟨p, rfl⟩ : ∃ p, b = p + 1 := ⟨b - 1, by omega⟩
      rw [show (((p + 1 : Nat)) : Int) - 1 = (p : Int) by omega]
      have hp0 : (0 : Int) ≤ (p : Int) := by omega
      have hpN : p < N := by have := HN.out; omega
      obtain ⟨v0, hv0⟩ := get_at (L := tv) (k := p) (by rw [HTV.out]; exact hpN)
      have hmk2 := HMK.out
      obtain ⟨gc, hgc⟩ : ∃ z, z = wi.heap.size := ⟨_, rfl⟩
      obtain ⟨w5, hw5⟩ : ∃ z, z = wi.alloc (.cells (List.replicate (n * 3) (.int .i64 0)).toArray 53) := ⟨_, rfl⟩
      have V5 := Lib.hid (show Hp w [trow gc n (fun _ _ => 0), ttab gt N tv, obox g0 nm A n c0] w5 by rw [hw5, hgc]; exact V3.out.made_three n (by omega))
      have B5 : Below wi.heap.size wi w5 := by rw [hw5]; exact bnew _ _
      have D5 := Lib.hid (show RowsD w5 tv gt gc n L u (p + 1) by rw [hgc]; exact HD.out.go B5)
      have hgcl : gc < w5.heap.size := (V5.out.trow_at (k := 0) rfl hn0 (by decide : 0 < 3)).2.2
      have hgtc : gt ≠ gc := by have := (V3.out.ttab_at (k := 0) rfl hv0).2.2; omega
      have HW5 := Lib.hid hw5
      have HGC := Lib.hid hgc
      clear hw5 hgc B5
      obtain ⟨t0, t1, t2⟩ := V5.out.ttab_at (k := 1) rfl hv0
      obtain ⟨z0, z1, z2⟩ := V3.out.obox_at (i := 1) rfl
      have V6 := Lib.hid (show Hp w [trow gc n (fun _ _ => 0), ttab gt N (tv.set p (.slice (some ⟨gc, 0, none⟩) n n)), obox g0 nm A n c0] _ from V5.out.ttab_set (k := 1) rfl p (.slice (some ⟨gc, 0, none⟩) n n))
      have D6 := Lib.hid ((D5.out.put gt p (.slice (some ⟨gc, 0, none⟩) n n) (.inl rfl)).table (tw := tv.set p (.slice (some ⟨gc, 0, none⟩) n n)) (fun q h1 h2 => by
        rw [Pt.set_at (by rw [HTV.out]; exact hpN), if_neg (by omega)]))
      try simp only [List.toArray_replicate] at HW5
      rw [HW5.out] at t0 t1 t2
      go_upto_region 6 with fail
      rw [← HW5.out, ← HGC.out]
      clear t0 t1 t2 z0 z1 z2 hmk2
      obtain ⟨w6, hw6⟩ : ∃ z, z = w5.setCell ⟨gt, p, none⟩ (.slice (some ⟨gc, 0, none⟩) n n) := ⟨_, rfl⟩
      rw [← hw6]
      obtain ⟨tw, htw⟩ : ∃ z, z = tv.set p (.slice (some ⟨gc, 0, none⟩) n n) := ⟨_, rfl⟩
      rw [← hw6, ← htw] at V6 D6
      have HTP := Lib.hid (show tw[p]? = some (.slice (some ⟨gc, 0, none⟩) n n) by rw [htw, Pt.set_at (by rw [HTV.out]; exact hpN), if_pos rfl])
      have HTL := Lib.hid (show tw.length = N by rw [htw, List.length_set]; exact HTV.out)
      clear hw6 htw V5 D5 V3 HD hv0 hgcl
      obtain ⟨z0, z1, z2⟩ := V6.out.obox_at (i := 2) rfl
      have hpu : p ≤ u.length := by have := HUL.out; omega
      have hpl : p < ul := by omega
      go_wp2_with fail
      refine (rstands_any nm L A n c0 s u p _ HSU.out (by have := HUL.out; omega) hpu HL.out (by omega) (fun x hx => by have := (txE_zero (sgE_zero ((vO_zero HV.out).2.2.2 x hx)).1).2.1; omega) (HA.out.below V6.out.below)).mono ?_
      rintro r w7 ⟨C, m, d, rfl, hm, hp7⟩
      have V7 := Lib.hid (show Hp w [nums C m d (dI (stL L (u.drop p))), trow gc n (ptF L u p ((stL L (u.drop p)).take 0) 0 0), ttab gt N tw, obox g0 nm A n c0] w7 from by
        rw [List.take_zero, ptF_start]; exact V6.out.join hp7)
      have D7 := Lib.hid (D6.out.go hp7.below)
      have HM := Lib.hid hm
      have hmn : m ≤ n := by rw [← hm, ← HL.out]; exact stL_len _ _
      clear hm hp7 z0 z1 z2 V6 D6
      go_wp2_with fail
      go_loopw [8] (fun i wr => ∃ k : Nat, k ≤ m ∧ i = .int .i64 (k : Int) ∧ Hp w [nums C m d (dI (stL L (u.drop p))), trow gc n (ptF L u p ((stL L (u.drop p)).take k) 0 0), ttab gt N tw, obox g0 nm A n c0] wr ∧ RowsD wr tw gt gc n L u (p + 1)) (fun i _ => m - (intOf i).toNat)
      case atStart => exact ⟨0, Nat.zero_le _, rfl, V7.out, D7.out⟩
      case round =>
        obtain ⟨k, hk, rfl, hV, hD⟩ := hrel
        obtain ⟨wj, rfl⟩ : ∃ wj : World, wj = wr := ⟨_, rfl⟩
        have V8 := Lib.hid hV
        have D8 := Lib.hid hD
        clear hV hD V7 D7
        by_cases hkm : k < m
        · obtain ⟨j, hj⟩ := get_at (L := stL L (u.drop p)) (k := k) (by have := HM.out; omega)
          have HJ := Lib.hid hj
          have HJM := Lib.hid (List.mem_of_getElem? hj)
          have hjn : j < n := by rw [← HL.out]; exact (stL_mem.1 HJM.out).1
          obtain ⟨x, hx⟩ := get_at (L := L) (k := j) (by rw [HL.out]; exact hjn)
          have HXI := Lib.hid (show sgAt L j = x by have := sgAt_get (L := L) (i := j) (by rw [HL.out]; exact hjn); rw [hx] at this; exact (Option.some.inj this).symm)
          obtain ⟨b, off, Aj, cj, hAe, hbw, b0, b1, b2, b3, c4⟩ := HA.out.at hx
          subst hAe
          have HC4 := Lib.hid c4
          have hbs := Nat.lt_of_lt_of_le hbw V8.out.below.size
          have b0 := (V8.out.below.cell (p := ⟨b, off + j * 4, none⟩) hbw).trans b0
          have b1 := (V8.out.below.cell (p := ⟨b, off + j * 4 + 1, none⟩) hbw).trans b1
          have b2 := (V8.out.below.cell (p := ⟨b, off + j * 4 + 2, none⟩) hbw).trans b2
          have b3 := (V8.out.below.cell (p := ⟨b, off + j * 4 + 3, none⟩) hbw).trans b3
          clear c4
          have HX := Lib.hid hx
          have HSB := Lib.hid (sgn_bd HV.out (i := j) (by rw [HL.out]; exact hjn))
          obtain ⟨bC, oC, hCe, hbC, q0⟩ := (V8.out.cells (i := 0) (it := nums C m d (dI (stL L (u.drop p)))) rfl (A := C) (c := d) rfl).int (L := dI (stL L (u.drop p))) (j := k) (by unfold dI; rw [List.length_map, HM.out]; exact hkm)
          subst hCe
          have hq0 : (dI (stL L (u.drop p))).getD k 0 = (j : Int) := by unfold dI; rw [List.getD_eq_getElem?_getD, List.getElem?_map, HJ.out]; rfl
          rw [hq0] at q0
          have HQ := Lib.hid hq0
          have hj4 : j * 4 ≤ 480 := by omega
          obtain ⟨z0, z1, z2⟩ := V8.out.obox_at (i := 3) rfl
          clear hj hx hq0
          go_upto_region 10 with fail
          go_cut [9] (fun r wx => ∃ gs, r = .pointer (some ⟨gs, 0, none⟩) ∧ Hp w [sgbox gs (Aj, cj) x, nums (some ⟨bC, oC, none⟩) m d (dI (stL L (u.drop p))), trow gc n (ptF L u p ((stL L (u.drop p)).take k) 0 0), ttab gt N tw, obox g0 nm (some ⟨b, off, none⟩) n c0] wx ∧ RowsD wx tw gt gc n L u (p + 1))
          case first =>
            have hKp : Keep [(⟨g0, 1, none⟩, .slice (some ⟨b, off, none⟩) n c0), (⟨bC, oC + k, none⟩, .int .i64 (j : Int)), (⟨b, off + j * 4, none⟩, .string (bs x.t)), (⟨b, off + j * 4 + 1, none⟩, .slice Aj x.s.length cj), (⟨b, off + j * 4 + 2, none⟩, .int .i64 x.c), (⟨b, off + j * 4 + 3, none⟩, .int .i64 x.w)] wj := List.forall_mem_cons.2 ⟨⟨z1, z2⟩, List.forall_mem_cons.2 ⟨⟨q0, hbC⟩, List.forall_mem_cons.2 ⟨⟨b0, hbs⟩, List.forall_mem_cons.2 ⟨⟨b1, hbs⟩, List.forall_mem_cons.2 ⟨⟨b2, hbs⟩, List.forall_mem_cons.2 ⟨⟨b3, hbs⟩, fun _ h => by simp at h⟩⟩⟩⟩⟩⟩
            refine wp_region_held_drew (S := Keep _) (by kernel_rfl) hKp.drew (fun hHeld => ?_)
            obtain ⟨wd, hwd⟩ : ∃ z, z = wj.drew := ⟨_, rfl⟩
            have Vwd := Lib.hid (show Hp w (nums (some ⟨bC, oC, none⟩) m d (dI (stL L (u.drop p))) :: trow gc n (ptF L u p ((stL L (u.drop p)).take k) 0 0) :: ttab gt N tw :: obox g0 nm (some ⟨b, off, none⟩) n c0 :: []) wd by rw [hwd]; exact V8.out.go (bdrew _))
            have Bwd := Lib.hid (show Below wj.heap.size wj wd by rw [hwd]; exact bdrew _)
            rw [← hwd] at hHeld ⊢
            clear hwd hKp
            refine tk 0 ?_ rfl ?_ ?_; rotate_left; focus (intro w hSw; clear hSw; go_simp; try (with_reducible rfl))
            try simp only [Act.put, sA, sZ, sS]
            refine tk 1 ?_ rfl ?_ ?_; rotate_left
            · intro wl hSw
              have hSw : Keep _ wl := hSw
              have k0 := (hSw _ (.head _)).1
              dsimp only at k0
              clear hSw
              go_simp
              try (with_reducible rfl)
            try simp only [Act.put, sA, sZ, sS]
            refine tk 2 ?_ rfl ?_ ?_; rotate_left; focus (intro w hSw; clear hSw; go_simp; try (with_reducible rfl))
            try simp only [Act.put, sA, sZ, sS]
            refine tk 3 ?_ rfl ?_ ?_; rotate_left; focus (intro w hSw; clear hSw; go_simp; try (with_reducible rfl))
            try simp only [Act.put, sA, sZ, sS]
            refine tk 4 ?_ rfl ?_ ?_; rotate_left; focus (intro w hSw; clear hSw; go_simp; try (with_reducible rfl))
            try simp only [Act.put, sA, sZ, sS]
            refine tk 5 ?_ rfl ?_ ?_; rotate_left
            · intro wl hSw
              have hSw : Keep _ wl := hSw
              have k0 := (hSw _ (.tail _ (.head _))).1
              dsimp only at k0
              clear hSw
              go_simp
              try (with_reducible rfl)
            try simp only [Act.put, sA, sZ, sS]
            refine tk 6 ?_ rfl ?_ ?_; rotate_left; focus (intro w hSw; clear hSw; go_simp; try (with_reducible rfl))
            try simp only [Act.put, sA, sZ, sS]
            refine tk 7 ?_ rfl ?_ ?_; rotate_left
            · intro wl hSw
              have hSw : Keep _ wl := hSw
              have k0 := (hSw _ (.tail _ (.tail _ (.head _)))).1
              have k1 := (hSw _ (.tail _ (.tail _ (.tail _ (.head _))))).1
              have k2 := (hSw _ (.tail _ (.tail _ (.tail _ (.tail _ (.head _)))))).1
              have k3 := (hSw _ (.tail _ (.tail _ (.tail _ (.tail _ (.tail _ (.head _))))))).1
              dsimp only at k0 k1 k2 k3
              clear hSw
              go_simp
              try (with_reducible rfl)
            try simp only [Act.put, sA, sZ, sS]
            refine wpAnyH_ready (rs := [8]) (by kernel_rfl) (by simp) ?_
            refine AllReadyH.cons (List.getElem?_toArray.trans rfl) (fun K hK => ?_) AllReadyH.nil
            obtain ⟨w_8, hw_8⟩ : ∃ z, z = wd.alloc (.cells #[.string ⟨#[]⟩, .slice none 0 0, .int .i64 0, .int .i64 0] 64) := ⟨_, rfl⟩
            obtain ⟨g_8, hg_8⟩ : ∃ z, z = wd.heap.size := ⟨_, rfl⟩
            have V_8 := Lib.hid (show Hp w (sgbox g_8 (none, 0) zSg :: nums (some ⟨bC, oC, none⟩) m d (dI (stL L (u.drop p))) :: trow gc n (ptF L u p ((stL L (u.drop p)).take k) 0 0) :: ttab gt N tw :: obox g0 nm (some ⟨b, off, none⟩) n c0 :: []) w_8 by rw [hw_8, hg_8]; exact Vwd.out.sgbox_new none 0 zSg)
            have B_8 := Lib.hid (show Below wd.heap.size wd w_8 by rw [hw_8]; exact bnew _ _)
            have HW_8 := Lib.hid hw_8
            have HG_8 := Lib.hid hg_8
            clear hw_8 hg_8
            go_simp
            try rw [← HW_8.out]
            try rw [← HG_8.out]
            refine hK.out _ _ (hHeld.go B_8.out) (fun hHeld => ?_)
            clear hK K
            try simp only [Act.put, sA, sZ, sS]
            refine wpAnyH_ready (rs := [9]) (by kernel_rfl) (by simp) ?_
            refine AllReadyH.cons (List.getElem?_toArray.trans rfl) (fun K hK => ?_) AllReadyH.nil
            have hlt1 : g0 < g_8 := by rw [HG_8.out]; exact Nat.lt_of_lt_of_le z2 Bwd.out.size
            have hlt2 : bC < g_8 := by rw [HG_8.out]; exact Nat.lt_of_lt_of_le hbC Bwd.out.size
            have hlt3 : b < g_8 := by rw [HG_8.out]; exact Nat.lt_of_lt_of_le hbs Bwd.out.size
            have hgg : gc ≤ g_8 := by rw [HG_8.out]; exact Nat.le_of_lt (Vwd.out.trow_at (k := 1) rfl hn0 (by decide : 0 < 3)).2.2
            obtain ⟨⟨k0, k1, k2, k3⟩, ⟨f0, f1, f2, f3⟩, k4⟩ := V_8.out.sgbox_all (i := 0) rfl
            dsimp only [zSg, List.length_nil] at k0 k1 k2 k3
            have VE := Lib.hid (V_8.out.sgbox_put (i := 0) rfl Aj cj x)
            have DE := Lib.hid ((((((D8.out.go Bwd.out).go B_8.out).put g_8 0 (.string (bs x.t)) (.inr hgg)).put g_8 1 (.slice Aj x.s.length cj) (.inr hgg)).put g_8 2 (.int .i64 x.c) (.inr hgg)).put g_8 3 (.int .i64 x.w) (.inr hgg))
            go_simp
            refine hK.out _ _ (((((hHeld.set _ _ _ (List.forall_mem_cons.2 ⟨Nat.ne_of_lt hlt1, List.forall_mem_cons.2 ⟨Nat.ne_of_lt hlt2, List.forall_mem_cons.2 ⟨Nat.ne_of_lt hlt3, List.forall_mem_cons.2 ⟨Nat.ne_of_lt hlt3, List.forall_mem_cons.2 ⟨Nat.ne_of_lt hlt3, List.forall_mem_cons.2 ⟨Nat.ne_of_lt hlt3, fun _ h => by simp at h⟩⟩⟩⟩⟩⟩)).set _ _ _ (List.forall_mem_cons.2 ⟨Nat.ne_of_lt hlt1, List.forall_mem_cons.2 ⟨Nat.ne_of_lt hlt2, List.forall_mem_cons.2 ⟨Nat.ne_of_lt hlt3, List.forall_mem_cons.2 ⟨Nat.ne_of_lt hlt3, List.forall_mem_cons.2 ⟨Nat.ne_of_lt hlt3, List.forall_mem_cons.2 ⟨Nat.ne_of_lt hlt3, fun _ h => by simp at h⟩⟩⟩⟩⟩⟩)).set _ _ _ (List.forall_mem_cons.2 ⟨Nat.ne_of_lt hlt1, List.forall_mem_cons.2 ⟨Nat.ne_of_lt hlt2, List.forall_mem_cons.2 ⟨Nat.ne_of_lt hlt3, List.forall_mem_cons.2 ⟨Nat.ne_of_lt hlt3, List.forall_mem_cons.2 ⟨Nat.ne_of_lt hlt3, List.forall_mem_cons.2 ⟨Nat.ne_of_lt hlt3, fun _ h => by simp at h⟩⟩⟩⟩⟩⟩)).set _ _ _ (List.forall_mem_cons.2 ⟨Nat.ne_of_lt hlt1, List.forall_mem_cons.2 ⟨Nat.ne_of_lt hlt2, List.forall_mem_cons.2 ⟨Nat.ne_of_lt hlt3, List.forall_mem_cons.2 ⟨Nat.ne_of_lt hlt3, List.forall_mem_cons.2 ⟨Nat.ne_of_lt hlt3, List.forall_mem_cons.2 ⟨Nat.ne_of_lt hlt3, fun _ h => by simp at h⟩⟩⟩⟩⟩⟩))) (fun hHeld => ?_)
            clear hK K
            try simp only [Act.put, sA, sZ, sS]
            refine wpAnyH_done (by kernel_rfl) ?_ _
            clear hHeld
            go_wp2_with fail
            go_meet
            exact ⟨_, rfl, VE.out, DE.out⟩
          case rest =>
          obtain ⟨gs, rfl, hV, hD⟩ := hcut
          have V9 := Lib.hid (show Hp w [sgbox gs (Aj, cj) x, nums (some ⟨bC, oC, none⟩) m d (dI (stL L (u.drop p))), trow gc n (ptF L u p ((stL L (u.drop p)).take k) j 0), ttab gt N tw, obox g0 nm (some ⟨b, off, none⟩) n c0] wc from by
            rw [show trow gc n (ptF L u p ((stL L (u.drop p)).take k) j 0) = trow gc n (ptF L u p ((stL L (u.drop p)).take k) 0 0) from trow_congr (fun i c _ _ => by unfold ptF; simp)]
            exact hV)
          have D9 := Lib.hid hD
          clear hV hD V8 D8 b0 b1 b2 b3 q0 z0 z1 z2
          obtain ⟨tl, htl⟩ : ∃ tl, tl = x.t.length := ⟨_, rfl⟩
          have htz : (bs x.t).size = tl := by rw [bs_size, htl]
          have hsb := HSB.out
          rw [HXI.out, ← htl] at hsb
          obtain ⟨nx, hnx⟩ : ∃ nx, nx = p + tl := ⟨_, rfl⟩
          have hnxw : IntKind.i64.wrap ((p : Int) + (tl : Int)) = (nx : Int) := by rw [IntWalk.i64_in _ (by omega)]; omega
          have HNX := Lib.hid (show nx = p + (sgAt L j).t.length by rw [hnx, htl, HXI.out])
          have hnxp : p + 1 ≤ nx := by omega
          have hnxb : nx ≤ 2000 := by omega
          obtain ⟨y0, y1, y2, y3, y4⟩ := V9.out.sgbox_at (i := 0) rfl
          have HXS := Lib.hid (show 0 < x.s.length ∧ x.s.length ≤ 1000 from by have := HSB.out; rw [HXI.out] at this; omega)
          have HKD := Lib.hid (show k < (dI (stL L (u.drop p))).length by unfold dI; rw [List.length_map, HM.out]; exact hkm)
          clear htl hnx hsb
          go_upto_region 12 with fail
          clear htz hnxw y0 y1 y2 y3 y4
          go_wp2_with fail
          go_loopw [11] (fun i wr => ∃ c : Nat, c ≤ 3 ∧ i = .int .i64 (c : Int) ∧ Hp w [sgbox gs (Aj, cj) x, nums (some ⟨bC, oC, none⟩) m d (dI (stL L (u.drop p))), trow gc n (ptF L u p ((stL L (u.drop p)).take k) j c), ttab gt N tw, obox g0 nm (some ⟨b, off, none⟩) n c0] wr ∧ RowsD wr tw gt gc n L u (p + 1)) (fun i _ => 3 - (intOf i).toNat)
          case atStart => exact ⟨0, by decide, rfl, V9.out, D9.out⟩
          case round =>
            obtain ⟨c, hc, rfl, hV, hD⟩ := hrel
            obtain ⟨wk, rfl⟩ : ∃ wk : World, wk = wr := ⟨_, rfl⟩
            have VA := Lib.hid hV
            have DA := Lib.hid hD
            clear hV hD V9 D9
            by_cases hc3 : c < 3
            · have hc3i : (c : Int) < 3 := by omega
              obtain ⟨y0, y1, y2, y3, y4⟩ := VA.out.sgbox_at (i := 0) rfl
              obtain ⟨z0, z1, z2⟩ := VA.out.obox_at (i := 4) rfl
              obtain ⟨t0, t1, t2⟩ := VA.out.ttab_at (k := 3) rfl HTP.out
              have q0 := ((VA.out.cells (i := 1) (it := nums (some ⟨bC, oC, none⟩) m d (dI (stL L (u.drop p)))) rfl (A := some ⟨bC, oC, none⟩) (c := d) rfl).nat HQ.out (by unfold dI; rw [List.length_map, HM.out]; exact hkm))
              have HAL := Lib.hid (show (ahB c).length ≤ 1 from by match c, hc3 with | 0, _ => exact (by decide) | 1, _ => exact (by decide) | 2, _ => exact (by decide))
              have GO := Lib.hid (show ∀ (w' : World) (hb : Below w.heap.size w w') (Bh : Option Addr) (eh : Nat) (hB : CellsIn w' Bh (sndsC (ahB c))) (hrow : nx < u.length → RowAt w' (some ⟨gt, 0, none⟩) nx n (tbN L u nx)), Calls Tryz.prog 45 #[.agg #[.string (bs nm), .slice (some ⟨b, off, none⟩) n c0], .string s, .slice (some ⟨gt, 0, none⟩) N N, .int .i64 (j : Int), .int .i64 (nx : Int), .slice Bh (ahB c).length eh, .int .i64 (clsB x.s : Nat)] w' fun r w'' => r = .returned (.int .i64 (tbN L u p j c : Nat)) ∧ Below w'.heap.size w' w'' from fun w' hb Bh eh hB hrow => by
                have := rgoes_any nm L (some ⟨b, off, none⟩) n c0 u (some ⟨gt, 0, none⟩) N N j p nx (ahB c) Bh (ahB c).length eh w' HV.out HL.out (HA.out.below hb) (by have := HUL.out; omega) HJM.out hpu HNX.out (by have := HUL.out; have := HN.out; omega) rfl (by have := HAL.out; omega) hB hrow
                rw [tbN_here HJM.out, HXI.out] at this
                rw [HSU.out]
                exact this)
              have hjni : (j : Int) < (n : Int) := by omega
              have hj3 : j * 3 ≤ 360 := by omega
              go_upto_region 15 with fail
              have hKp : Keep [(⟨gt, p, none⟩, .slice (some ⟨gc, 0, none⟩) n n), (⟨bC, oC + k, none⟩, .int .i64 (j : Int)), (⟨g0, 0, none⟩, .string (bs nm)), (⟨g0, 1, none⟩, .slice (some ⟨b, off, none⟩) n c0), (⟨gs, 1, none⟩, .slice Aj x.s.length cj)] wk := List.forall_mem_cons.2 ⟨⟨(VA.out.ttab_at (k := 3) rfl HTP.out).1, (VA.out.ttab_at (k := 3) rfl HTP.out).2.2⟩, List.forall_mem_cons.2 ⟨⟨((VA.out.cells (i := 1) (it := nums (some ⟨bC, oC, none⟩) m d (dI (stL L (u.drop p)))) rfl (A := some ⟨bC, oC, none⟩) (c := d) rfl).nat HQ.out HKD.out).1, ((VA.out.cells (i := 1) (it := nums (some ⟨bC, oC, none⟩) m d (dI (stL L (u.drop p)))) rfl (A := some ⟨bC, oC, none⟩) (c := d) rfl).nat HQ.out HKD.out).2⟩, List.forall_mem_cons.2 ⟨⟨(VA.out.obox_at (i := 4) rfl).1, (VA.out.obox_at (i := 4) rfl).2.2⟩, List.forall_mem_cons.2 ⟨⟨(VA.out.obox_at (i := 4) rfl).2.1, (VA.out.obox_at (i := 4) rfl).2.2⟩, List.forall_mem_cons.2 ⟨⟨(VA.out.sgbox_at (i := 0) rfl).2.1, (VA.out.sgbox_at (i := 0) rfl).2.2.2.2⟩, fun _ h => by simp at h⟩⟩⟩⟩⟩
              refine wp_region_held_drew (S := Keep _) (by kernel_rfl) hKp.drew (fun hHeld => ?_)
              obtain ⟨wd, hwd⟩ : ∃ z, z = wk.drew := ⟨_, rfl⟩
              have Vwd := Lib.hid (show Hp w (sgbox gs (Aj, cj) x :: nums (some ⟨bC, oC, none⟩) m d (dI (stL L (u.drop p))) :: trow gc n (ptF L u p ((stL L (u.drop p)).take k) j c) :: ttab gt N tw :: obox g0 nm (some ⟨b, off, none⟩) n c0 :: []) wd by rw [hwd]; exact VA.out.go (bdrew _))
              have Bwd := Lib.hid (show Below wk.heap.size wk wd by rw [hwd]; exact bdrew _)
              rw [← hwd] at hHeld ⊢
              clear hwd hKp
              refine tk 0 ?_ rfl ?_ ?_; rotate_left; focus (intro w hSw; clear hSw; go_simp; try (with_reducible rfl))
              try simp only [Act.put, sA, sZ, sS]
              refine tk 1 ?_ rfl ?_ ?_; rotate_left; focus (intro w hSw; clear hSw; go_simp; try (with_reducible rfl))
              try simp only [Act.put, sA, sZ, sS]
              refine tk 2 ?_ rfl ?_ ?_; rotate_left; focus (intro w hSw; clear hSw; go_simp; try (with_reducible rfl))
              try simp only [Act.put, sA, sZ, sS]
              refine tk 3 ?_ rfl ?_ ?_; rotate_left
              · intro wl hSw
                have hSw : Keep _ wl := hSw
                have k0 := (hSw _ (.head _)).1
                dsimp only at k0
                clear hSw
                go_simp
                try (with_reducible rfl)
              try simp only [Act.put, sA, sZ, sS]
              refine tk 4 ?_ rfl ?_ ?_; rotate_left; focus (intro w hSw; clear hSw; go_simp; try (with_reducible rfl))
              try simp only [Act.put, sA, sZ, sS]
              refine tk 5 ?_ rfl ?_ ?_; rotate_left; focus (intro w hSw; clear hSw; go_simp; try (with_reducible rfl))
              try simp only [Act.put, sA, sZ, sS]
              refine tk 6 ?_ rfl ?_ ?_; rotate_left; focus (intro w hSw; clear hSw; go_simp; try (with_reducible rfl))
              try simp only [Act.put, sA, sZ, sS]
              refine tk 7 ?_ rfl ?_ ?_; rotate_left
              · intro wl hSw
                have hSw : Keep _ wl := hSw
                have k0 := (hSw _ (.tail _ (.head _))).1
                dsimp only at k0
                clear hSw
                go_simp
                try (with_reducible rfl)
              try simp only [Act.put, sA, sZ, sS]
              refine tk 8 ?_ rfl ?_ ?_; rotate_left; focus (intro w hSw; clear hSw; go_simp; try (with_reducible rfl))
              try simp only [Act.put, sA, sZ, sS]
              refine tk 9 ?_ rfl ?_ ?_; rotate_left
              · intro wl hSw
                have hSw : Keep _ wl := hSw
                have k0 := (hSw _ (.tail _ (.tail _ (.head _)))).1
                have k1 := (hSw _ (.tail _ (.tail _ (.tail _ (.head _))))).1
                dsimp only at k0 k1
                clear hSw
                go_simp
                try (with_reducible rfl)
              try simp only [Act.put, sA, sZ, sS]
              refine tk 10 ?_ rfl ?_ ?_; rotate_left; focus (intro w hSw; clear hSw; go_simp; try (with_reducible rfl))
              try simp only [Act.put, sA, sZ, sS]
              refine tk 11 ?_ rfl ?_ ?_; rotate_left; focus (intro w hSw; clear hSw; go_simp; try (with_reducible rfl))
              try simp only [Act.put, sA, sZ, sS]
              refine tk 12 ?_ rfl ?_ ?_; rotate_left; focus (intro w hSw; clear hSw; go_simp; try (with_reducible rfl))
              try simp only [Act.put, sA, sZ, sS]
              refine tk 13 ?_ rfl ?_ ?_; rotate_left; focus (intro w hSw; clear hSw; go_simp; try (with_reducible rfl))
              try simp only [Act.put, sA, sZ, sS]
              refine tk 14 ?_ rfl ?_ ?_; rotate_left; focus (intro w hSw; clear hSw; go_simp; try (with_reducible rfl))
              try simp only [Act.put, sA, sZ, sS]
              refine tk 15 ?_ rfl ?_ ?_; rotate_left
              · intro wl hSw
                have hSw : Keep _ wl := hSw
                have k0 := (hSw _ (.tail _ (.head _))).1
                dsimp only at k0
                clear hSw
                go_simp
                try (with_reducible rfl)
              try simp only [Act.put, sA, sZ, sS]
              refine tk 16 ?_ rfl ?_ ?_; rotate_left; focus (intro w hSw; clear hSw; go_simp; try (with_reducible rfl))
              try simp only [Act.put, sA, sZ, sS]
              refine tk 18 ?_ rfl ?_ ?_; rotate_left; focus (intro w hSw; clear hSw; go_simp; try (with_reducible rfl))
              try simp only [Act.put, sA, sZ, sS]
              refine tk 21 ?_ rfl ?_ ?_; rotate_left; focus (intro w hSw; clear hSw; go_simp; try (with_reducible rfl))
              try simp only [Act.put, sA, sZ, sS]
              refine tk 22 ?_ rfl ?_ ?_; rotate_left
              · intro wl hSw
                have hSw : Keep _ wl := hSw
                have k0 := (hSw _ (.tail _ (.tail _ (.tail _ (.tail _ (.head _)))))).1
                dsimp only at k0
                clear hSw
                go_simp
                try (with_reducible rfl)
              try simp only [Act.put, sA, sZ, sS]
              refine tk 25 ?_ rfl ?_ ?_; rotate_left; focus (intro w hSw; clear hSw; go_simp; try (with_reducible rfl))
              try simp only [Act.put, sA, sZ, sS]
              refine wpAnyH_ready (rs := [17]) (by kernel_rfl) (by simp) ?_
              refine AllReadyH.cons (List.getElem?_toArray.trans rfl) (fun K hK => ?_) AllReadyH.nil
              go_simp
              refine (rahead_any _).mono ?_
              rintro r w_17 ⟨ga, rfl, hga, hah, hba⟩
              have V_17 := Lib.hid (Vwd.out.go hba)
              have DB_17 := Lib.hid ((DA.out.go Bwd.out).go hba)
              obtain ⟨Bh, eh, hB0, hB1⟩ := hah c hc3
              have HB1 := Lib.hid hB1
              have HH0 := Lib.hid hB0
              clear hah hB0 hB1
              try go_wp2_with fail
              refine hK.out _ _ (hHeld.go hba) (fun hHeld => ?_)
              clear hK K
              try simp only [Act.put, sA, sZ, sS]
              refine tk 19 ?_ rfl ?_ ?_; rotate_left; focus (intro w hSw; clear hSw; go_simp; try (with_reducible rfl))
              try simp only [Act.put, sA, sZ, sS]
              refine wpAnyH_ready (rs := [20, 23]) (by kernel_rfl) (by simp) ?_
              refine AllReadyH.cons (List.getElem?_toArray.trans rfl) (fun K hK => ?_) ?_
              · have yL := HH0.out
                go_simp
                clear yL
                refine hK.out _ _ (hHeld) (fun hHeld => ?_)
                clear hK K
                try simp only [Act.put, sA, sZ, sS]
                refine wpAnyH_ready (rs := [23]) (by kernel_rfl) (by simp) ?_
                refine AllReadyH.cons (List.getElem?_toArray.trans rfl) (fun K hK => ?_) AllReadyH.nil
                go_simp
                refine (rclass_any x.s Aj x.s.length cj _ rfl (by have := HXS.out; omega) (by have := HXS.out; omega) (HC4.out.below V_17.out.below)).mono ?_
                rintro r w_17_20_23 ⟨rfl, hbc⟩
                have V_17_20_23 := Lib.hid (V_17.out.go hbc)
                have D_17_20_23 := Lib.hid (DB_17.out.go hbc)
                have HB2_17_20_23 := Lib.hid (HB1.out.below hbc)
                have HH2_17_20_23 := Lib.hid ((hbc.cell (p := ⟨ga, c, none⟩) hga).trans HH0.out)
                try go_wp2_with fail
                refine hK.out _ _ (hHeld.go hbc) (fun hHeld => ?_)
                clear hK K
                try simp only [Act.put, sA, sZ, sS]
                refine wpAnyH_ready (rs := [24]) (by kernel_rfl) (by simp) ?_
                refine AllReadyH.cons (List.getElem?_toArray.trans rfl) (fun K hK => ?_) AllReadyH.nil
                go_simp
                refine (GO.out _ V_17_20_23.out.below Bh eh HB2_17_20_23.out (fun hlt => by
                  obtain ⟨g, a1, a2, a3, a4, a5⟩ := D_17_20_23.out nx hnxp hlt
                  have hT := V_17_20_23.out.ttab_at (k := 3) rfl a4
                  exact ⟨gt, 0, g, 0, n, rfl, hT.2.2, a3, by rw [Nat.zero_add]; exact hT.1, fun i c hi hc => by rw [Nat.zero_add]; exact a5 i c hi hc⟩)).mono ?_
                rintro r w_17_20_23_24 ⟨rfl, hbd⟩
                have V_17_20_23_24 := Lib.hid (V_17_20_23.out.go hbd)
                have D_17_20_23_24 := Lib.hid (D_17_20_23.out.go hbd)
                try go_wp2_with fail
                refine hK.out _ _ (hHeld.go hbd) (fun hHeld => ?_)
                clear hK K
                try simp only [Act.put, sA, sZ, sS]
                refine tk 26 ?_ rfl ?_ ?_; rotate_left; focus (intro w hSw; clear hSw; go_simp; try (with_reducible rfl))
                try simp only [Act.put, sA, sZ, sS]
                refine wpAnyH_ready (rs := [27]) (by kernel_rfl) (by simp) ?_
                refine AllReadyH.cons (List.getElem?_toArray.trans rfl) (fun K hK => ?_) AllReadyH.nil
                obtain ⟨s0, s1, s2⟩ := V_17_20_23_24.out.trow_at (k := 2) rfl hjn hc3
                have VX := Lib.hid (V_17_20_23_24.out.trow_set (k := 2) rfl hjn hc3 (tbN L u p j c))
                have DX := Lib.hid (D_17_20_23_24.out.put gc (j * 3 + c) (.int .i64 (tbN L u p j c : Nat)) (.inr (Nat.le_refl _)))
                go_simp
                clear s0 s1 s2
                refine hK.out _ _ (List.forall_mem_cons.2 ⟨⟨(VX.out.ttab_at (k := 3) rfl HTP.out).1, (VX.out.ttab_at (k := 3) rfl HTP.out).2.2⟩, List.forall_mem_cons.2 ⟨⟨((VX.out.cells (i := 1) (it := nums (some ⟨bC, oC, none⟩) m d (dI (stL L (u.drop p)))) rfl (A := some ⟨bC, oC, none⟩) (c := d) rfl).nat HQ.out HKD.out).1, ((VX.out.cells (i := 1) (it := nums (some ⟨bC, oC, none⟩) m d (dI (stL L (u.drop p)))) rfl (A := some ⟨bC, oC, none⟩) (c := d) rfl).nat HQ.out HKD.out).2⟩, List.forall_mem_cons.2 ⟨⟨(VX.out.obox_at (i := 4) rfl).1, (VX.out.obox_at (i := 4) rfl).2.2⟩, List.forall_mem_cons.2 ⟨⟨(VX.out.obox_at (i := 4) rfl).2.1, (VX.out.obox_at (i := 4) rfl).2.2⟩, List.forall_mem_cons.2 ⟨⟨(VX.out.sgbox_at (i := 0) rfl).2.1, (VX.out.sgbox_at (i := 0) rfl).2.2.2.2⟩, fun _ h => by simp at h⟩⟩⟩⟩⟩) (fun hHeld => ?_)
                clear hK K
                try simp only [Act.put, sA, sZ, sS]
                refine wpAnyH_done (by kernel_rfl) ?_ _
                have VE := Lib.hid (show Hp w [sgbox gs (Aj, cj) x, nums (some ⟨bC, oC, none⟩) m d (dI (stL L (u.drop p))), trow gc n (ptF L u p ((stL L (u.drop p)).take k) j (c + 1)), ttab gt N tw, obox g0 nm (some ⟨b, off, none⟩) n c0] _ from by
                  rw [← show trow gc n (up3 (ptF L u p ((stL L (u.drop p)).take k) j c) j c (tbN L u p j c)) = trow gc n (ptF L u p ((stL L (u.drop p)).take k) j (c + 1)) from trow_congr (fun i2 c2 _ _ => ptF_step L u p _ j c i2 c2)]
                  exact VX.out)
                clear hHeld
                go_wp2_with fail
                go_roundw
                case rel => exact ⟨c + 1, by omega, by go_num, VE.out, DX.out⟩
                case measure => simp [intOf]; omega
              refine AllReadyH.cons (List.getElem?_toArray.trans rfl) (fun K hK => ?_) ?_
              · go_simp
                refine (rclass_any x.s Aj x.s.length cj _ rfl (by have := HXS.out; omega) (by have := HXS.out; omega) (HC4.out.below V_17.out.below)).mono ?_
                rintro r w_17_23 ⟨rfl, hbc⟩
                have V_17_23 := Lib.hid (V_17.out.go hbc)
                have D_17_23 := Lib.hid (DB_17.out.go hbc)
                have HB2_17_23 := Lib.hid (HB1.out.below hbc)
                have HH2_17_23 := Lib.hid ((hbc.cell (p := ⟨ga, c, none⟩) hga).trans HH0.out)
                try go_wp2_with fail
                refine hK.out _ _ (hHeld.go hbc) (fun hHeld => ?_)
                clear hK K
                try simp only [Act.put, sA, sZ, sS]
                refine wpAnyH_ready (rs := [20]) (by kernel_rfl) (by simp) ?_
                refine AllReadyH.cons (List.getElem?_toArray.trans rfl) (fun K hK => ?_) AllReadyH.nil
                have yL := HH2_17_23.out
                go_simp
                clear yL
                refine hK.out _ _ (hHeld) (fun hHeld => ?_)
                clear hK K
                try simp only [Act.put, sA, sZ, sS]
                refine wpAnyH_ready (rs := [24]) (by kernel_rfl) (by simp) ?_
                refine AllReadyH.cons (List.getElem?_toArray.trans rfl) (fun K hK => ?_) AllReadyH.nil
                go_simp
                refine (GO.out _ V_17_23.out.below Bh eh HB2_17_23.out (fun hlt => by
                  obtain ⟨g, a1, a2, a3, a4, a5⟩ := D_17_23.out nx hnxp hlt
                  have hT := V_17_23.out.ttab_at (k := 3) rfl a4
                  exact ⟨gt, 0, g, 0, n, rfl, hT.2.2, a3, by rw [Nat.zero_add]; exact hT.1, fun i c hi hc => by rw [Nat.zero_add]; exact a5 i c hi hc⟩)).mono ?_
                rintro r w_17_23_20_24 ⟨rfl, hbd⟩
                have V_17_23_20_24 := Lib.hid (V_17_23.out.go hbd)
                have D_17_23_20_24 := Lib.hid (D_17_23.out.go hbd)
                try go_wp2_with fail
                refine hK.out _ _ (hHeld.go hbd) (fun hHeld => ?_)
                clear hK K
                try simp only [Act.put, sA, sZ, sS]
                refine tk 26 ?_ rfl ?_ ?_; rotate_left; focus (intro w hSw; clear hSw; go_simp; try (with_reducible rfl))
                try simp only [Act.put, sA, sZ, sS]
                refine wpAnyH_ready (rs := [27]) (by kernel_rfl) (by simp) ?_
                refine AllReadyH.cons (List.getElem?_toArray.trans rfl) (fun K hK => ?_) AllReadyH.nil
                obtain ⟨s0, s1, s2⟩ := V_17_23_20_24.out.trow_at (k := 2) rfl hjn hc3
                have VX := Lib.hid (V_17_23_20_24.out.trow_set (k := 2) rfl hjn hc3 (tbN L u p j c))
                have DX := Lib.hid (D_17_23_20_24.out.put gc (j * 3 + c) (.int .i64 (tbN L u p j c : Nat)) (.inr (Nat.le_refl _)))
                go_simp
                clear s0 s1 s2
                refine hK.out _ _ (List.forall_mem_cons.2 ⟨⟨(VX.out.ttab_at (k := 3) rfl HTP.out).1, (VX.out.ttab_at (k := 3) rfl HTP.out).2.2⟩, List.forall_mem_cons.2 ⟨⟨((VX.out.cells (i := 1) (it := nums (some ⟨bC, oC, none⟩) m d (dI (stL L (u.drop p)))) rfl (A := some ⟨bC, oC, none⟩) (c := d) rfl).nat HQ.out HKD.out).1, ((VX.out.cells (i := 1) (it := nums (some ⟨bC, oC, none⟩) m d (dI (stL L (u.drop p)))) rfl (A := some ⟨bC, oC, none⟩) (c := d) rfl).nat HQ.out HKD.out).2⟩, List.forall_mem_cons.2 ⟨⟨(VX.out.obox_at (i := 4) rfl).1, (VX.out.obox_at (i := 4) rfl).2.2⟩, List.forall_mem_cons.2 ⟨⟨(VX.out.obox_at (i := 4) rfl).2.1, (VX.out.obox_at (i := 4) rfl).2.2⟩, List.forall_mem_cons.2 ⟨⟨(VX.out.sgbox_at (i := 0) rfl).2.1, (VX.out.sgbox_at (i := 0) rfl).2.2.2.2⟩, fun _ h => by simp at h⟩⟩⟩⟩⟩) (fun hHeld => ?_)
                clear hK K
                try simp only [Act.put, sA, sZ, sS]
                refine wpAnyH_done (by kernel_rfl) ?_ _
                have VE := Lib.hid (show Hp w [sgbox gs (Aj, cj) x, nums (some ⟨bC, oC, none⟩) m d (dI (stL L (u.drop p))), trow gc n (ptF L u p ((stL L (u.drop p)).take k) j (c + 1)), ttab gt N tw, obox g0 nm (some ⟨b, off, none⟩) n c0] _ from by
                  rw [← show trow gc n (up3 (ptF L u p ((stL L (u.drop p)).take k) j c) j c (tbN L u p j c)) = trow gc n (ptF L u p ((stL L (u.drop p)).take k) j (c + 1)) from trow_congr (fun i2 c2 _ _ => ptF_step L u p _ j c i2 c2)]
                  exact VX.out)
                clear hHeld
                go_wp2_with fail
                go_roundw
                case rel => exact ⟨c + 1, by omega, by go_num, VE.out, DX.out⟩
                case measure => simp [intOf]; omega
              exact AllReadyH.nil
            · obtain rfl : c = 3 := by omega
              have hc3i : ¬ ((3 : Nat) : Int) < 3 := by omega
              have HS := Lib.hid (show (stL L (u.drop p)).take (k + 1) = (stL L (u.drop p)).take k ++ [j] from take_snoc HJ.out)
              have VB := Lib.hid (show Hp w [nums (some ⟨bC, oC, none⟩) m d (dI (stL L (u.drop p))), trow gc n (ptF L u p ((stL L (u.drop p)).take (k + 1)) 0 0), ttab gt N tw, obox g0 nm (some ⟨b, off, none⟩) n c0] wk from by
                rw [HS.out, show trow gc n (ptF L u p ((stL L (u.drop p)).take k ++ [j]) 0 0) = trow gc n (ptF L u p ((stL L (u.drop p)).take k) j 3) from trow_congr (fun i c _ hc => (ptF_next L u p _ j 0 hc i).symm)]
                exact VA.out.tail)
              go_wp2_with fail
              go_roundw
              case rel => exact ⟨k + 1, by omega, by go_num, VB.out, DA.out⟩
              case measure => simp [intOf]; omega
        · have hkm2 : ¬ (k : Int) < (m : Int) := by omega
          obtain rfl : k = m := by omega
          rw [take_all HM.out] at V8
          go_wp2_with fail
          go_roundw
          case rel =>
            refine ⟨p, tw, by omega, by first | rfl | go_num, HTL.out, V8.out.pick [2, 3] (by decide) rfl, fun q h1 h2 => ?_⟩
            by_cases hq : q = p
            · subst hq
              exact ⟨gc, fun e => hgtc e.symm, (V8.out.trow_at (k := 1) rfl hn0 (by decide : 0 < 3)).2.2, (V8.out.trow_at (k := 1) rfl hn0 (by decide : 0 < 3)).2.2, HTP.out, fun i c hi hc => by rw [← ptF_end L u q 0 i c]; exact (V8.out.trow_at (k := 1) rfl hi hc).1⟩
            · obtain ⟨g, a1, a2, a3, a4, a5⟩ := D8.out q (by omega) h2
              exact ⟨g, a1, a3, a3, a4, a5⟩
          case measure => simp [intOf]
end Go.Proofs.YtjamfcihjendiaaGreat
