/- Contracts of Core of both sides; walk of ClusterCore. -/
import Derived.Test.YthcdbhancfpldaaLk
namespace Go.Proofs.Ythcdbhancfpldaa
open Go.RowKit
set_option linter.unusedVariables false
set_option linter.unusedSimpArgs false
set_option maxRecDepth 100000

theorem CellsIn.iat {w : World} {b off k : Nat} {L : List Int} {z : Int} (h : CellsIn w (some ⟨b, off, none⟩) (ints L)) (hk : k < L.length) (hz : L.getD k 0 = z) : w.cell? ⟨b, off + k, none⟩ = some (.int .i64 z) ∧ b < w.heap.size := by
  obtain ⟨b2, o2, e, hb, hc⟩ := h.int (j := k) hk
  injection e with e
  injection e with e1 e2
  subst e1 e2
  rw [hz] at hc
  exact ⟨hc, hb⟩
theorem CellsIn.sat {w : World} {b off k : Nat} {L : List Snd} {x : Snd} (h : CellsIn w (some ⟨b, off, none⟩) (sndsC L)) (hx : L[k]? = some x) : (w.cell? ⟨b, off + k * 3, none⟩ = some (.int .i64 x.k) ∧ w.cell? ⟨b, off + k * 3 + 1, none⟩ = some (.int .i64 x.q) ∧ w.cell? ⟨b, off + k * 3 + 2, none⟩ = some (.string (bs x.t))) ∧ b < w.heap.size := by
  obtain ⟨b2, o2, e, hb, c0, c1, c2⟩ := h.snd hx
  injection e with e
  injection e with e1 e2
  subst e1 e2
  exact ⟨⟨c0, c1, c2⟩, hb⟩
def crR (C : Clu) : List Snd := if vC C = 0 then coS C.s else []
def CrPost (C : Clu) (w : World) (e : Ending) (w' : World) : Prop := ∃ Q q f, e = .returned (.tuple #[.slice Q q f, .int .i64 (vC C)]) ∧ (crR C).length = q ∧ CellsIn w' Q (sndsC (crR C)) ∧ Below w.heap.size w w'
theorem coS_le (L : List Snd) : (coS L).length ≤ L.length := List.length_filter_le _ _
theorem core_place {L : List Snd} {k q : Nat} (hq : q = (cpI L).length) (h : k < q) : ∃ (x : Snd) (p : Nat), (coS L)[k]? = some x ∧ (cpI L).getD k 0 = (p : Int) ∧ p < L.length ∧ L[p]? = some x := by
  obtain ⟨x, hx⟩ := get_at (L := coS L) (k := k) (by rw [← cpI_len, ← hq]; exact h)
  obtain ⟨p, h1, h2, h3, h4⟩ := cAt_is hx
  exact ⟨x, p, hx, h2, h3, h4⟩
set_option maxHeartbeats 8000000 in
theorem ccore_any (C : Clu) (A : Option Addr) (n c : Nat) (B : Option Addr) (m d : Nat) (w : World) (hC : CIn w A n B m C) :
    Calls Try.prog 20 #[.agg #[.slice A n c, .slice B m d]] w (CrPost C w) := by
  have HC := Lib.hid hC
  have hn := hC.hn
  have V1 := Lib.hid ((Hp.start w).cbox_new A n c B m d)
  obtain ⟨b0, b1, bg⟩ := V1.out.cbox_at (i := 0) rfl
  clear hC
  go_enter Try.func20, Try.ntmps20
  go_wp2_with fail
  refine (cvalid_any C A n c B m d _ (HC.out.below V1.out.below)).mono ?_
  rintro e w1 ⟨rfl, hb1⟩
  have V2 := Lib.hid (V1.out.go hb1)
  clear hb1 b0 b1 bg
  obtain ⟨b0, b1, bg⟩ := V2.out.cbox_at (i := 0) rfl
  obtain ⟨v, hv⟩ : ∃ v, vC C = v := ⟨_, rfl⟩
  have HV := Lib.hid hv
  rw [hv]
  clear hv
  by_cases h0 : v = 0
  · subst h0
    have HR := Lib.hid (show crR C = coS C.s by unfold crR; rw [if_pos HV.out])
    go_wp2_with fail
    refine (places_any C.s n c A _ HC.out.ls hn (HC.out.cs.below V2.out.below)).mono ?_
    rintro e w2 ⟨D, q, f, rfl, hq, hp2⟩
    have V3 := Lib.hid (V2.out.join hp2)
    have HQ := Lib.hid hq
    have hqn : q ≤ n := by rw [hq, cpI_len, ← HC.out.ls]; exact coS_le _
    clear hp2 hq b0 b1 bg
    obtain ⟨b0, b1, bg⟩ := V3.out.cbox_at (i := 1) rfl
    go_wp2_with fail
    go_loopw [5, 17] (fun v i wr => ∃ (k g : Nat) (Q : Option Addr), k ≤ q ∧ i = .int .i64 k ∧ v = .slice Q k g ∧ Hp w [snds Q k g ((coS C.s).take k), nums D q f (cpI C.s), cbox w.heap.size A n c B m d] wr) (fun _ i _ => q - (intOf i).toNat)
    case atStart => exact ⟨0, 0, none, Nat.zero_le _, rfl, rfl, V3.out.nil_row _ rfl rfl rfl⟩
    case round =>
      clear V3 b0 b1 bg
      obtain ⟨k, g, Q, hk, rfl, rfl, V0⟩ := hrel
      have V := Lib.hid V0
      clear V0
      obtain ⟨b0, b1, bg⟩ := V.out.cbox_at (i := 2) rfl
      by_cases hlt : k < q
      · obtain ⟨x, p, hx, hp, hpn, hxp⟩ := core_place HQ.out hlt
        obtain ⟨bd, od, hDe, hbd, d0⟩ := (V.out.cells (i := 1) (A := D) (c := f) rfl rfl).int (L := cpI C.s) (j := k) (by rw [← HQ.out]; exact hlt)
        rw [hp] at d0
        obtain ⟨bs1, os1, rfl, hbs, x0, x1, x2⟩ := (HC.out.cs.below V.out.below).snd hxp
        subst hDe
        have HS := Lib.hid (show (coS C.s).take (k + 1) = (coS C.s).take k ++ [x] from take_snoc hx)
        rw [HC.out.ls] at hpn
        have HPK := Lib.hid hp
        have HXP := Lib.hid hxp
        have HKQ := Lib.hid (show k < (cpI C.s).length by rw [← HQ.out]; exact hlt)
        clear hx hp hxp
        obtain ⟨wy, hwy⟩ : ∃ z, z = wr.alloc (.cells #[.int .i64 x.k, .int .i64 x.q, .string (bs x.t)] 51) := ⟨_, rfl⟩
        have V5 := Lib.hid (show Hp w (sbox wr.heap.size x :: [snds Q k g ((coS C.s).take k), nums (some ⟨bd, od, none⟩) q f (cpI C.s), cbox w.heap.size (some ⟨bs1, os1, none⟩) n c B m d]) wy by rw [hwy]; exact V.out.sbox_new x)
        obtain ⟨g5, cap5, w5, hr5, hv5, _⟩ := run_app_snd V5.out (i := 1) rfl 22 x (fun j u hu => (V5.out.box_at (i := 0) (cs := sndC x) rfl hu).1) (by omega)
        have V6 := Lib.hid (show Hp w [snds (some ⟨g5, 0, none⟩) (k + 1) cap5 ((coS C.s).take k ++ [x]), nums (some ⟨bd, od, none⟩) q f (cpI C.s), cbox w.heap.size (some ⟨bs1, os1, none⟩) n c B m d] w5 from hv5.tail)
        rw [← HS.out] at V6
        have HY := Lib.hid hwy
        have HR5 := Lib.hid hr5
        clear hwy hv5 hr5
        go_wp2_with (at_builtin; rw [← HY.out]; refine wpList_app_run rfl (.tmp 21) (.tmp 27) 22 rfl HR5.out rfl rfl ?_)
        go_roundw
        case rel => exact ⟨k + 1, cap5, _, by omega, by go_num, rfl, V6.out⟩
        case measure => simp [intOf]; omega
      · have HE := Lib.hid (show (coS C.s).take k = coS C.s from take_all (by rw [← cpI_len, ← HQ.out]; omega))
        obtain rfl : k = q := by omega
        go_wp2_with fail
        go_ret2
        rw [HE.out] at V
        refine ⟨Q, k, g, by rw [HV.out]; rfl, by rw [HR.out, ← cpI_len, ← HQ.out], ?_, V.out.below⟩
        rw [HR.out]
        exact V.out.cells (i := 0) (A := Q) (c := g) rfl rfl
  · have HR := Lib.hid (show crR C = [] by unfold crR; rw [HV.out, if_neg h0])
    have hne : (v != 0) = true := bne_yes h0
    clear h0
    go_wp2_with fail
    go_ret2
    refine ⟨none, 0, 0, by rw [HV.out]; rfl, by rw [HR.out]; rfl, ?_, V2.out.below⟩
    rw [HR.out]
    exact CellsIn.nil _ _
set_option maxHeartbeats 8000000 in
theorem rccore_any (C : Clu) (A : Option Addr) (n c : Nat) (B : Option Addr) (m d : Nat) (w : World) (hC : CIn w A n B m C) :
    Calls Try.prog 21 #[.agg #[.slice A n c, .slice B m d]] w (CrPost C w) := by
  have HC := Lib.hid hC
  have hn := hC.hn
  have V1 := Lib.hid ((Hp.start w).cbox_new A n c B m d)
  obtain ⟨b0, b1, bg⟩ := V1.out.cbox_at (i := 0) rfl
  clear hC
  go_enter Try.func21, Try.ntmps21
  go_wp2_with fail
  refine (rcvalid_any C A n c B m d _ (HC.out.below V1.out.below)).mono ?_
  rintro e w1 ⟨rfl, hb1⟩
  have V2 := Lib.hid (V1.out.go hb1)
  clear hb1 b0 b1 bg
  obtain ⟨b0, b1, bg⟩ := V2.out.cbox_at (i := 0) rfl
  obtain ⟨v, hv⟩ : ∃ v, vC C = v := ⟨_, rfl⟩
  have HV := Lib.hid hv
  rw [hv]
  clear hv
  by_cases h0 : v = 0
  · subst h0
    have HR := Lib.hid (show crR C = coS C.s by unfold crR; rw [if_pos HV.out])
    go_wp2_with fail
    refine (rcore_any C.s n c A B m d _ HC.out.ls hn (HC.out.cs.below V2.out.below)).mono ?_
    rintro e w2 ⟨D, q, f, rfl, hq, hp2⟩
    have V3 := Lib.hid (V2.out.join hp2)
    have HQ := Lib.hid hq
    have hqn : q ≤ n := by rw [hq, cpI_len, ← HC.out.ls]; exact coS_le _
    clear hp2 hq b0 b1 bg
    obtain ⟨b0, b1, bg⟩ := V3.out.cbox_at (i := 1) rfl
    go_wp2_with fail
    go_loopw [6, 7] (fun v i wr => ∃ (k g : Nat) (Q : Option Addr), k ≤ q ∧ i = .int .i64 k ∧ v = .slice Q k g ∧ Hp w [snds Q k g ((coS C.s).take k), nums D q f (cpI C.s), cbox w.heap.size A n c B m d] wr) (fun _ i _ => q - (intOf i).toNat)
    case atStart => exact ⟨0, 0, none, Nat.zero_le _, rfl, rfl, V3.out.nil_row _ rfl rfl rfl⟩
    case round =>
      clear V3 b0 b1 bg
      obtain ⟨k, g, Q, hk, rfl, rfl, V0⟩ := hrel
      have V := Lib.hid V0
      clear V0
      obtain ⟨b0, b1, bg⟩ := V.out.cbox_at (i := 2) rfl
      by_cases hlt : k < q
      · obtain ⟨x, p, hx, hp, hpn, hxp⟩ := core_place HQ.out hlt
        obtain ⟨bd, od, hDe, hbd, d0⟩ := (V.out.cells (i := 1) (A := D) (c := f) rfl rfl).int (L := cpI C.s) (j := k) (by rw [← HQ.out]; exact hlt)
        rw [hp] at d0
        obtain ⟨bs1, os1, rfl, hbs, x0, x1, x2⟩ := (HC.out.cs.below V.out.below).snd hxp
        subst hDe
        have HS := Lib.hid (show (coS C.s).take (k + 1) = (coS C.s).take k ++ [x] from take_snoc hx)
        rw [HC.out.ls] at hpn
        have HPK := Lib.hid hp
        have HXP := Lib.hid hxp
        have HKQ := Lib.hid (show k < (cpI C.s).length by rw [← HQ.out]; exact hlt)
        clear hx hp hxp
        go_upto_region 9 with fail
        have hKp : Keep [(⟨w.heap.size, 0, none⟩, .slice (some ⟨bs1, os1, none⟩) n c), (⟨bd, od + k, none⟩, .int .i64 (p : Int)), (⟨bs1, os1 + p * 3, none⟩, .int .i64 x.k), (⟨bs1, os1 + p * 3 + 1, none⟩, .int .i64 x.q), (⟨bs1, os1 + p * 3 + 2, none⟩, .string (bs x.t))] wr := List.forall_mem_cons.2 ⟨⟨(V.out.cbox_at (i := 2) rfl).1, (V.out.cbox_at (i := 2) rfl).2.2⟩, List.forall_mem_cons.2 ⟨⟨((V.out.cells (i := 1) (it := nums (some ⟨bd, od, none⟩) q f (cpI C.s)) rfl (A := some ⟨bd, od, none⟩) (c := f) rfl).iat HKQ.out HPK.out).1, ((V.out.cells (i := 1) (it := nums (some ⟨bd, od, none⟩) q f (cpI C.s)) rfl (A := some ⟨bd, od, none⟩) (c := f) rfl).iat HKQ.out HPK.out).2⟩, List.forall_mem_cons.2 ⟨⟨(((HC.out.cs.below V.out.below).sat HXP.out).1.1), ((HC.out.cs.below V.out.below).sat HXP.out).2⟩, List.forall_mem_cons.2 ⟨⟨(((HC.out.cs.below V.out.below).sat HXP.out).1.2.1), ((HC.out.cs.below V.out.below).sat HXP.out).2⟩, List.forall_mem_cons.2 ⟨⟨(((HC.out.cs.below V.out.below).sat HXP.out).1.2.2), ((HC.out.cs.below V.out.below).sat HXP.out).2⟩, fun _ h => by simp at h⟩⟩⟩⟩⟩
        refine wp_region_held_drew (S := Keep _) (by kernel_rfl) hKp.drew (fun hHeld => ?_)
        obtain ⟨wf, hwf⟩ : ∃ z, z = wr.drew := ⟨_, rfl⟩
        have Vwf := Lib.hid (show Hp w (snds Q k g ((coS C.s).take k) :: nums (some ⟨bd, od, none⟩) q f (cpI C.s) :: cbox w.heap.size (some ⟨bs1, os1, none⟩) n c B m d :: []) wf by rw [hwf]; exact V.out.go (bdrew _))
        have Bwf := Lib.hid (show Below wr.heap.size wr wf by rw [hwf]; exact bdrew _)
        rw [← hwf] at hHeld ⊢
        clear hwf hKp
        refine tk 0 ?_ rfl ?_ ?_; rotate_left; focus (intro w hSw; clear hSw; go_simp; try (with_reducible rfl))
        try simp only [Act.put, sA, sZ, sS]
        refine tk 1 ?_ rfl ?_ ?_; rotate_left; focus (intro w hSw; clear hSw; go_simp; try (with_reducible rfl))
        try simp only [Act.put, sA, sZ, sS]
        refine tk 2 ?_ rfl ?_ ?_; rotate_left
        · intro wl hSw
          have hSw : Keep _ wl := hSw
          have k0 := (hSw _ (.head _)).1
          dsimp only at k0
          clear hSw
          go_simp
          try (with_reducible rfl)
        try simp only [Act.put, sA, sZ, sS]
        refine tk 3 ?_ rfl ?_ ?_; rotate_left; focus (intro w hSw; clear hSw; go_simp; try (with_reducible rfl))
        try simp only [Act.put, sA, sZ, sS]
        refine tk 4 ?_ rfl ?_ ?_; rotate_left; focus (intro w hSw; clear hSw; go_simp; try (with_reducible rfl))
        try simp only [Act.put, sA, sZ, sS]
        refine tk 5 ?_ rfl ?_ ?_; rotate_left; focus (intro w hSw; clear hSw; go_simp; try (with_reducible rfl))
        try simp only [Act.put, sA, sZ, sS]
        refine tk 6 ?_ rfl ?_ ?_; rotate_left
        · intro wl hSw
          have hSw : Keep _ wl := hSw
          have k0 := (hSw _ (.tail _ (.head _))).1
          dsimp only at k0
          clear hSw
          go_simp
          try (with_reducible rfl)
        try simp only [Act.put, sA, sZ, sS]
        refine tk 7 ?_ rfl ?_ ?_; rotate_left; focus (intro w hSw; clear hSw; go_simp; try (with_reducible rfl))
        try simp only [Act.put, sA, sZ, sS]
        refine tk 8 ?_ rfl ?_ ?_; rotate_left
        · intro wl hSw
          have hSw : Keep _ wl := hSw
          have k0 := (hSw _ (.tail _ (.tail _ (.head _)))).1
          have k1 := (hSw _ (.tail _ (.tail _ (.tail _ (.head _))))).1
          have k2 := (hSw _ (.tail _ (.tail _ (.tail _ (.tail _ (.head _)))))).1
          dsimp only at k0 k1 k2
          clear hSw
          go_simp
          try (with_reducible rfl)
        try simp only [Act.put, sA, sZ, sS]
        refine wpAnyH_ready (rs := [9]) (by kernel_rfl) (by simp) ?_
        refine AllReadyH.cons (List.getElem?_toArray.trans rfl) (fun K hK => ?_) AllReadyH.nil
        obtain ⟨w_9, hw_9⟩ : ∃ z, z = wf.alloc (.cells #[.int .i64 x.k, .int .i64 x.q, .string (bs x.t)] 51) := ⟨_, rfl⟩
        obtain ⟨g_9, hg_9⟩ : ∃ z, z = wf.heap.size := ⟨_, rfl⟩
        have V_9 := Lib.hid (show Hp w (sbox g_9 x :: snds Q k g ((coS C.s).take k) :: nums (some ⟨bd, od, none⟩) q f (cpI C.s) :: cbox w.heap.size (some ⟨bs1, os1, none⟩) n c B m d :: []) w_9 by rw [hw_9, hg_9]; exact Vwf.out.sbox_new x)
        have B_9 := Lib.hid (show Below wf.heap.size wf w_9 by rw [hw_9]; exact bnew _ _)
        have HW_9 := Lib.hid hw_9
        have HG_9 := Lib.hid hg_9
        clear hw_9 hg_9
        go_simp
        try rw [← HW_9.out]
        try rw [← HG_9.out]
        refine hK.out _ _ (hHeld.go B_9.out) (fun hHeld => ?_)
        clear hK K
        try simp only [Act.put, sA, sZ, sS]
        refine wpAnyH_ready (rs := [10]) (by kernel_rfl) (by simp) ?_
        refine AllReadyH.cons (List.getElem?_toArray.trans rfl) (fun K hK => ?_) AllReadyH.nil
        obtain ⟨g_9_10, cap_9_10, w_9_10, hr_9_10, hv_9_10, _⟩ := run_app_snd V_9.out (i := 1) rfl 22 x (fun j u hu => (V_9.out.box_at (i := 0) (cs := sndC x) rfl hu).1) (by omega)
        have HR_9_10 := Lib.hid hr_9_10
        have V_9_10 := Lib.hid (show Hp w (sbox g_9 x :: snds (some ⟨g_9_10, 0, none⟩) (k + 1) cap_9_10 ((coS C.s).take k ++ [x]) :: nums (some ⟨bd, od, none⟩) q f (cpI C.s) :: cbox w.heap.size (some ⟨bs1, os1, none⟩) n c B m d :: []) w_9_10 from hv_9_10)
        clear hr_9_10 hv_9_10
        refine step_app_run rfl (.tmp 21) (.tmp 30) 22 rfl HR_9_10.out rfl rfl ?_
        refine hK.out _ _ (List.forall_mem_cons.2 ⟨⟨(V_9_10.out.cbox_at (i := 3) rfl).1, (V_9_10.out.cbox_at (i := 3) rfl).2.2⟩, List.forall_mem_cons.2 ⟨⟨((V_9_10.out.cells (i := 2) (it := nums (some ⟨bd, od, none⟩) q f (cpI C.s)) rfl (A := some ⟨bd, od, none⟩) (c := f) rfl).iat HKQ.out HPK.out).1, ((V_9_10.out.cells (i := 2) (it := nums (some ⟨bd, od, none⟩) q f (cpI C.s)) rfl (A := some ⟨bd, od, none⟩) (c := f) rfl).iat HKQ.out HPK.out).2⟩, List.forall_mem_cons.2 ⟨⟨(((HC.out.cs.below V_9_10.out.below).sat HXP.out).1.1), ((HC.out.cs.below V_9_10.out.below).sat HXP.out).2⟩, List.forall_mem_cons.2 ⟨⟨(((HC.out.cs.below V_9_10.out.below).sat HXP.out).1.2.1), ((HC.out.cs.below V_9_10.out.below).sat HXP.out).2⟩, List.forall_mem_cons.2 ⟨⟨(((HC.out.cs.below V_9_10.out.below).sat HXP.out).1.2.2), ((HC.out.cs.below V_9_10.out.below).sat HXP.out).2⟩, fun _ h => by simp at h⟩⟩⟩⟩⟩) (fun hHeld => ?_)
        clear hK K
        try simp only [Act.put, sA, sZ, sS]
        refine tk 11 ?_ rfl ?_ ?_; rotate_left; focus (intro w hSw; clear hSw; go_simp; try (with_reducible rfl))
        try simp only [Act.put, sA, sZ, sS]
        refine wpAnyH_done (by kernel_rfl) ?_ _
        have VE := Lib.hid (show Hp w [snds (some ⟨g_9_10, 0, none⟩) (k + 1) cap_9_10 ((coS C.s).take k ++ [x]), nums (some ⟨bd, od, none⟩) q f (cpI C.s), cbox w.heap.size (some ⟨bs1, os1, none⟩) n c B m d] _ from V_9_10.out.tail)
        rw [← HS.out] at VE
        clear hHeld
        go_wp2_with fail
        go_roundw
        case rel => exact ⟨k + 1, _, _, by omega, by go_num, rfl, VE.out⟩
        case measure => simp [intOf]; omega
      · have HE := Lib.hid (show (coS C.s).take k = coS C.s from take_all (by rw [← cpI_len, ← HQ.out]; omega))
        obtain rfl : k = q := by omega
        go_wp2_with fail
        go_ret2
        rw [HE.out] at V
        refine ⟨Q, k, g, by rw [HV.out]; rfl, by rw [HR.out, ← cpI_len, ← HQ.out], ?_, V.out.below⟩
        rw [HR.out]
        exact V.out.cells (i := 0) (A := Q) (c := g) rfl rfl
  · have HR := Lib.hid (show crR C = [] by unfold crR; rw [HV.out, if_neg h0])
    have hne : (v != 0) = true := bne_yes h0
    clear h0
    go_wp2_with fail
    go_ret2
    refine ⟨none, 0, 0, by rw [HV.out]; rfl, by rw [HR.out]; rfl, ?_, V2.out.below⟩
    rw [HR.out]
    exact CellsIn.nil _ _
theorem crR_bt {C : Clu} (h : vC C = 0) : btL (crR C) = btL C.s := by unfold crR; rw [if_pos h, ← btL_core]
theorem crR_le {C : Clu} (h : C.s.length ≤ 1000000) : (crR C).length ≤ 1000000 := by
  unfold crR
  split
  · exact Nat.le_trans (coS_le _) h
  · exact Nat.zero_le _
set_option maxHeartbeats 16000000 in
theorem lawcore_any (C1 : Clu) (A1 : Option Addr) (n1 c1 : Nat) (B1 : Option Addr) (m1 d1 : Nat) (w : World) (hO1 : COpen w A1 n1 c1 B1 m1 d1 C1) : Calls Try.prog 4 #[.agg #[.slice A1 n1 c1, .slice B1 m1 d1]] w fun e w' => e = .returned (.bool true) ∧ Below w.heap.size w w' := by
  have HO1 := Lib.hid hO1
  clear hO1
  have V1 := Lib.hid (show Hp w [cbox w.heap.size A1 n1 c1 B1 m1 d1] _ from by
    have := ((Hp.start w).cbox_new A1 n1 c1 B1 m1 d1)
    exact this)
  obtain ⟨z00, z01, z0g⟩ := V1.out.cbox_at (i := 0) rfl
  go_enter Try.func4, Try.ntmps4
  go_wp2_with fail
  refine (awake14_any _).mono ?_
  rintro e w1 ⟨rfl, hb1⟩
  have V1z := Lib.hid (V1.out.go hb1)
  clear z00 z01 z0g
  obtain ⟨z00, z01, z0g⟩ := V1z.out.cbox_at (i := 0) rfl
  clear hb1
  go_wp2_with fail
  refine (rfew14_any C1 A1 n1 c1 B1 m1 d1 _ HO1.out.ls HO1.out.lb HO1.out.hn HO1.out.hm HO1.out.ht (HO1.out.cs.below V1z.out.below)).mono ?_
  rintro e wf1 ⟨rfl, hbf⟩
  have VF1 := Lib.hid (V1z.out.go hbf)
  clear z00 z01 z0g
  obtain ⟨z00, z01, z0g⟩ := VF1.out.cbox_at (i := 0) rfl
  clear hbf
  cases hf : fewC C1 with
  | false =>
    go_wp2_with fail
    refine (awake14_any _).mono ?_
    rintro e wg ⟨rfl, hbg⟩
    have VG := Lib.hid (VF1.out.go hbg)
    clear hbg
    go_wp2_with fail
    go_ret
    exact ⟨rfl, VG.out.below⟩
  | true =>
    have HC1 := Lib.hid (HO1.out.few hf)
    clear hf
    go_wp2_with fail
    refine (copied14_any C1 A1 n1 c1 B1 m1 d1 _ (HC1.out.below VF1.out.below)).mono ?_
    rintro e w2 ⟨Q2, f2, R2, g2, rfl, hI2, hf2, hg2, hb2⟩
    have V2z := Lib.hid (VF1.out.go hb2)
    clear z00 z01 z0g
    obtain ⟨z00, z01, z0g⟩ := V2z.out.cbox_at (i := 0) rfl
    have HI2 := Lib.hid hI2
    clear hI2
    clear hb2
    go_wp2_with fail
    refine (ccore_any C1 Q2 n1 f2 R2 m1 g2 _ HI2.out).mono ?_
    rintro e w3 ⟨Qa, qa, fa, rfl, hla, hca, hb3⟩
    have V3z := Lib.hid (V2z.out.go hb3)
    clear z00 z01 z0g
    obtain ⟨z00, z01, z0g⟩ := V3z.out.cbox_at (i := 0) rfl
    clear hb3
    go_wp2_with fail
    refine (rccore_any C1 A1 n1 c1 B1 m1 d1 _ (HC1.out.below V3z.out.below)).mono ?_
    rintro e w4 ⟨Qb, qb, fb, rfl, hlb, hcb, hb4⟩
    have V4z := Lib.hid (V3z.out.go hb4)
    clear z00 z01 z0g
    obtain ⟨z00, z01, z0g⟩ := V4z.out.cbox_at (i := 0) rfl
    have hca := hca.below hb4
    clear hb4
    have HCA := Lib.hid hca
    have HCB := Lib.hid hcb
    have hqb : qa ≤ 1000000 := by rw [← hla]; exact crR_le (by have := HC1.out.ls; have := HC1.out.hn; omega)
    obtain rfl : qa = qb := hla.symm.trans hlb
    have HLA := Lib.hid hla
    clear hca hcb hla hlb
    obtain ⟨v, hv⟩ : ∃ v, vC C1 = v := ⟨_, rfl⟩
    have HV := Lib.hid hv
    rw [hv]
    clear hv
    go_upto_region 5 with fail
    by_cases h0 : v = 0
    · subst h0
      have hKp : Keep [(⟨w.heap.size, 0, none⟩, .slice A1 n1 c1), (⟨w.heap.size, 1, none⟩, .slice B1 m1 d1)] w4 := List.forall_mem_cons.2 ⟨⟨(V4z.out.cbox_at (i := 0) rfl).1, (V4z.out.cbox_at (i := 0) rfl).2.2⟩, List.forall_mem_cons.2 ⟨⟨(V4z.out.cbox_at (i := 0) rfl).2.1, (V4z.out.cbox_at (i := 0) rfl).2.2⟩, fun _ h => by simp at h⟩⟩
      refine wp_region_held_drew (S := Keep _) (by kernel_rfl) hKp.drew (fun hHeld => ?_)
      obtain ⟨wz, hwz⟩ : ∃ z, z = w4.drew := ⟨_, rfl⟩
      have Vwz := Lib.hid (show Hp w (cbox w.heap.size A1 n1 c1 B1 m1 d1 :: []) wz by rw [hwz]; exact V4z.out.go (bdrew _))
      have Bwz := Lib.hid (show Below w4.heap.size w4 wz by rw [hwz]; exact bdrew _)
      rw [← hwz] at hHeld ⊢
      clear hwz hKp
      refine tk 0 ?_ rfl ?_ ?_; rotate_left; focus (intro w hSw; clear hSw; go_simp; try (with_reducible rfl))
      try simp only [Act.put, sA, sZ, sS]
      refine tk 1 ?_ rfl ?_ ?_; rotate_left; focus (intro w hSw; clear hSw; go_simp; try (with_reducible rfl))
      try simp only [Act.put, sA, sZ, sS]
      refine tk 2 ?_ rfl ?_ ?_; rotate_left; focus (intro w hSw; clear hSw; go_simp; try (with_reducible rfl))
      try simp only [Act.put, sA, sZ, sS]
      refine tk 3 ?_ rfl ?_ ?_; rotate_left; focus (intro w hSw; clear hSw; go_simp; try (with_reducible rfl))
      try simp only [Act.put, sA, sZ, sS]
      refine tk 4 ?_ rfl ?_ ?_; rotate_left; focus (intro w hSw; clear hSw; go_simp; try (with_reducible rfl))
      try simp only [Act.put, sA, sZ, sS]
      refine tk 5 ?_ rfl ?_ ?_; rotate_left; focus (intro w hSw; clear hSw; go_simp; try (with_reducible rfl))
      try simp only [Act.put, sA, sZ, sS]
      refine wpAnyH_ready (rs := [6]) (by kernel_rfl) (by simp) ?_
      refine AllReadyH.cons (List.getElem?_toArray.trans rfl) (fun K hK => ?_) AllReadyH.nil
      go_simp
      refine (rsame_any (crR C1) (crR C1) qa qa fa fb Qa Qb _ HLA.out HLA.out (by omega) (by omega) (HCA.out.below Bwz.out) (HCB.out.below Bwz.out)).mono ?_
      rintro e w_6 ⟨rfl, b_6⟩
      rw [eqB_yes rfl]
      have V_6 := Lib.hid (Vwz.out.go b_6)
      have BB_6 := Lib.hid (btwo Bwz.out b_6)
      try go_wp2_with fail
      refine hK.out _ _ (hHeld.go b_6) (fun hHeld => ?_)
      clear hK K
      try simp only [Act.put, sA, sZ, sS]
      refine tk 7 ?_ rfl ?_ ?_; rotate_left; focus (intro w hSw; clear hSw; go_simp; try (with_reducible rfl))
      try simp only [Act.put, sA, sZ, sS]
      refine tk 8 ?_ rfl ?_ ?_; rotate_left; focus (intro w hSw; clear hSw; go_simp; try (with_reducible rfl))
      try simp only [Act.put, sA, sZ, sS]
      refine tk 9 ?_ rfl ?_ ?_; rotate_left; focus (intro w hSw; clear hSw; go_simp; try (with_reducible rfl))
      try simp only [Act.put, sA, sZ, sS]
      refine tk 10 ?_ rfl ?_ ?_; rotate_left; focus (intro w hSw; clear hSw; go_simp; try (with_reducible rfl))
      try simp only [Act.put, sA, sZ, sS]
      refine tk 11 ?_ rfl ?_ ?_; rotate_left; focus (intro w hSw; clear hSw; go_simp; try (with_reducible rfl))
      try simp only [Act.put, sA, sZ, sS]
      refine tk 12 ?_ rfl ?_ ?_; rotate_left; focus (intro w hSw; clear hSw; go_simp; try (with_reducible rfl))
      try simp only [Act.put, sA, sZ, sS]
      refine tk 14 ?_ rfl ?_ ?_; rotate_left; focus (intro w hSw; clear hSw; go_simp; try (with_reducible rfl))
      try simp only [Act.put, sA, sZ, sS]
      refine tk 15 ?_ rfl ?_ ?_; rotate_left
      · intro wl hSw
        have hSw : Keep _ wl := hSw
        have k0 := (hSw _ (.head _)).1
        dsimp only at k0
        clear hSw
        go_simp
        try (with_reducible rfl)
      try simp only [Act.put, sA, sZ, sS]
      refine wpAnyH_ready (rs := [13]) (by kernel_rfl) (by simp) ?_
      refine AllReadyH.cons (List.getElem?_toArray.trans rfl) (fun K hK => ?_) AllReadyH.nil
      go_simp
      refine (beats_any (crR C1) qa fa Qa _ HLA.out (by omega) (HCA.out.below BB_6.out)).mono ?_
      rintro e w_6_13 ⟨rfl, b_6_13⟩
      have V_6_13 := Lib.hid (V_6.out.go b_6_13)
      rw [crR_bt HV.out]
      try go_wp2_with fail
      refine hK.out _ _ (hHeld.go b_6_13) (fun hHeld => ?_)
      clear hK K
      try simp only [Act.put, sA, sZ, sS]
      refine wpAnyH_ready (rs := [16]) (by kernel_rfl) (by simp) ?_
      refine AllReadyH.cons (List.getElem?_toArray.trans rfl) (fun K hK => ?_) AllReadyH.nil
      go_simp
      refine (beats_any C1.s n1 c1 A1 _ HC1.out.ls (by have := HC1.out.hn; omega) (HC1.out.cs.below V_6_13.out.below)).mono ?_
      rintro e w_6_13_16 ⟨rfl, b_6_13_16⟩
      have V_6_13_16 := Lib.hid (V_6_13.out.go b_6_13_16)
      try go_wp2_with fail
      refine hK.out _ _ (hHeld.go b_6_13_16) (fun hHeld => ?_)
      clear hK K
      try simp only [Act.put, sA, sZ, sS]
      refine tk 17 ?_ rfl ?_ ?_; rotate_left; focus (intro w hSw; clear hSw; go_simp; try (with_reducible rfl))
      try simp only [Act.put, sA, sZ, sS]
      refine tk 18 ?_ rfl ?_ ?_; rotate_left; focus (intro w hSw; clear hSw; go_simp; try (with_reducible rfl))
      try simp only [Act.put, sA, sZ, sS]
      refine tk 19 ?_ rfl ?_ ?_; rotate_left; focus (intro w hSw; clear hSw; go_simp; try (with_reducible rfl))
      try simp only [Act.put, sA, sZ, sS]
      refine tk 20 ?_ rfl ?_ ?_; rotate_left; focus (intro w hSw; clear hSw; go_simp; try (with_reducible rfl))
      try simp only [Act.put, sA, sZ, sS]
      refine wpAnyH_done (by kernel_rfl) ?_ _
      clear hHeld
      go_wp2_with fail
      go_ret
      exact ⟨rfl, V_6_13_16.out.below⟩
    · have hne : (v != 0) = true := bne_yes h0
      clear h0
      have hKp : Keep [(⟨w.heap.size, 0, none⟩, .slice A1 n1 c1), (⟨w.heap.size, 1, none⟩, .slice B1 m1 d1)] w4 := List.forall_mem_cons.2 ⟨⟨(V4z.out.cbox_at (i := 0) rfl).1, (V4z.out.cbox_at (i := 0) rfl).2.2⟩, List.forall_mem_cons.2 ⟨⟨(V4z.out.cbox_at (i := 0) rfl).2.1, (V4z.out.cbox_at (i := 0) rfl).2.2⟩, fun _ h => by simp at h⟩⟩
      refine wp_region_held_drew (S := Keep _) (by kernel_rfl) hKp.drew (fun hHeld => ?_)
      obtain ⟨wz, hwz⟩ : ∃ z, z = w4.drew := ⟨_, rfl⟩
      have Vwz := Lib.hid (show Hp w (cbox w.heap.size A1 n1 c1 B1 m1 d1 :: []) wz by rw [hwz]; exact V4z.out.go (bdrew _))
      have Bwz := Lib.hid (show Below w4.heap.size w4 wz by rw [hwz]; exact bdrew _)
      rw [← hwz] at hHeld ⊢
      clear hwz hKp
      refine tk 0 ?_ rfl ?_ ?_; rotate_left; focus (intro w hSw; clear hSw; go_simp; try (with_reducible rfl))
      try simp only [Act.put, sA, sZ, sS]
      refine tk 1 ?_ rfl ?_ ?_; rotate_left; focus (intro w hSw; clear hSw; go_simp; try (with_reducible rfl))
      try simp only [Act.put, sA, sZ, sS]
      refine tk 2 ?_ rfl ?_ ?_; rotate_left; focus (intro w hSw; clear hSw; go_simp; try (with_reducible rfl))
      try simp only [Act.put, sA, sZ, sS]
      refine tk 3 ?_ rfl ?_ ?_; rotate_left; focus (intro w hSw; clear hSw; go_simp; try (with_reducible rfl))
      try simp only [Act.put, sA, sZ, sS]
      refine tk 4 ?_ rfl ?_ ?_; rotate_left; focus (intro w hSw; clear hSw; go_simp; try (with_reducible rfl))
      try simp only [Act.put, sA, sZ, sS]
      refine tk 5 ?_ rfl ?_ ?_; rotate_left; focus (intro w hSw; clear hSw; go_simp; try (with_reducible rfl))
      try simp only [Act.put, sA, sZ, sS]
      refine wpAnyH_ready (rs := [6]) (by kernel_rfl) (by simp) ?_
      refine AllReadyH.cons (List.getElem?_toArray.trans rfl) (fun K hK => ?_) AllReadyH.nil
      go_simp
      refine (rsame_any (crR C1) (crR C1) qa qa fa fb Qa Qb _ HLA.out HLA.out (by omega) (by omega) (HCA.out.below Bwz.out) (HCB.out.below Bwz.out)).mono ?_
      rintro e w_6 ⟨rfl, b_6⟩
      rw [eqB_yes rfl]
      have V_6 := Lib.hid (Vwz.out.go b_6)
      have BB_6 := Lib.hid (btwo Bwz.out b_6)
      try go_wp2_with fail
      refine hK.out _ _ (hHeld.go b_6) (fun hHeld => ?_)
      clear hK K
      try simp only [Act.put, sA, sZ, sS]
      refine tk 7 ?_ rfl ?_ ?_; rotate_left; focus (intro w hSw; clear hSw; go_simp; try (with_reducible rfl))
      try simp only [Act.put, sA, sZ, sS]
      refine tk 8 ?_ rfl ?_ ?_; rotate_left; focus (intro w hSw; clear hSw; go_simp; try (with_reducible rfl))
      try simp only [Act.put, sA, sZ, sS]
      refine tk 9 ?_ rfl ?_ ?_; rotate_left; focus (intro w hSw; clear hSw; go_simp; try (with_reducible rfl))
      try simp only [Act.put, sA, sZ, sS]
      refine tk 10 ?_ rfl ?_ ?_; rotate_left; focus (intro w hSw; clear hSw; go_simp; try (with_reducible rfl))
      try simp only [Act.put, sA, sZ, sS]
      refine tk 11 ?_ rfl ?_ ?_; rotate_left; focus (intro w hSw; clear hSw; go_simp; try (with_reducible rfl))
      try simp only [Act.put, sA, sZ, sS]
      refine tu 12 rfl ?_
      try simp only [Act.put, sA, sZ, sS]
      refine tu 13 rfl ?_
      try simp only [Act.put, sA, sZ, sS]
      refine tu 14 rfl ?_
      try simp only [Act.put, sA, sZ, sS]
      refine tu 15 rfl ?_
      try simp only [Act.put, sA, sZ, sS]
      refine tu 16 rfl ?_
      try simp only [Act.put, sA, sZ, sS]
      refine tu 17 rfl ?_
      try simp only [Act.put, sA, sZ, sS]
      refine tk 18 ?_ rfl ?_ ?_; rotate_left; focus (intro w hSw; clear hSw; go_simp; try (with_reducible rfl))
      try simp only [Act.put, sA, sZ, sS]
      refine tk 19 ?_ rfl ?_ ?_; rotate_left; focus (intro w hSw; clear hSw; go_simp; try (with_reducible rfl))
      try simp only [Act.put, sA, sZ, sS]
      refine tk 20 ?_ rfl ?_ ?_; rotate_left; focus (intro w hSw; clear hSw; go_simp; try (with_reducible rfl))
      try simp only [Act.put, sA, sZ, sS]
      refine wpAnyH_done (by kernel_rfl) ?_ _
      clear hHeld
      go_wp2_with fail
      go_ret
      exact ⟨rfl, V_6.out.below⟩
end Go.Proofs.Ythcdbhancfpldaa
