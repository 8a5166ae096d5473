/- What the statement SoundSpoiled answers: true, whatever the input. -/
import Derived.Test.YtbmldlkjnejfaaaDoorUw
import Derived.Test.YtbmldlkjnejfaaaDoorUx
import Derived.Laws.BytesArg
namespace Go.Proofs.YtbmldlkjnejfaaaDoor
open Go.RowKit
set_option linter.unusedVariables false
set_option linter.unusedSimpArgs false
set_option maxRecDepth 100000

theorem prs_err {s : List UInt8} {L : List Snd} {er : Int} (h : prsV s = (L, er)) (h4 : ¬ 4000 < s.length) : er = 0 ∨ er = 2 := by
  unfold prsV at h
  rw [if_neg h4] at h
  split at h
  · injection h with _ h; exact .inl h.symm
  · split at h
    · split at h
      · injection h with _ h; exact .inr h.symm
      · injection h with _ h; exact .inl h.symm
    · injection h with _ h; exact .inr h.symm
theorem strn_one (z : Int) : (strOfNums [z]).size = 1 := rfl
theorem mod_nat (P m : Nat) : ((P : Int) % (m : Int)) = ((P % m : Nat) : Int) := by simp
set_option maxHeartbeats 16000000 in
theorem lawspoiled_any (B : List Int) (n c : Nat) (A : Option Addr) (p z : Int) (w : World) (hl : B.length = n) (hn : n ≤ 1000000000000000) (hz : ∀ z ∈ B, 0 ≤ z ∧ z ≤ 255) (hA : CellsIn w A (bytesC B)) (hp0 : 0 ≤ p) (hp1 : p ≤ 65535) (hz0 : 0 ≤ z) (hz1 : z ≤ 255) (hm : MaxAt w) :
    Calls Tryd.prog 10 #[.slice A n c, .int .u16 p, .int .u8 z] w fun e w' => e = .returned (.bool true) ∧ Below w.heap.size w w' := by
  have HM := Lib.hid hm
  have HL0 := Lib.hid hl
  have HA := Lib.hid hA
  have HZ := Lib.hid hz
  clear hm hl hA hz
  by_cases hbig : 100 < n
  · go_enter Tryd.func10, Tryd.ntmps10
    go_wp2_with fail
    refine (awake_any _ HM.out).mono ?_
    rintro e w1 ⟨rfl, hb1⟩
    have B1 := Lib.hid hb1
    clear hb1
    go_wp2_with fail
    refine (awake_any _ (HM.out.below B1.out)).mono ?_
    rintro e w3 ⟨rfl, hb3⟩
    go_wp2_with fail
    go_ret
    exact ⟨rfl, btwo B1.out hb3⟩
  · obtain ⟨L, hL⟩ : ∃ L, L = allS B := ⟨_, rfl⟩
    have HL := Lib.hid (show L.length = n by rw [hL, all_len]; exact HL0.out)
    have HLL := Lib.hid hL
    have hok : ∀ x ∈ L, vS x = 0 := by rw [hL]; exact all_ok B
    have HS := Lib.hid (show ∀ x ∈ L, x.t.length ≤ 140737488355328 from fun x hx => by have := (vS_zero (hok x hx)).2.2.2.1; omega)
    obtain ⟨s, hs⟩ : ∃ s, s = txL L := ⟨_, rfl⟩
    have hf : fmtV L = (s, 0) := by rw [hs]; exact fmt_ok (by have := HL.out; omega) hok
    have HF := Lib.hid hf
    have hsl : s.length ≤ 1200 := by rw [hs]; have := txL_len hok; have := HL.out; omega
    have hse : (bs s).size = s.length := rfl
    obtain ⟨m, hm⟩ : ∃ m, m = s.length := ⟨_, rfl⟩
    rw [← hm] at hsl hse
    have HMM := Lib.hid hm
    clear hL hok hs hf hm
    by_cases h0 : m = 0
    · obtain ⟨x1, x2⟩ := empty_bs (s := bs s) (by rw [hse]; exact h0)
      clear h0
      go_enter Tryd.func10, Tryd.ntmps10
      go_wp2_with fail
      refine (awake_any _ HM.out).mono ?_
      rintro e w1 ⟨rfl, hb1⟩
      have B1 := Lib.hid hb1
      clear hb1
      go_wp2_with fail
      refine (all_any B n c A _ HL0.out (by omega) HZ.out (HA.out.below B1.out)).mono ?_
      rintro e w2 ⟨KL, d2, rfl, hp2⟩
      rw [← HLL.out] at hp2
      have B2 := Lib.hid (btwo B1.out hp2.below)
      have C2 := Lib.hid (hp2.cells (i := 0) (A := KL) (c := d2) rfl rfl)
      clear hp2
      go_wp2_with fail
      refine (format_any L s 0 HF.out n d2 KL _ HL.out (by omega) HS.out C2.out).mono ?_
      rintro e w3 ⟨rfl, hb3⟩
      have B3 := Lib.hid (btwo B2.out hb3)
      clear hb3
      go_wp2_with fail
      go_ret
      exact ⟨rfl, B3.out⟩
    · have x1 := full_bs (s := bs s) (by rw [hse]; omega)
      obtain ⟨P, rfl⟩ := Int.eq_ofNat_of_zero_le hp0
      obtain ⟨i, hi⟩ : ∃ i, i = P % m := ⟨_, rfl⟩
      have him : i < m := by rw [hi]; exact Nat.mod_lt _ (by omega)
      have HI := Lib.hid (show ((P : Int) % (m : Int)) = (i : Int) by rw [hi]; exact mod_nat P m)
      have hmne : ¬ (m : Int) = 0 := by omega
      clear hi h0
      obtain ⟨t1, ht1⟩ : ∃ t, t = (bs s).extract 0 i := ⟨_, rfl⟩
      obtain ⟨t2, ht2⟩ : ∃ t, t = (bs s).extract (i + 1) m := ⟨_, rfl⟩
      have ht1s : t1.size = i := by rw [ht1, ByteArray.size_extract, hse]; omega
      have ht2s : t2.size + (i + 1) = m := by rw [ht2, ByteArray.size_extract, hse]; omega
      have HT1 := Lib.hid ht1
      have HT2 := Lib.hid ht2
      have s1 := add_run t1 (strOfNums [z]) (by rw [strn_one]; omega)
      have s2 := add_run (t1 ++ strOfNums [z]) t2 (by rw [ByteArray.size_append, strn_one]; omega)
      have hiw : IntKind.i64.wrap ((i : Int) + 1) = (i : Int) + 1 := IntWalk.i64_in _ (by omega)
      have hit : ((i : Int) + 1).toNat = i + 1 := by omega
      have a1 : (i : Int) ≤ (m : Int) := by omega
      have a2 : (i : Int) + 1 ≤ (m : Int) := by omega
      have a3 : (0 : Int) ≤ (i : Int) + 1 := by omega
      have a4 : (0 : Int) ≤ (i : Int) := by omega
      obtain ⟨tb, htb⟩ : ∃ tb, tb = (t1 ++ strOfNums [z]) ++ t2 := ⟨_, rfl⟩
      have htbs : tb.size = m := by rw [htb, ByteArray.size_append, ByteArray.size_append, strn_one]; omega
      have HTB := Lib.hid (show (t1 ++ strOfNums [z]) ++ t2 = tb from htb.symm)
      obtain ⟨M, er, hv⟩ : ∃ M er, prsV tb.data.toList = (M, er) := ⟨_, _, rfl⟩
      have HV := Lib.hid hv
      have her := prs_err hv (by rw [sizeB]; omega)
      have hmb : M.length ≤ 200 := prs_len hv
      have htl : tb.size ≤ 4000 := by omega
      clear ht1 ht2 htb htbs
      by_cases he0 : er = 0
      · subst he0
        have hft := prs_fmt hv
        have hiff : (M = L) ↔ (tb.data.toList = s) := by
          constructor
          · intro e; rw [e, HF.out] at hft; injection hft with h _; exact h.symm
          · intro e; rw [e] at hv; rw [fmt_prs HF.out] at hv; injection hv with h _; exact h.symm
        have heq : eqB M L = (tb.toList == (bs s).toList) := by
          rw [ByteArray.toList_eq, ByteArray.toList_eq, bs_list]
          by_cases hc : tb.data.toList = s
          · rw [eqB_yes (hiff.2 hc), hc]; simp
          · rw [eqB_no (fun e => hc (hiff.1 e))]; symm; rw [beq_eq_false_iff_ne]; exact hc
        obtain ⟨bo, hbo⟩ : ∃ bo, bo = (tb.toList == (bs s).toList) := ⟨_, rfl⟩
        rw [← hbo] at heq
        have HEQ := Lib.hid heq
        have hbo2 : (tb.toList == (bs s).toList) = bo := hbo.symm
        have hbb2 : (bo == bo) = true := by simp
        clear hv hft hiff heq her hbo
        go_enter Tryd.func10, Tryd.ntmps10
        go_wp2_with fail
        refine (awake_any _ HM.out).mono ?_
        rintro e w1 ⟨rfl, hb1⟩
        have B1 := Lib.hid hb1
        clear hb1
        go_wp2_with fail
        refine (all_any B n c A _ HL0.out (by omega) HZ.out (HA.out.below B1.out)).mono ?_
        rintro e w2 ⟨KL, d2, rfl, hp2⟩
        rw [← HLL.out] at hp2
        have B2 := Lib.hid (btwo B1.out hp2.below)
        have C2 := Lib.hid (hp2.cells (i := 0) (A := KL) (c := d2) rfl rfl)
        clear hp2
        go_wp2_with fail
        refine (format_any L s 0 HF.out n d2 KL _ HL.out (by omega) HS.out C2.out).mono ?_
        rintro e w3 ⟨rfl, hb3⟩
        have B3 := Lib.hid (btwo B2.out hb3)
        clear hb3
        go_upto_region 7 with fail
        rw [HI.out]
        refine wp_region_held_drew (S := Keep []) (by kernel_rfl) (fun _ h => by simp at h) (fun hHeld => ?_)
        refine tk 0 ?_ rfl ?_ ?_; rotate_left; focus (intro w hSw; clear hSw; go_simp; try (with_reducible rfl))
        try simp only [Act.put, sA, sZ, sS]
        refine tk 1 ?_ rfl ?_ ?_; rotate_left; focus (intro w hSw; clear hSw; go_simp; try (with_reducible rfl))
        try simp only [Act.put, sA, sZ, sS]
        refine tk 2 ?_ rfl ?_ ?_; rotate_left
        · intro w hSw; clear hSw; go_simp; try (rw [← HT1.out])
        try simp only [Act.put, sA, sZ, sS]
        refine tk 3 ?_ rfl ?_ ?_; rotate_left; focus (intro w hSw; clear hSw; go_simp; try (with_reducible rfl))
        try simp only [Act.put, sA, sZ, sS]
        refine tk 7 ?_ rfl ?_ ?_; rotate_left; focus (intro w hSw; clear hSw; go_simp; try (with_reducible rfl))
        try simp only [Act.put, sA, sZ, sS]
        refine tk 8 ?_ rfl ?_ ?_; rotate_left; focus (intro w hSw; clear hSw; go_simp; try (with_reducible rfl))
        try simp only [Act.put, sA, sZ, sS]
        refine tk 9 ?_ rfl ?_ ?_; rotate_left; focus (intro w hSw; clear hSw; go_simp; try (with_reducible rfl))
        try simp only [Act.put, sA, sZ, sS]
        refine tk 10 ?_ rfl ?_ ?_; rotate_left
        · intro w hSw; clear hSw; go_simp; try (rw [← HT2.out])
        try simp only [Act.put, sA, sZ, sS]
        refine wpAnyH_ready (rs := [4]) (by kernel_rfl) (by simp) ?_
        refine AllReadyH.cons (List.getElem?_toArray.trans rfl) (fun K hK => ?_) AllReadyH.nil
        obtain ⟨wb, hwb⟩ : ∃ wb, wb = (w3.alloc (.cells #[.int .u8 z] 5)).drew := ⟨_, rfl⟩
        have hcb : wb.cell? ⟨w3.heap.size, 0, none⟩ = some (.int .u8 z) := by rw [hwb]; exact (show (w3.alloc (.cells #[.int .u8 z] 5)).cell? ⟨w3.heap.size, 0, none⟩ = some (.int .u8 z) by rw [World.cell?_alloc_mark]; rfl)
        have B4 := Lib.hid (show Below w.heap.size w wb by rw [hwb]; exact btwo (btwo B3.out (bnew _ _)) (bdrew _))
        have hcv := run_convert_bytes_arg (P := Tryd.prog) wb 47 5 Tryd.underlying47 Tryd.underlying5 w3.heap.size 0 1 1 [z] rfl (fun i hi => by
          obtain rfl : i = 0 := by omega
          exact hcb) 9 Tryd.underlying9
        go_simp
        rw [← hwb]
        clear hwb hcb
        refine hK.out _ _ (fun _ h => by simp at h) (fun hHeld => ?_)
        clear hK K
        try simp only [Act.put, sA, sZ, sS]
        refine wpAnyH_ready (rs := [5]) (by kernel_rfl) (by simp) ?_
        refine AllReadyH.cons (List.getElem?_toArray.trans rfl) (fun K hK => ?_) AllReadyH.nil
        go_simp
        refine hK.out _ _ (fun _ h => by simp at h) (fun hHeld => ?_)
        clear hK K
        try simp only [Act.put, sA, sZ, sS]
        refine tk 6 ?_ rfl ?_ ?_; rotate_left; focus (intro w hSw; clear hSw; go_simp; try (with_reducible rfl))
        try simp only [Act.put, sA, sZ, sS]
        refine tk 11 ?_ rfl ?_ ?_; rotate_left; focus (intro w hSw; clear hSw; go_simp; try (with_reducible rfl))
        try simp only [Act.put, sA, sZ, sS]
        refine tk 12 ?_ rfl ?_ ?_; rotate_left; focus (intro w hSw; clear hSw; go_simp; try (with_reducible rfl))
        try simp only [Act.put, sA, sZ, sS]
        refine wpAnyH_done (by kernel_rfl) ?_ _
        go_wp2_with fail
        rw [HTB.out]
        refine (parse_any tb _ M _ HV.out (by omega) (HM.out.below B4.out)).mono ?_
        rintro e w5 ⟨A5, n5, c5, rfl, hn5, hp5⟩
        have B5 := Lib.hid (btwo B4.out hp5.below)
        have HN5 := Lib.hid hn5
        have C5 := Lib.hid (hp5.cells (i := 0) (A := A5) (c := c5) rfl rfl)
        clear hp5 hn5 hHeld hcv
        go_wp2_with fail
        refine (all_any B n c A _ HL0.out (by omega) HZ.out (HA.out.below B5.out)).mono ?_
        rintro e w6 ⟨K6, d6, rfl, hp6⟩
        rw [← HLL.out] at hp6
        have B6 := Lib.hid (btwo B5.out hp6.below)
        have C6 := Lib.hid (hp6.cells (i := 0) (A := K6) (c := d6) rfl rfl)
        have C56 := Lib.hid (C5.out.below hp6.below)
        clear hp6
        go_wp2_with fail
        refine (rsame_any M L n5 n c5 d6 A5 K6 _ HN5.out HL.out (by have := HN5.out; omega) (by omega) C56.out C6.out).mono ?_
        rintro e w7 ⟨rfl, hb7⟩
        rw [HEQ.out]
        have B7 := Lib.hid (btwo B6.out hb7)
        clear hb7
        go_wp2_with fail
        go_ret
        exact ⟨by first | rfl | simp, B7.out⟩
      · obtain rfl : er = 2 := by omega
        have hne : (tb.toList != (bs s).toList) = true := by
          rw [bne_iff_ne, ByteArray.toList_eq, ByteArray.toList_eq, bs_list]
          intro e
          rw [e, fmt_prs HF.out] at hv
          injection hv with _ h; cases h
        have hne2 : (tb.toList == (bs s).toList) = false := by rw [beq_eq_false_iff_ne]; rw [bne_iff_ne] at hne; exact hne
        clear hv her he0
        go_enter Tryd.func10, Tryd.ntmps10
        go_wp2_with fail
        refine (awake_any _ HM.out).mono ?_
        rintro e w1 ⟨rfl, hb1⟩
        have B1 := Lib.hid hb1
        clear hb1
        go_wp2_with fail
        refine (all_any B n c A _ HL0.out (by omega) HZ.out (HA.out.below B1.out)).mono ?_
        rintro e w2 ⟨KL, d2, rfl, hp2⟩
        rw [← HLL.out] at hp2
        have B2 := Lib.hid (btwo B1.out hp2.below)
        have C2 := Lib.hid (hp2.cells (i := 0) (A := KL) (c := d2) rfl rfl)
        clear hp2
        go_wp2_with fail
        refine (format_any L s 0 HF.out n d2 KL _ HL.out (by omega) HS.out C2.out).mono ?_
        rintro e w3 ⟨rfl, hb3⟩
        have B3 := Lib.hid (btwo B2.out hb3)
        clear hb3
        go_upto_region 7 with fail
        rw [HI.out]
        refine wp_region_held_drew (S := Keep []) (by kernel_rfl) (fun _ h => by simp at h) (fun hHeld => ?_)
        refine tk 0 ?_ rfl ?_ ?_; rotate_left; focus (intro w hSw; clear hSw; go_simp; try (with_reducible rfl))
        try simp only [Act.put, sA, sZ, sS]
        refine tk 1 ?_ rfl ?_ ?_; rotate_left; focus (intro w hSw; clear hSw; go_simp; try (with_reducible rfl))
        try simp only [Act.put, sA, sZ, sS]
        refine tk 2 ?_ rfl ?_ ?_; rotate_left
        · intro w hSw; clear hSw; go_simp; try (rw [← HT1.out])
        try simp only [Act.put, sA, sZ, sS]
        refine tk 3 ?_ rfl ?_ ?_; rotate_left; focus (intro w hSw; clear hSw; go_simp; try (with_reducible rfl))
        try simp only [Act.put, sA, sZ, sS]
        refine tk 7 ?_ rfl ?_ ?_; rotate_left; focus (intro w hSw; clear hSw; go_simp; try (with_reducible rfl))
        try simp only [Act.put, sA, sZ, sS]
        refine tk 8 ?_ rfl ?_ ?_; rotate_left; focus (intro w hSw; clear hSw; go_simp; try (with_reducible rfl))
        try simp only [Act.put, sA, sZ, sS]
        refine tk 9 ?_ rfl ?_ ?_; rotate_left; focus (intro w hSw; clear hSw; go_simp; try (with_reducible rfl))
        try simp only [Act.put, sA, sZ, sS]
        refine tk 10 ?_ rfl ?_ ?_; rotate_left
        · intro w hSw; clear hSw; go_simp; try (rw [← HT2.out])
        try simp only [Act.put, sA, sZ, sS]
        refine wpAnyH_ready (rs := [4]) (by kernel_rfl) (by simp) ?_
        refine AllReadyH.cons (List.getElem?_toArray.trans rfl) (fun K hK => ?_) AllReadyH.nil
        obtain ⟨wb, hwb⟩ : ∃ wb, wb = (w3.alloc (.cells #[.int .u8 z] 5)).drew := ⟨_, rfl⟩
        have hcb : wb.cell? ⟨w3.heap.size, 0, none⟩ = some (.int .u8 z) := by rw [hwb]; exact (show (w3.alloc (.cells #[.int .u8 z] 5)).cell? ⟨w3.heap.size, 0, none⟩ = some (.int .u8 z) by rw [World.cell?_alloc_mark]; rfl)
        have B4 := Lib.hid (show Below w.heap.size w wb by rw [hwb]; exact btwo (btwo B3.out (bnew _ _)) (bdrew _))
        have hcv := run_convert_bytes_arg (P := Tryd.prog) wb 47 5 Tryd.underlying47 Tryd.underlying5 w3.heap.size 0 1 1 [z] rfl (fun i hi => by
          obtain rfl : i = 0 := by omega
          exact hcb) 9 Tryd.underlying9
        go_simp
        rw [← hwb]
        clear hwb hcb
        refine hK.out _ _ (fun _ h => by simp at h) (fun hHeld => ?_)
        clear hK K
        try simp only [Act.put, sA, sZ, sS]
        refine wpAnyH_ready (rs := [5]) (by kernel_rfl) (by simp) ?_
        refine AllReadyH.cons (List.getElem?_toArray.trans rfl) (fun K hK => ?_) AllReadyH.nil
        go_simp
        refine hK.out _ _ (fun _ h => by simp at h) (fun hHeld => ?_)
        clear hK K
        try simp only [Act.put, sA, sZ, sS]
        refine tk 6 ?_ rfl ?_ ?_; rotate_left; focus (intro w hSw; clear hSw; go_simp; try (with_reducible rfl))
        try simp only [Act.put, sA, sZ, sS]
        refine tk 11 ?_ rfl ?_ ?_; rotate_left; focus (intro w hSw; clear hSw; go_simp; try (with_reducible rfl))
        try simp only [Act.put, sA, sZ, sS]
        refine tk 12 ?_ rfl ?_ ?_; rotate_left; focus (intro w hSw; clear hSw; go_simp; try (with_reducible rfl))
        try simp only [Act.put, sA, sZ, sS]
        refine wpAnyH_done (by kernel_rfl) ?_ _
        go_wp2_with fail
        rw [HTB.out]
        refine (parse_any tb _ M _ HV.out (by omega) (HM.out.below B4.out)).mono ?_
        rintro e w5 ⟨A5, n5, c5, rfl, hn5, hp5⟩
        have B5 := Lib.hid (btwo B4.out hp5.below)
        have HN5 := Lib.hid hn5
        have C5 := Lib.hid (hp5.cells (i := 0) (A := A5) (c := c5) rfl rfl)
        clear hp5 hn5 hHeld hcv
        go_wp2_with fail
        go_ret
        exact ⟨rfl, B5.out⟩
end Go.Proofs.YtbmldlkjnejfaaaDoor
