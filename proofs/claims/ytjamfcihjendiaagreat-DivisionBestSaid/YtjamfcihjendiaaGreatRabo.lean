/- Several texts in one: Ye. -/
import Derived.Test.YtjamfcihjendiaaGreatRabn
import Derived.Test.YtjamfcihjendiaaGreatRaan
namespace Go.Proofs.YtjamfcihjendiaaGreat
open Go.RowKit
set_option linter.unusedVariables false
set_option linter.unusedSimpArgs false
set_option maxRecDepth 100000

theorem ptS_ne {x : Sg} (hx : sgE x = 0) : ∀ u ∈ ptS x, u ≠ [] := by
  obtain ⟨h1, h2, h3, h4, h5⟩ := sgE_zero hx
  intro u hu
  unfold ptS at hu
  rcases List.mem_cons.1 hu with rfl | hu
  · intro e; have := (txE_zero h1).1; rw [e] at this; exact absurd this (by decide)
  · rcases List.mem_append.1 hu with hu | hu
    · obtain ⟨y, _, rfl⟩ := List.mem_map.1 hu
      exact tx1_ne y
    · simp only [List.mem_cons, List.not_mem_nil, or_false] at hu
      rcases hu with rfl | rfl
      · intro e; have := (dg_any h4).2.2.2; rw [e] at this; exact absurd this (by decide)
      · intro e; have := (ww_not h5).2.2; rw [e] at this; exact absurd this (by decide)
theorem wW_inj : ∀ a b : Fin 5, wW (a.val : Int) = wW (b.val : Int) → a = b := by decide +kernel
theorem wW_eq {a b : Nat} (ha : a ≤ 4) (hb : b ≤ 4) (h : wW (a : Int) = wW (b : Int)) : a = b := by
  have := wW_inj ⟨a, by omega⟩ ⟨b, by omega⟩ h
  exact congrArg Fin.val this
theorem CellsIn.strs {w : World} {b off : Nat} {P : List (List UInt8)} (h : CellsIn w (some ⟨b, off, none⟩) (strC P)) {j : Nat} {p : List UInt8} (hp : P[j]? = some p) : w.cell? ⟨b, off + j, none⟩ = some (.string (bs p)) := by
  obtain ⟨b1, o1, e, _, hc⟩ := h.str hp
  injection e with e
  injection e with e1 e2
  rw [e1, e2]; exact hc
theorem rnum_is {s : ByteArray} {x : Int} {b : Bool} (h : K.numV s.data.toList = (x, b)) (w : World) (hs : s.size ≤ maxLen) :
    Calls Tryz.prog 69 #[.string s] w fun e w' => e = .returned (.tuple #[.int .i64 x, .bool b]) ∧ Below w.heap.size w w' := by
  have := K.rnumber_any s w hs
  unfold K.NumPost at this
  rw [h] at this; exact this
set_option maxHeartbeats 3000000 in
theorem rline_1 (x : Sg) (ya : Snd) (hxs : x.s = [ya]) (hx : sgE x = 0) (w : World) :
    Calls Tryz.prog 53 #[.string (bs (lnS x))] w (SgPost x w) := by
  obtain ⟨h1, h2, h3, h4, h5⟩ := sgE_zero hx
  have HNE := Lib.hid (show ∀ u ∈ splL isSp (bs (lnS x)).data.toList, u ≠ [] by rw [bs_list, lnS_split hx]; exact ptS_ne hx)
  have HP := Lib.hid (show splL isSp (bs (lnS x)).data.toList = [x.t, tx1 ya, dg2 x.c, wW x.w] by rw [bs_list, lnS_split hx]; unfold ptS; rw [hxs]; rfl)
  have hz : (bs (lnS x)).size ≤ 20000 := by rw [bs_size]; have := (lnS_len hx).1; omega
  have HPS := Lib.hid (show prsV (bs (txL x.s)).data.toList = (x.s, 0) by rw [bs_list]; exact prs_sounds hx)
  have hlt := txL_len h3
  have hl2 : x.s.length = 1 := by rw [hxs]; rfl
  have HXL := Lib.hid hl2
  have HPL := Lib.hid (show (bs (txL x.s)).size ≤ 140737488355328 by rw [bs_size]; omega)
  have HNV := Lib.hid (show K.numV (bs (dg2 x.c)).data.toList = (x.c, true) by rw [bs_list]; exact (dg_any h4).1)
  have HNL := Lib.hid (show (bs (dg2 x.c)).size ≤ maxLen by rw [bs_size]; have := (dg_any h4).2.2.1; unfold maxLen; omega)
  obtain ⟨kw, hkw, hk4⟩ := ww_nat h5
  have HKW := Lib.hid hkw
  have HT1 := Lib.hid (show bs (txL (x.s.take 1)) = bs (tx1 ya) by rw [hxs]; rfl)
  have HTM := Lib.hid (show x.s.take 1 = x.s by rw [hxs]; rfl)
  have HA := Lib.hid h3
  have HXS := Lib.hid hxs
  obtain ⟨g0, hg0⟩ : ∃ z, z = w.heap.size := ⟨_, rfl⟩
  obtain ⟨W0, hW0⟩ : ∃ z, z = w.alloc (.cells #[.string ⟨#[]⟩, .slice none 0 0, .int .i64 0, .int .i64 0] 64) := ⟨_, rfl⟩
  have V0 := Lib.hid (show Hp w [sgbox g0 (none, 0) zSg] W0 by rw [hW0, hg0]; exact (Hp.start w).sgbox_new none 0 zSg)
  have HW0 := Lib.hid hW0
  have HG0 := Lib.hid hg0
  clear h1 h2 h3 h4 h5 hx hxs hlt hl2 hkw hW0 hg0
  go_enter Tryz.func53, Tryz.ntmps53
  go_upto_region 1 with fail
  rw [← HG0.out, ← HW0.out]
  go_wp2_with fail
  refine (words_any _ _ hz HNE.out).mono ?_
  rintro e w1 ⟨C, q, d, rfl, hq, hp⟩
  rw [HP.out] at hq hp
  obtain rfl : q = 4 := hq.symm
  obtain ⟨b, off, rfl, hbl, c0⟩ := (hp.cells (i := 0) rfl rfl).str (j := 0) rfl
  have HC := Lib.hid (hp.cells (i := 0) (A := some ⟨b, off, none⟩) (c := d) rfl rfl)
  have c1 := HC.out.strs (j := 1) rfl
  have c2 := HC.out.strs (j := 2) rfl
  have c3 := HC.out.strs (j := 3) rfl
  have V1 := Lib.hid (show Hp w [strs (some ⟨b, off, none⟩) 4 d [x.t, tx1 ya, dg2 x.c, wW x.w], sgbox g0 (none, 0) zSg] w1 from V0.out.join hp)
  clear hp hz hq
  go_wp2_with fail
  go_loopw [5, 6] (fun v i wr => ∃ (k : Nat) (u : ByteArray), 2 ≤ k ∧ k ≤ 2 ∧ i = .int .i64 (k : Int) ∧ v = .string u ∧ u = bs (txL (x.s.take (k - 1))) ∧ wr = w1) (fun _ i _ => 2 - (intOf i).toNat)
  case atStart => exact ⟨2, bs (tx1 ya), Nat.le_refl _, by omega, rfl, rfl, HT1.out.symm, rfl⟩
  case round =>
    obtain ⟨k, u, hk2, hk, rfl, rfl, hu, rfl⟩ := hrel
    have HU := Lib.hid hu
    clear hu
    obtain rfl : k = 2 := by omega
    have hu1 : u = bs (txL x.s) := by rw [HU.out, show 2 - 1 = 1 from rfl, HTM.out]
    clear c1 c2 c3 hbl
    go_wp2_with fail
    rw [hu1]
    clear hu1
    refine (rparse_any _ _ x.s 0 HPS.out HPL.out).mono ?_
    rintro e w2 ⟨A, n2, c2', rfl, hn2, hp2⟩
    obtain rfl : n2 = 1 := by rw [← hn2]; exact HXL.out
    have V2 := Lib.hid (show Hp w [snds A 1 c2' x.s, strs (some ⟨b, off, none⟩) 4 d [x.t, tx1 ya, dg2 x.c, wW x.w], sgbox g0 (none, 0) zSg] w2 from V1.out.join hp2)
    clear hp2 hn2
    have cd := (V2.out.cells (i := 1) (A := some ⟨b, off, none⟩) (c := d) rfl rfl).strs (j := 2) rfl
    have hbl := (V2.out.lt (i := 1) (k := b) rfl rfl).2
    go_wp2_with fail
    refine (rnum_is HNV.out _ HNL.out).mono ?_
    rintro e w3 ⟨rfl, hb3⟩
    have V3 := Lib.hid (V2.out.go hb3)
    clear hb3 cd hbl
    go_wp2_with fail
    go_loopw [11] (fun i wr => ∃ k : Nat, k ≤ kw ∧ i = .int .i64 (k : Int) ∧ Hp w [snds A 1 c2' x.s, strs (some ⟨b, off, none⟩) 4 d [x.t, tx1 ya, dg2 x.c, wW x.w], sgbox g0 (none, 0) zSg] wr) (fun i _ => 5 - (intOf i).toNat)
    case atStart => exact ⟨0, Nat.zero_le _, rfl, V3.out⟩
    case round =>
      obtain ⟨k, hk, rfl, hV⟩ := hrel
      have V4 := Lib.hid hV
      clear hV
      obtain ⟨wi, rfl⟩ : ∃ wi : World, wi = wr := ⟨_, rfl⟩
      have HCC := Lib.hid (V4.out.cells (i := 1) (A := some ⟨b, off, none⟩) (c := d) rfl rfl)
      have ce := HCC.out.strs (j := 3) rfl
      have hbl := (V4.out.lt (i := 1) (k := b) rfl rfl).2
      have hk4' : 0 ≤ (k : Int) ∧ (k : Int) ≤ 4 := by omega
      go_upto_region 16 with fail
      have hKp : Keep [(⟨b, off + 3, none⟩, .string (bs (wW x.w)))] wi := List.forall_mem_cons.2 ⟨⟨ce, hbl⟩, fun _ h => by simp at h⟩
      clear ce hbl
      refine wp_region_held_drew (S := Keep _) (by kernel_rfl) hKp.drew (fun hHeld => ?_)
      obtain ⟨wd, hwd⟩ : ∃ z, z = wi.drew := ⟨_, rfl⟩
      have VD := Lib.hid (show Hp w [snds A 1 c2' x.s, strs (some ⟨b, off, none⟩) 4 d [x.t, tx1 ya, dg2 x.c, wW x.w], sgbox g0 (none, 0) zSg] wd by rw [hwd]; exact V4.out.go (bdrew _))
      rw [← hwd] at hHeld ⊢
      clear hwd
      by_cases hkk : k = kw
      · have e1 : ((bs (wW x.w)).toList == (bs (wW (k : Int))).toList) = true := by rw [toL, toL, HKW.out, hkk]; simp
        have HKK := Lib.hid hkk
        clear hkk hKp
        refine tk 0 ?_ rfl ?_ ?_; rotate_left; focus (intro w hSw; clear hSw; go_simp; try (with_reducible rfl))
        try simp only [Act.put, sA, sZ, sS]
        refine tk 1 ?_ rfl ?_ ?_; rotate_left; focus (intro w hSw; clear hSw; go_simp; try (with_reducible rfl))
        try simp only [Act.put, sA, sZ, sS]
        refine tk 2 ?_ rfl ?_ ?_; rotate_left; focus (intro w hSw; clear hSw; go_simp; try (with_reducible rfl))
        try simp only [Act.put, sA, sZ, sS]
        refine tk 3 ?_ rfl ?_ ?_; rotate_left; focus (intro w hSw; clear hSw; go_simp; try (with_reducible rfl))
        try simp only [Act.put, sA, sZ, sS]
        refine wpAnyH_take (i := 4) (v := .pointer (some ⟨b, off + 3, none⟩)) (List.getElem?_toArray.trans rfl) (by kernel_rfl) (by kernel_rfl) (by kernel_rfl) (fun _ _ _ h => h) (Or.inl ⟨by rfl, ?_⟩) (by assumption) ?_
        · intro w hSw; clear hSw; go_simp; rw [if_pos (by decide)]; rfl
        try simp only [Act.put, sA, sZ, sS]
        refine tk 5 ?_ rfl ?_ ?_; rotate_left
        · intro wl hSw
          have hSw : Keep _ wl := hSw
          have k0 := (hSw _ (.head _)).1
          dsimp only at k0
          clear hSw
          go_simp
          try (with_reducible rfl)
        try simp only [Act.put, sA, sZ, sS]
        refine tk 6 ?_ rfl ?_ ?_; rotate_left; focus (intro w hSw; clear hSw; go_simp; try (with_reducible rfl))
        try simp only [Act.put, sA, sZ, sS]
        refine wpAnyH_ready (rs := [7]) (by kernel_rfl) (by simp) ?_
        refine AllReadyH.cons (List.getElem?_toArray.trans rfl) (fun K hK => ?_) AllReadyH.nil
        go_simp
        refine (rwhere_any (k : Int) _ hk4').mono ?_
        rintro e w5 ⟨rfl, hb5⟩
        have V5 := Lib.hid (VD.out.go hb5)
        try go_wp2_with fail
        refine hK.out _ _ (hHeld.go hb5) (fun hHeld => ?_)
        clear hK K
        try simp only [Act.put, sA, sZ, sS]
        refine tk 8 ?_ rfl ?_ ?_; rotate_left; focus (intro w hSw; clear hSw; go_simp; try (with_reducible rfl))
        try simp only [Act.put, sA, sZ, sS]
        refine wpAnyH_done (by kernel_rfl) ?_ _

        have hbl := (V5.out.lt (i := 1) (k := b) rfl rfl).2
        have cz : w5.cell? ⟨b, off, none⟩ = some (.string (bs x.t)) := (V5.out.cells (i := 1) (A := some ⟨b, off, none⟩) (c := d) rfl rfl).strs (j := 0) rfl
        obtain ⟨⟨k0, k1, k2, k3⟩, ⟨f0, f1, f2, f3⟩, k4⟩ := V5.out.sgbox_all (i := 2) rfl
        dsimp only [zSg, List.length_nil] at k0 k1 k2 k3
        have V6 := Lib.hid (V5.out.sgbox_put (i := 2) rfl A c2' x)
        obtain rfl := HKK.out
        go_wp2_with fail
        refine bodyPost_ret (v := .tuple #[.agg #[.string (bs x.t), .slice A 1 c2', .int .i64 x.c, .int .i64 (k : Int)], .bool true]) (by simp [results, Tryz.results53, go_sem, k0, k1, k2, k3]) rfl ⟨A, c2', ?_, ?_⟩
        · rw [HKW.out, HXL.out]
        · have := V6.out
          rw [HKW.out, HXL.out] at this
          rw [HXL.out]
          exact this.pick [0] (by decide) (by simp [HXL.out])
      · have e1 : ((bs (wW x.w)).toList == (bs (wW (k : Int))).toList) = false := by
          rw [toL, toL, HKW.out, beq_eq_false_iff_ne]
          intro he
          exact hkk (wW_eq hk4 (by omega) he).symm
        clear hKp
        refine tk 0 ?_ rfl ?_ ?_; rotate_left; focus (intro w hSw; clear hSw; go_simp; try (with_reducible rfl))
        try simp only [Act.put, sA, sZ, sS]
        refine tk 1 ?_ rfl ?_ ?_; rotate_left; focus (intro w hSw; clear hSw; go_simp; try (with_reducible rfl))
        try simp only [Act.put, sA, sZ, sS]
        refine tk 2 ?_ rfl ?_ ?_; rotate_left; focus (intro w hSw; clear hSw; go_simp; try (with_reducible rfl))
        try simp only [Act.put, sA, sZ, sS]
        refine tk 3 ?_ rfl ?_ ?_; rotate_left; focus (intro w hSw; clear hSw; go_simp; try (with_reducible rfl))
        try simp only [Act.put, sA, sZ, sS]
        refine wpAnyH_take (i := 4) (v := .pointer (some ⟨b, off + 3, none⟩)) (List.getElem?_toArray.trans rfl) (by kernel_rfl) (by kernel_rfl) (by kernel_rfl) (fun _ _ _ h => h) (Or.inl ⟨by rfl, ?_⟩) (by assumption) ?_
        · intro w hSw; clear hSw; go_simp; rw [if_pos (by decide)]; rfl
        try simp only [Act.put, sA, sZ, sS]
        refine tk 5 ?_ rfl ?_ ?_; rotate_left
        · intro wl hSw
          have hSw : Keep _ wl := hSw
          have k0 := (hSw _ (.head _)).1
          dsimp only at k0
          clear hSw
          go_simp
          try (with_reducible rfl)
        try simp only [Act.put, sA, sZ, sS]
        refine tk 6 ?_ rfl ?_ ?_; rotate_left; focus (intro w hSw; clear hSw; go_simp; try (with_reducible rfl))
        try simp only [Act.put, sA, sZ, sS]
        refine wpAnyH_ready (rs := [7]) (by kernel_rfl) (by simp) ?_
        refine AllReadyH.cons (List.getElem?_toArray.trans rfl) (fun K hK => ?_) AllReadyH.nil
        go_simp
        refine (rwhere_any (k : Int) _ hk4').mono ?_
        rintro e w5 ⟨rfl, hb5⟩
        have V5 := Lib.hid (VD.out.go hb5)
        try go_wp2_with fail
        refine hK.out _ _ (hHeld.go hb5) (fun hHeld => ?_)
        clear hK K
        try simp only [Act.put, sA, sZ, sS]
        refine tk 8 ?_ rfl ?_ ?_; rotate_left; focus (intro w hSw; clear hSw; go_simp; try (with_reducible rfl))
        try simp only [Act.put, sA, sZ, sS]
        refine wpAnyH_done (by kernel_rfl) ?_ _

        clear e1
        go_wp2_with fail
        go_roundw
        case rel => exact ⟨k + 1, by omega, by go_num, V5.out⟩
        case measure => simp [intOf]; omega
set_option maxHeartbeats 3000000 in
theorem rline_2 (x : Sg) (ya yb : Snd) (hxs : x.s = [ya, yb]) (hx : sgE x = 0) (w : World) :
    Calls Tryz.prog 53 #[.string (bs (lnS x))] w (SgPost x w) := by
  obtain ⟨h1, h2, h3, h4, h5⟩ := sgE_zero hx
  have HNE := Lib.hid (show ∀ u ∈ splL isSp (bs (lnS x)).data.toList, u ≠ [] by rw [bs_list, lnS_split hx]; exact ptS_ne hx)
  have HP := Lib.hid (show splL isSp (bs (lnS x)).data.toList = [x.t, tx1 ya, tx1 yb, dg2 x.c, wW x.w] by rw [bs_list, lnS_split hx]; unfold ptS; rw [hxs]; rfl)
  have hz : (bs (lnS x)).size ≤ 20000 := by rw [bs_size]; have := (lnS_len hx).1; omega
  have HPS := Lib.hid (show prsV (bs (txL x.s)).data.toList = (x.s, 0) by rw [bs_list]; exact prs_sounds hx)
  have hlt := txL_len h3
  have hl2 : x.s.length = 2 := by rw [hxs]; rfl
  have HXL := Lib.hid hl2
  have HPL := Lib.hid (show (bs (txL x.s)).size ≤ 140737488355328 by rw [bs_size]; omega)
  have HNV := Lib.hid (show K.numV (bs (dg2 x.c)).data.toList = (x.c, true) by rw [bs_list]; exact (dg_any h4).1)
  have HNL := Lib.hid (show (bs (dg2 x.c)).size ≤ maxLen by rw [bs_size]; have := (dg_any h4).2.2.1; unfold maxLen; omega)
  obtain ⟨kw, hkw, hk4⟩ := ww_nat h5
  have HKW := Lib.hid hkw
  have HT1 := Lib.hid (show bs (txL (x.s.take 1)) = bs (tx1 ya) by rw [hxs]; rfl)
  have HTM := Lib.hid (show x.s.take 2 = x.s by rw [hxs]; rfl)
  have HA := Lib.hid h3
  have HXS := Lib.hid hxs
  have HT2 := Lib.hid (show txL x.s = tx1 ya ++ 32 :: tx1 yb by rw [hxs]; rfl)
  have hl1 : (bs (tx1 ya)).size ≤ 11 := by rw [bs_size]; exact tx1_len (h3 ya (by rw [hxs]; exact .head _))
  have hl2' : (bs (tx1 yb)).size ≤ 11 := by rw [bs_size]; exact tx1_len (h3 yb (by rw [hxs]; exact .tail _ (.head _)))
  obtain ⟨g0, hg0⟩ : ∃ z, z = w.heap.size := ⟨_, rfl⟩
  obtain ⟨W0, hW0⟩ : ∃ z, z = w.alloc (.cells #[.string ⟨#[]⟩, .slice none 0 0, .int .i64 0, .int .i64 0] 64) := ⟨_, rfl⟩
  have V0 := Lib.hid (show Hp w [sgbox g0 (none, 0) zSg] W0 by rw [hW0, hg0]; exact (Hp.start w).sgbox_new none 0 zSg)
  have HW0 := Lib.hid hW0
  have HG0 := Lib.hid hg0
  clear h1 h2 h3 h4 h5 hx hxs hlt hl2 hkw hW0 hg0
  go_enter Tryz.func53, Tryz.ntmps53
  go_upto_region 1 with fail
  rw [← HG0.out, ← HW0.out]
  go_wp2_with fail
  refine (words_any _ _ hz HNE.out).mono ?_
  rintro e w1 ⟨C, q, d, rfl, hq, hp⟩
  rw [HP.out] at hq hp
  obtain rfl : q = 5 := hq.symm
  obtain ⟨b, off, rfl, hbl, c0⟩ := (hp.cells (i := 0) rfl rfl).str (j := 0) rfl
  have HC := Lib.hid (hp.cells (i := 0) (A := some ⟨b, off, none⟩) (c := d) rfl rfl)
  have c1 := HC.out.strs (j := 1) rfl
  have c2 := HC.out.strs (j := 2) rfl
  have c3 := HC.out.strs (j := 3) rfl
  have c4 := HC.out.strs (j := 4) rfl
  have V1 := Lib.hid (show Hp w [strs (some ⟨b, off, none⟩) 5 d [x.t, tx1 ya, tx1 yb, dg2 x.c, wW x.w], sgbox g0 (none, 0) zSg] w1 from V0.out.join hp)
  clear hp hz hq
  go_wp2_with fail
  go_loopw [5, 6] (fun v i wr => ∃ (k : Nat) (u : ByteArray), 2 ≤ k ∧ k ≤ 3 ∧ i = .int .i64 (k : Int) ∧ v = .string u ∧ u = bs (txL (x.s.take (k - 1))) ∧ wr = w1) (fun _ i _ => 3 - (intOf i).toNat)
  case atStart => exact ⟨2, bs (tx1 ya), Nat.le_refl _, by omega, rfl, rfl, HT1.out.symm, rfl⟩
  case round =>
    obtain ⟨k, u, hk2, hk, rfl, rfl, hu, rfl⟩ := hrel
    have HU := Lib.hid hu
    clear hu
    by_cases hlt : k < 3
    · obtain rfl : k = 2 := by omega
      have HU2 := Lib.hid (show u = bs (tx1 ya) by rw [HU.out]; exact HT1.out)
      clear hk hk2 hlt
      have hus : u.size ≤ 11 := by rw [HU2.out]; exact hl1
      have hp32 : (⟨#[32]⟩ : ByteArray).size = 1 := rfl
      obtain ⟨u1, hu1⟩ : ∃ z, z = u ++ (⟨#[32]⟩ : ByteArray) := ⟨_, rfl⟩
      have hz1 : u1.size ≤ 12 := by rw [hu1, ByteArray.size_append]; omega
      have s1 := add_run u (⟨#[32]⟩ : ByteArray) (by omega)
      rw [← hu1] at s1
      obtain ⟨u2, hu2⟩ : ∃ z, z = u1 ++ bs (tx1 yb) := ⟨_, rfl⟩
      have s2 := add_run u1 (bs (tx1 yb)) (by omega)
      rw [← hu2] at s2
      have HN := Lib.hid (show u2 = bs (txL (x.s.take (3 - 1))) from bs_of (by rw [hu2, hu1, HU2.out, show 3 - 1 = 2 from rfl, HTM.out, HT2.out]; simp only [cat_any, bs_list]; simp))
      clear hu1 hu2
      go_wp2_with fail
      go_roundw
      case rel => exact ⟨3, u2, by omega, by omega, rfl, rfl, HN.out, trivial⟩
      case measure => simp [intOf]
    · obtain rfl : k = 3 := by omega
      have hu1 : u = bs (txL x.s) := by rw [HU.out, show 3 - 1 = 2 from rfl, HTM.out]
      clear c1 c2 c3 c4 hbl
      go_wp2_with fail
      rw [hu1]
      clear hu1
      refine (rparse_any _ _ x.s 0 HPS.out HPL.out).mono ?_
      rintro e w2 ⟨A, n2, c2', rfl, hn2, hp2⟩
      obtain rfl : n2 = 2 := by rw [← hn2]; exact HXL.out
      have V2 := Lib.hid (show Hp w [snds A 2 c2' x.s, strs (some ⟨b, off, none⟩) 5 d [x.t, tx1 ya, tx1 yb, dg2 x.c, wW x.w], sgbox g0 (none, 0) zSg] w2 from V1.out.join hp2)
      clear hp2 hn2
      have cd := (V2.out.cells (i := 1) (A := some ⟨b, off, none⟩) (c := d) rfl rfl).strs (j := 3) rfl
      have hbl := (V2.out.lt (i := 1) (k := b) rfl rfl).2
      go_wp2_with fail
      refine (rnum_is HNV.out _ HNL.out).mono ?_
      rintro e w3 ⟨rfl, hb3⟩
      have V3 := Lib.hid (V2.out.go hb3)
      clear hb3 cd hbl
      go_wp2_with fail
      go_loopw [11] (fun i wr => ∃ k : Nat, k ≤ kw ∧ i = .int .i64 (k : Int) ∧ Hp w [snds A 2 c2' x.s, strs (some ⟨b, off, none⟩) 5 d [x.t, tx1 ya, tx1 yb, dg2 x.c, wW x.w], sgbox g0 (none, 0) zSg] wr) (fun i _ => 5 - (intOf i).toNat)
      case atStart => exact ⟨0, Nat.zero_le _, rfl, V3.out⟩
      case round =>
        obtain ⟨k, hk, rfl, hV⟩ := hrel
        have V4 := Lib.hid hV
        clear hV
        obtain ⟨wi, rfl⟩ : ∃ wi : World, wi = wr := ⟨_, rfl⟩
        have HCC := Lib.hid (V4.out.cells (i := 1) (A := some ⟨b, off, none⟩) (c := d) rfl rfl)
        have ce := HCC.out.strs (j := 4) rfl
        have hbl := (V4.out.lt (i := 1) (k := b) rfl rfl).2
        have hk4' : 0 ≤ (k : Int) ∧ (k : Int) ≤ 4 := by omega
        go_upto_region 16 with fail
        have hKp : Keep [(⟨b, off + 4, none⟩, .string (bs (wW x.w)))] wi := List.forall_mem_cons.2 ⟨⟨ce, hbl⟩, fun _ h => by simp at h⟩
        clear ce hbl
        refine wp_region_held_drew (S := Keep _) (by kernel_rfl) hKp.drew (fun hHeld => ?_)
        obtain ⟨wd, hwd⟩ : ∃ z, z = wi.drew := ⟨_, rfl⟩
        have VD := Lib.hid (show Hp w [snds A 2 c2' x.s, strs (some ⟨b, off, none⟩) 5 d [x.t, tx1 ya, tx1 yb, dg2 x.c, wW x.w], sgbox g0 (none, 0) zSg] wd by rw [hwd]; exact V4.out.go (bdrew _))
        rw [← hwd] at hHeld ⊢
        clear hwd
        by_cases hkk : k = kw
        · have e1 : ((bs (wW x.w)).toList == (bs (wW (k : Int))).toList) = true := by rw [toL, toL, HKW.out, hkk]; simp
          have HKK := Lib.hid hkk
          clear hkk hKp
          refine tk 0 ?_ rfl ?_ ?_; rotate_left; focus (intro w hSw; clear hSw; go_simp; try (with_reducible rfl))
          try simp only [Act.put, sA, sZ, sS]
          refine tk 1 ?_ rfl ?_ ?_; rotate_left; focus (intro w hSw; clear hSw; go_simp; try (with_reducible rfl))
          try simp only [Act.put, sA, sZ, sS]
          refine tk 2 ?_ rfl ?_ ?_; rotate_left; focus (intro w hSw; clear hSw; go_simp; try (with_reducible rfl))
          try simp only [Act.put, sA, sZ, sS]
          refine tk 3 ?_ rfl ?_ ?_; rotate_left; focus (intro w hSw; clear hSw; go_simp; try (with_reducible rfl))
          try simp only [Act.put, sA, sZ, sS]
          refine wpAnyH_take (i := 4) (v := .pointer (some ⟨b, off + 4, none⟩)) (List.getElem?_toArray.trans rfl) (by kernel_rfl) (by kernel_rfl) (by kernel_rfl) (fun _ _ _ h => h) (Or.inl ⟨by rfl, ?_⟩) (by assumption) ?_
          · intro w hSw; clear hSw; go_simp; rw [if_pos (by decide)]; rfl
          try simp only [Act.put, sA, sZ, sS]
          refine tk 5 ?_ rfl ?_ ?_; rotate_left
          · intro wl hSw
            have hSw : Keep _ wl := hSw
            have k0 := (hSw _ (.head _)).1
            dsimp only at k0
            clear hSw
            go_simp
            try (with_reducible rfl)
          try simp only [Act.put, sA, sZ, sS]
          refine tk 6 ?_ rfl ?_ ?_; rotate_left; focus (intro w hSw; clear hSw; go_simp; try (with_reducible rfl))
          try simp only [Act.put, sA, sZ, sS]
          refine wpAnyH_ready (rs := [7]) (by kernel_rfl) (by simp) ?_
          refine AllReadyH.cons (List.getElem?_toArray.trans rfl) (fun K hK => ?_) AllReadyH.nil
          go_simp
          refine (rwhere_any (k : Int) _ hk4').mono ?_
          rintro e w5 ⟨rfl, hb5⟩
          have V5 := Lib.hid (VD.out.go hb5)
          try go_wp2_with fail
          refine hK.out _ _ (hHeld.go hb5) (fun hHeld => ?_)
          clear hK K
          try simp only [Act.put, sA, sZ, sS]
          refine tk 8 ?_ rfl ?_ ?_; rotate_left; focus (intro w hSw; clear hSw; go_simp; try (with_reducible rfl))
          try simp only [Act.put, sA, sZ, sS]
          refine wpAnyH_done (by kernel_rfl) ?_ _

          have hbl := (V5.out.lt (i := 1) (k := b) rfl rfl).2
          have cz : w5.cell? ⟨b, off, none⟩ = some (.string (bs x.t)) := (V5.out.cells (i := 1) (A := some ⟨b, off, none⟩) (c := d) rfl rfl).strs (j := 0) rfl
          obtain ⟨⟨k0, k1, k2, k3⟩, ⟨f0, f1, f2, f3⟩, k4⟩ := V5.out.sgbox_all (i := 2) rfl
          dsimp only [zSg, List.length_nil] at k0 k1 k2 k3
          have V6 := Lib.hid (V5.out.sgbox_put (i := 2) rfl A c2' x)
          obtain rfl := HKK.out
          go_wp2_with fail
          refine bodyPost_ret (v := .tuple #[.agg #[.string (bs x.t), .slice A 2 c2', .int .i64 x.c, .int .i64 (k : Int)], .bool true]) (by simp [results, Tryz.results53, go_sem, k0, k1, k2, k3]) rfl ⟨A, c2', ?_, ?_⟩
          · rw [HKW.out, HXL.out]
          · have := V6.out
            rw [HKW.out, HXL.out] at this
            rw [HXL.out]
            exact this.pick [0] (by decide) (by simp [HXL.out])
        · have e1 : ((bs (wW x.w)).toList == (bs (wW (k : Int))).toList) = false := by
            rw [toL, toL, HKW.out, beq_eq_false_iff_ne]
            intro he
            exact hkk (wW_eq hk4 (by omega) he).symm
          clear hKp
          refine tk 0 ?_ rfl ?_ ?_; rotate_left; focus (intro w hSw; clear hSw; go_simp; try (with_reducible rfl))
          try simp only [Act.put, sA, sZ, sS]
          refine tk 1 ?_ rfl ?_ ?_; rotate_left; focus (intro w hSw; clear hSw; go_simp; try (with_reducible rfl))
          try simp only [Act.put, sA, sZ, sS]
          refine tk 2 ?_ rfl ?_ ?_; rotate_left; focus (intro w hSw; clear hSw; go_simp; try (with_reducible rfl))
          try simp only [Act.put, sA, sZ, sS]
          refine tk 3 ?_ rfl ?_ ?_; rotate_left; focus (intro w hSw; clear hSw; go_simp; try (with_reducible rfl))
          try simp only [Act.put, sA, sZ, sS]
          refine wpAnyH_take (i := 4) (v := .pointer (some ⟨b, off + 4, none⟩)) (List.getElem?_toArray.trans rfl) (by kernel_rfl) (by kernel_rfl) (by kernel_rfl) (fun _ _ _ h => h) (Or.inl ⟨by rfl, ?_⟩) (by assumption) ?_
          · intro w hSw; clear hSw; go_simp; rw [if_pos (by decide)]; rfl
          try simp only [Act.put, sA, sZ, sS]
          refine tk 5 ?_ rfl ?_ ?_; rotate_left
          · intro wl hSw
            have hSw : Keep _ wl := hSw
            have k0 := (hSw _ (.head _)).1
            dsimp only at k0
            clear hSw
            go_simp
            try (with_reducible rfl)
          try simp only [Act.put, sA, sZ, sS]
          refine tk 6 ?_ rfl ?_ ?_; rotate_left; focus (intro w hSw; clear hSw; go_simp; try (with_reducible rfl))
          try simp only [Act.put, sA, sZ, sS]
          refine wpAnyH_ready (rs := [7]) (by kernel_rfl) (by simp) ?_
          refine AllReadyH.cons (List.getElem?_toArray.trans rfl) (fun K hK => ?_) AllReadyH.nil
          go_simp
          refine (rwhere_any (k : Int) _ hk4').mono ?_
          rintro e w5 ⟨rfl, hb5⟩
          have V5 := Lib.hid (VD.out.go hb5)
          try go_wp2_with fail
          refine hK.out _ _ (hHeld.go hb5) (fun hHeld => ?_)
          clear hK K
          try simp only [Act.put, sA, sZ, sS]
          refine tk 8 ?_ rfl ?_ ?_; rotate_left; focus (intro w hSw; clear hSw; go_simp; try (with_reducible rfl))
          try simp only [Act.put, sA, sZ, sS]
          refine wpAnyH_done (by kernel_rfl) ?_ _

          clear e1
          go_wp2_with fail
          go_roundw
          case rel => exact ⟨k + 1, by omega, by go_num, V5.out⟩
          case measure => simp [intOf]; omega
theorem rline_good (x : Sg) (hx : sgE x = 0) (w : World) : Calls Tryz.prog 53 #[.string (bs (lnS x))] w (SgPost x w) := by
  obtain ⟨_, ⟨h1, h2⟩, _⟩ := sgE_zero hx
  match hs : x.s with
  | [] => rw [hs] at h1; exact absurd h1 (by decide)
  | [ya] => exact rline_1 x ya hs hx w
  | [ya, yb] => exact rline_2 x ya yb hs hx w
  | a :: b :: c :: r => rw [hs] at h2; simp only [List.length_cons] at h2; exact absurd h2 (by omega)
def orthW : List UInt8 := [111, 114, 116, 104, 111, 103, 114, 97, 112, 104, 121]
theorem head_split {nm : List UInt8} (h : K.nameB nm = true) : splL isSp (hdO ++ nm) = [orthW, nm] := by
  obtain ⟨h1, h2, h3⟩ := name_bd h
  rw [show hdO ++ nm = orthW ++ 32 :: nm from rfl, splitL_cut32 (by decide), splitL_none32 (fun c hc => (h3 c hc).1)]
theorem head_ne {nm : List UInt8} (h : K.nameB nm = true) : ∀ u ∈ splL isSp (bs (hdO ++ nm)).data.toList, u ≠ [] := by
  rw [bs_list, head_split h]
  intro u hu
  simp only [List.mem_cons, List.not_mem_nil, or_false] at hu
  rcases hu with rfl | rfl
  · decide
  · intro e; have := (name_bd h).1; rw [e] at this; exact absurd this (by decide)
set_option maxHeartbeats 2000000 in
theorem rline_head (nm : List UInt8) (h : K.nameB nm = true) (w : World) : Calls Tryz.prog 53 #[.string (bs (hdO ++ nm))] w fun e w' => e = .returned (.tuple #[.agg #[.string ⟨#[]⟩, .slice none 0 0, .int .i64 0, .int .i64 0], .bool false]) ∧ Below w.heap.size w w' := by
  have HNE := Lib.hid (head_ne h)
  have HP := Lib.hid (show splL isSp (bs (hdO ++ nm)).data.toList = [orthW, nm] by rw [bs_list, head_split h])
  have hz : (bs (hdO ++ nm)).size ≤ 20000 := by rw [bs_size, List.length_append, hdO_len]; have := (name_bd h).2.1; omega
  obtain ⟨g0, hg0⟩ : ∃ z, z = w.heap.size := ⟨_, rfl⟩
  obtain ⟨W0, hW0⟩ : ∃ z, z = w.alloc (.cells #[.string ⟨#[]⟩, .slice none 0 0, .int .i64 0, .int .i64 0] 64) := ⟨_, rfl⟩
  have V0 := Lib.hid (show Hp w [sgbox g0 (none, 0) zSg] W0 by rw [hW0, hg0]; exact (Hp.start w).sgbox_new none 0 zSg)
  have HW0 := Lib.hid hW0
  have HG0 := Lib.hid hg0
  clear hW0 hg0 h
  go_enter Tryz.func53, Tryz.ntmps53
  go_upto_region 1 with fail
  rw [← HG0.out, ← HW0.out]
  go_wp2_with fail
  refine (words_any _ _ hz HNE.out).mono ?_
  rintro e w1 ⟨C, q, d, rfl, hq, hp⟩
  rw [HP.out] at hq hp
  obtain rfl : q = 2 := hq.symm
  have V1 := Lib.hid (show Hp w [strs C 2 d [orthW, nm], sgbox g0 (none, 0) zSg] w1 from V0.out.join hp)
  obtain ⟨⟨k0, k1, k2, k3⟩, ⟨f0, f1, f2, f3⟩, k4⟩ := V1.out.sgbox_all (i := 1) rfl
  dsimp only [zSg, List.length_nil] at k0 k1 k2 k3
  have V2 := Lib.hid (V1.out.sgbox_put (i := 1) rfl none 0 zSg)
  clear hp hq
  go_wp2_with fail
  refine bodyPost_ret (v := .tuple #[.agg #[.string ⟨#[]⟩, .slice none 0 0, .int .i64 0, .int .i64 0], .bool false]) (by simp [results, Tryz.results53, go_sem, k0, k1, k2, k3]) rfl ⟨rfl, V2.out.below⟩
theorem lines_cut {x r : List UInt8} (h : ∀ c ∈ x, c ≠ 10) : K.linesV (x ++ 10 :: r) = x :: K.linesV r := by
  unfold K.linesV
  rw [K.splitS_cut h]
  rfl
theorem lines_lnsO : ∀ {L : List Sg}, (∀ x ∈ L, sgE x = 0) → K.linesV (lnsO L) = L.map lnS
  | [], _ => rfl
  | x :: r, h => by
    rw [lnsO_cons, lines_cut (lnS_10 (h x (.head _))), lines_lnsO (fun y hy => h y (.tail _ hy))]
    rfl
theorem lines_txO {nm : List UInt8} {L : List Sg} (hv : (vO nm L).2 = 0) : K.linesV (txO nm L) = (hdO ++ nm) :: L.map lnS := by
  obtain ⟨h1, _, _, h4⟩ := vO_zero hv
  have e : txO nm L = (hdO ++ nm) ++ 10 :: lnsO L := by unfold txO; simp
  rw [e, lines_cut (hd_10 h1), lines_lnsO h4]
end Go.Proofs.YtjamfcihjendiaaGreat
