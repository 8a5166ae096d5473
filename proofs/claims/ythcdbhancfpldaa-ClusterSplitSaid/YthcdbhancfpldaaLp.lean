/- Contract of Join of the program. -/
import Derived.Test.YthcdbhancfpldaaLk
import Derived.Test.YthcdbhancfpldaaLh
namespace Go.Proofs.Ythcdbhancfpldaa
open Go.RowKit
set_option linter.unusedVariables false
set_option linter.unusedSimpArgs false
set_option maxRecDepth 100000

theorem rws2 {w : World} {g size : Nat} {A B : Option Addr} {n c m d : Nat} {x y : List Value} (hv : CellsIn w (some ⟨g, 0, none⟩) [.slice A n c, .slice B m d]) (hx : x.length = n * size) (hy : y.length = m * size) (cx : CellsIn w A x) (cy : CellsIn w B y) (ox : ∀ u ∈ x, u.oneCell' = true) (oy : ∀ u ∈ y, u.oneCell' = true) : Rws w (some ⟨g, 0, none⟩) size [(A, n, c), (B, m, d)] [x, y] := by
  refine ⟨rfl, hv, fun j v z hj hz => ?_⟩
  match j with
  | 0 =>
    injection hj with hj
    injection hz with hz
    subst hj hz
    exact ⟨hx, cx, ox⟩
  | 1 =>
    injection hj with hj
    injection hz with hz
    subst hj hz
    exact ⟨hy, cy, oy⟩
  | j + 2 => simp at hj
theorem sumV2 (A B : Option Addr) (n c m d : Nat) : sumV [(A, n, c), (B, m, d)] = n + m := by simp [sumV]
theorem ints_cat (L M : List Int) : ints (L ++ M) = ints L ++ ints M := by unfold ints; rw [List.map_append]
/-- What Join returns. -/
def jnR (a b : Clu) : Clu × Int := if vC a ≠ 0 then (⟨[], []⟩, vC a) else if vC b ≠ 0 then (⟨[], []⟩, vC b) else if 12 < a.s.length + b.s.length ∨ 12 < a.b.length + b.b.length then (⟨[], []⟩, 3) else (jnC a b, 0)
def JnPost (a b : Clu) (w : World) (e : Ending) (w' : World) : Prop := ∃ A n c B m d, e = .returned (.tuple #[.agg #[.slice A n c, .slice B m d], .int .i64 (jnR a b).2]) ∧ CIn w' A n B m (jnR a b).1 ∧ Hp w [snds A n c (jnR a b).1.s, nums B m d (jnR a b).1.b] w'
set_option maxHeartbeats 16000000 in
theorem cjoin_any (X Y : Clu) (A : Option Addr) (n c : Nat) (B : Option Addr) (m d : Nat) (P : Option Addr) (p e : Nat) (Q : Option Addr) (q f : Nat) (w : World) (hX : CIn w A n B m X) (hY : CIn w P p Q q Y) :
    Calls Try.prog 24 #[.agg #[.slice A n c, .slice B m d], .agg #[.slice P p e, .slice Q q f]] w (JnPost X Y w) := by
  have HX := Lib.hid hX
  have HY := Lib.hid hY
  obtain ⟨g0, hg0⟩ : ∃ z, z = w.heap.size := ⟨_, rfl⟩
  obtain ⟨g1, hg1⟩ : ∃ z, z = w.heap.size + 1 := ⟨_, rfl⟩
  obtain ⟨g2, hg2⟩ : ∃ z, z = g1 + 1 := ⟨_, rfl⟩
  obtain ⟨W0, hW0⟩ : ∃ z, z = ((w.alloc (.cells #[.slice A n c, .slice B m d] 25)).alloc (.cells #[.slice P p e, .slice Q q f] 25)).alloc (.cells #[.slice none 0 0, .slice none 0 0] 25) := ⟨_, rfl⟩
  have V1 := Lib.hid (show Hp w [cbox g2 none 0 0 none 0 0, cbox g1 P p e Q q f, cbox g0 A n c B m d] W0 by
    have := (((Hp.start w).cbox_new A n c B m d).cbox_new P p e Q q f).cbox_new none 0 0 none 0 0
    rw [show ((w.alloc (.cells #[.slice A n c, .slice B m d] 25)).alloc (.cells #[.slice P p e, .slice Q q f] 25)).heap.size = w.heap.size + 1 + 1 by simp, show (w.alloc (.cells #[.slice A n c, .slice B m d] 25)).heap.size = w.heap.size + 1 by simp, ← hg1, ← hg2, ← hg0] at this
    rw [hW0]; exact this)
  have HW0 := Lib.hid hW0
  have HG0 := Lib.hid hg0
  have HG1 := Lib.hid hg1
  have HG2 := Lib.hid hg2
  clear hX hY hW0 hg0 hg1 hg2
  obtain ⟨b0, b1, bg⟩ := V1.out.cbox_at (i := 2) rfl
  go_enter Try.func24, Try.ntmps24
  go_upto_region 1 with fail
  rw [← HW0.out, ← HG1.out, ← HG2.out, ← HG0.out]
  go_wp2_with fail
  refine (cvalid_any X A n c B m d _ (HX.out.below V1.out.below)).mono ?_
  rintro r w1 ⟨rfl, hb1⟩
  have V2 := Lib.hid (V1.out.go hb1)
  clear hb1 b0 b1 bg
  obtain ⟨v, hv⟩ : ∃ v, vC X = v := ⟨_, rfl⟩
  have HV := Lib.hid hv
  rw [hv]
  clear hv
  by_cases h0 : v = 0
  · subst h0
    obtain ⟨e0, e1, eg⟩ := V2.out.cbox_at (i := 1) rfl
    go_wp2_with fail
    refine (cvalid_any Y P p e Q q f _ (HY.out.below V2.out.below)).mono ?_
    rintro r w2 ⟨rfl, hb2⟩
    have V3 := Lib.hid (V2.out.go hb2)
    clear hb2 e0 e1 eg
    obtain ⟨u, hu⟩ : ∃ u, vC Y = u := ⟨_, rfl⟩
    have HU := Lib.hid hu
    rw [hu]
    clear hu
    by_cases h1 : u = 0
    · subst h1
      have HKX := Lib.hid (vC_zero.1 HV.out)
      have HKY := Lib.hid (vC_zero.1 HU.out)
      have hn : n ≤ 12 := by rw [← HX.out.ls]; exact HKX.out.ns
      have hm : m ≤ 12 := by rw [← HX.out.lb]; exact HKX.out.nb
      have hp : p ≤ 12 := by rw [← HY.out.ls]; exact HKY.out.ns
      have hq : q ≤ 12 := by rw [← HY.out.lb]; exact HKY.out.nb
      have HBY := Lib.hid (show ∀ a ∈ Y.b, -1000000000 ≤ a ∧ a ≤ 1000000000 from fun a ha => by
        have h1 := HKY.out.brk a ha
        have h2 := HKY.out.ns
        omega)
      have HR := Lib.hid (show jnR X Y = if 12 < n + p ∨ 12 < m + q then (⟨[], []⟩, 3) else (jnC X Y, 0) by
        unfold jnR; rw [if_neg (by simp [HV.out]), if_neg (by simp [HU.out]), HX.out.ls, HX.out.lb, HY.out.ls, HY.out.lb])
      go_upto_region 7 with fail
      go_cut [8] (fun r wx => ∃ g C1 f1 C2 f2, r = .pointer (some ⟨g, 0, none⟩) ∧ Hp w [cbox g C1 (n + p) f1 C2 (m + q) f2, snds C1 (n + p) f1 (X.s ++ Y.s), nums C2 (m + q) f2 (X.b ++ upB (n : Int) Y.b), cbox g2 none 0 0 none 0 0, cbox g1 P p e Q q f, cbox g0 A n c B m d] wx)
      case first =>
        have hKp : Keep [(⟨g0, 0, none⟩, .slice A n c), (⟨g0, 1, none⟩, .slice B m d), (⟨g1, 0, none⟩, .slice P p e), (⟨g1, 1, none⟩, .slice Q q f)] w2 := List.forall_mem_cons.2 ⟨⟨(V3.out.cbox_at (i := 2) rfl).1, (V3.out.cbox_at (i := 2) rfl).2.2⟩, List.forall_mem_cons.2 ⟨⟨(V3.out.cbox_at (i := 2) rfl).2.1, (V3.out.cbox_at (i := 2) rfl).2.2⟩, List.forall_mem_cons.2 ⟨⟨(V3.out.cbox_at (i := 1) rfl).1, (V3.out.cbox_at (i := 1) rfl).2.2⟩, List.forall_mem_cons.2 ⟨⟨(V3.out.cbox_at (i := 1) rfl).2.1, (V3.out.cbox_at (i := 1) rfl).2.2⟩, fun _ h => by simp at h⟩⟩⟩⟩
        refine wp_region_held_drew (S := Keep _) (by kernel_rfl) hKp.drew (fun hHeld => ?_)
        obtain ⟨wf, hwf⟩ : ∃ z, z = w2.drew := ⟨_, rfl⟩
        have Vwf := Lib.hid (show Hp w (cbox g2 none 0 0 none 0 0 :: cbox g1 P p e Q q f :: cbox g0 A n c B m d :: []) wf by rw [hwf]; exact V3.out.go (bdrew _))
        have Bwf := Lib.hid (show Below w2.heap.size w2 wf by rw [hwf]; exact bdrew _)
        rw [← hwf] at hHeld ⊢
        clear hwf hKp
        refine tk 0 ?_ rfl ?_ ?_; rotate_left; focus (intro w hSw; clear hSw; go_simp; try (with_reducible rfl))
        try simp only [Act.put, sA, sZ, sS]
        refine tk 1 ?_ rfl ?_ ?_; rotate_left
        · intro wl hSw
          have hSw : Keep _ wl := hSw
          have k0 := (hSw _ (.head _)).1
          dsimp only at k0
          clear hSw
          go_simp
          try (with_reducible rfl)
        try simp only [Act.put, sA, sZ, sS]
        refine tk 2 ?_ rfl ?_ ?_; rotate_left; focus (intro w hSw; clear hSw; go_simp; try (with_reducible rfl))
        try simp only [Act.put, sA, sZ, sS]
        refine tk 3 ?_ rfl ?_ ?_; rotate_left
        · intro wl hSw
          have hSw : Keep _ wl := hSw
          have k0 := (hSw _ (.tail _ (.tail _ (.head _)))).1
          dsimp only at k0
          clear hSw
          go_simp
          try (with_reducible rfl)
        try simp only [Act.put, sA, sZ, sS]
        refine tk 6 ?_ rfl ?_ ?_; rotate_left; focus (intro w hSw; clear hSw; go_simp; try (with_reducible rfl))
        try simp only [Act.put, sA, sZ, sS]
        refine tk 7 ?_ rfl ?_ ?_; rotate_left
        · intro wl hSw
          have hSw : Keep _ wl := hSw
          have k0 := (hSw _ (.tail _ (.head _))).1
          dsimp only at k0
          clear hSw
          go_simp
          try (with_reducible rfl)
        try simp only [Act.put, sA, sZ, sS]
        refine tk 8 ?_ rfl ?_ ?_; rotate_left; focus (intro w hSw; clear hSw; go_simp; try (with_reducible rfl))
        try simp only [Act.put, sA, sZ, sS]
        refine tk 9 ?_ rfl ?_ ?_; rotate_left
        · intro wl hSw
          have hSw : Keep _ wl := hSw
          have k0 := (hSw _ (.tail _ (.tail _ (.tail _ (.head _))))).1
          dsimp only at k0
          clear hSw
          go_simp
          try (with_reducible rfl)
        try simp only [Act.put, sA, sZ, sS]
        refine tk 10 ?_ rfl ?_ ?_; rotate_left; focus (intro w hSw; clear hSw; go_simp; try (with_reducible rfl))
        try simp only [Act.put, sA, sZ, sS]
        refine tk 11 ?_ rfl ?_ ?_; rotate_left
        · intro wl hSw
          have hSw : Keep _ wl := hSw
          have k0 := (hSw _ (.head _)).1
          dsimp only at k0
          clear hSw
          go_simp
          try (with_reducible rfl)
        try simp only [Act.put, sA, sZ, sS]
        refine tk 12 ?_ rfl ?_ ?_; rotate_left; focus (intro w hSw; clear hSw; go_simp; try (with_reducible rfl))
        try simp only [Act.put, sA, sZ, sS]
        refine wpAnyH_ready (rs := [4, 17]) (by kernel_rfl) (by simp) ?_
        refine AllReadyH.cons (List.getElem?_toArray.trans rfl) (fun K hK => ?_) ?_
        · obtain ⟨w_4, hw_4⟩ : ∃ z, z = wf.alloc (.cells #[.slice A n c, .slice P p e] 22) := ⟨_, rfl⟩
          obtain ⟨g_4, hg_4⟩ : ∃ z, z = wf.heap.size := ⟨_, rfl⟩
          have V_4 := Lib.hid (show Hp w (⟨22, 1, .slice (some ⟨g_4, 0, none⟩) 2 2, 2, [.slice A n c, .slice P p e]⟩ :: cbox g2 none 0 0 none 0 0 :: cbox g1 P p e Q q f :: cbox g0 A n c B m d :: []) w_4 by rw [hw_4, hg_4]; exact Vwf.out.lit 22 1 2 [.slice A n c, .slice P p e] rfl (by decide))
          have B_4 := Lib.hid (show Below wf.heap.size wf w_4 by rw [hw_4]; exact bnew _ _)
          have HW_4 := Lib.hid hw_4
          have HG_4 := Lib.hid hg_4
          clear hw_4 hg_4
          go_simp
          try rw [← HW_4.out]
          try rw [← HG_4.out]
          refine hK.out _ _ (hHeld.go B_4.out) (fun hHeld => ?_)
          clear hK K
          try simp only [Act.put, sA, sZ, sS]
          refine wpAnyH_ready (rs := [5, 17]) (by kernel_rfl) (by simp) ?_
          refine AllReadyH.cons (List.getElem?_toArray.trans rfl) (fun K hK => ?_) ?_
          · go_simp
            refine (concat_snd [(A, n, c), (P, p, e)] [sndsC X.s, sndsC Y.s] 2 2 _ _ rfl (by decide) (by rw [sumV2]; omega) (rws2 (V_4.out.cells (i := 0) (A := some ⟨g_4, 0, none⟩) (c := 2) rfl rfl) (by rw [sndsC_len, HX.out.ls]) (by rw [sndsC_len, HY.out.ls]) (HX.out.cs.below V_4.out.below) (HY.out.cs.below V_4.out.below) (sndsC_one _) (sndsC_one _))).mono ?_
            rintro r w_4_5 ⟨C1, f1, rfl, hpC⟩
            rw [sumV2] at hpC ⊢
            have V_4_5 := Lib.hid (show Hp w (snds C1 (n + p) f1 (X.s ++ Y.s) :: ⟨22, 1, .slice (some ⟨g_4, 0, none⟩) 2 2, 2, [.slice A n c, .slice P p e]⟩ :: cbox g2 none 0 0 none 0 0 :: cbox g1 P p e Q q f :: cbox g0 A n c B m d :: []) w_4_5 from V_4.out.join (show Hp _ [snds C1 (n + p) f1 (X.s ++ Y.s)] _ by unfold snds; rw [sndsC_cat]; simpa using hpC))
            have hbC := hpC.below
            try go_wp2_with fail
            refine hK.out _ _ (hHeld.go hbC) (fun hHeld => ?_)
            clear hK K
            try simp only [Act.put, sA, sZ, sS]
            refine wpAnyH_ready (rs := [13, 17]) (by kernel_rfl) (by simp) ?_
            refine AllReadyH.cons (List.getElem?_toArray.trans rfl) (fun K hK => ?_) ?_
            · go_simp
              refine (moved_any Y.b q f Q (n : Int) _ HY.out.lb (by omega) (by omega) HBY.out (HY.out.cb.below V_4_5.out.below)).mono ?_
              rintro r w_4_5_13 ⟨QM, fM, rfl, hpM⟩
              rw [HY.out.lb] at hpM ⊢
              have V_4_5_13 := Lib.hid (show Hp w (nums QM q fM (upB (n : Int) Y.b) :: snds C1 (n + p) f1 (X.s ++ Y.s) :: ⟨22, 1, .slice (some ⟨g_4, 0, none⟩) 2 2, 2, [.slice A n c, .slice P p e]⟩ :: cbox g2 none 0 0 none 0 0 :: cbox g1 P p e Q q f :: cbox g0 A n c B m d :: []) w_4_5_13 from V_4_5.out.join hpM)
              have hbM := hpM.below
              try go_wp2_with fail
              refine hK.out _ _ (hHeld.go hbM) (fun hHeld => ?_)
              clear hK K
              try simp only [Act.put, sA, sZ, sS]
              refine wpAnyH_ready (rs := [14, 17]) (by kernel_rfl) (by simp) ?_
              refine AllReadyH.cons (List.getElem?_toArray.trans rfl) (fun K hK => ?_) ?_
              · obtain ⟨w_4_5_13_14, hw_4_5_13_14⟩ : ∃ z, z = w_4_5_13.alloc (.cells #[.slice B m d, .slice QM q fM] 23) := ⟨_, rfl⟩
                obtain ⟨g_4_5_13_14, hg_4_5_13_14⟩ : ∃ z, z = w_4_5_13.heap.size := ⟨_, rfl⟩
                have V_4_5_13_14 := Lib.hid (show Hp w (⟨23, 1, .slice (some ⟨g_4_5_13_14, 0, none⟩) 2 2, 2, [.slice B m d, .slice QM q fM]⟩ :: nums QM q fM (upB (n : Int) Y.b) :: snds C1 (n + p) f1 (X.s ++ Y.s) :: ⟨22, 1, .slice (some ⟨g_4, 0, none⟩) 2 2, 2, [.slice A n c, .slice P p e]⟩ :: cbox g2 none 0 0 none 0 0 :: cbox g1 P p e Q q f :: cbox g0 A n c B m d :: []) w_4_5_13_14 by rw [hw_4_5_13_14, hg_4_5_13_14]; exact V_4_5_13.out.lit 23 1 2 [.slice B m d, .slice QM q fM] rfl (by decide))
                have B_4_5_13_14 := Lib.hid (show Below w_4_5_13.heap.size w_4_5_13 w_4_5_13_14 by rw [hw_4_5_13_14]; exact bnew _ _)
                have HW_4_5_13_14 := Lib.hid hw_4_5_13_14
                have HG_4_5_13_14 := Lib.hid hg_4_5_13_14
                clear hw_4_5_13_14 hg_4_5_13_14
                go_simp
                try rw [← HW_4_5_13_14.out]
                try rw [← HG_4_5_13_14.out]
                refine hK.out _ _ (hHeld.go B_4_5_13_14.out) (fun hHeld => ?_)
                clear hK K
                try simp only [Act.put, sA, sZ, sS]
                refine wpAnyH_ready (rs := [15, 17]) (by kernel_rfl) (by simp) ?_
                refine AllReadyH.cons (List.getElem?_toArray.trans rfl) (fun K hK => ?_) ?_
                · go_simp
                  refine (concat_int [(B, m, d), (QM, q, fM)] [ints X.b, ints (upB (n : Int) Y.b)] 2 2 _ _ rfl (by decide) (by rw [sumV2]; omega) (rws2 (V_4_5_13_14.out.cells (i := 0) (A := some ⟨g_4_5_13_14, 0, none⟩) (c := 2) rfl rfl) (by rw [ints_len, HX.out.lb, Nat.mul_one]) (by unfold upB; rw [ints_len, List.length_map, HY.out.lb, Nat.mul_one]) (HX.out.cb.below V_4_5_13_14.out.below) (V_4_5_13_14.out.cells (i := 1) (A := QM) (c := fM) rfl rfl) (ints_one' _) (ints_one' _))).mono ?_
                  rintro r w_4_5_13_14_15 ⟨C2, f2, rfl, hpD⟩
                  rw [sumV2] at hpD ⊢
                  have V_4_5_13_14_15 := Lib.hid (show Hp w (nums C2 (m + q) f2 (X.b ++ upB (n : Int) Y.b) :: ⟨23, 1, .slice (some ⟨g_4_5_13_14, 0, none⟩) 2 2, 2, [.slice B m d, .slice QM q fM]⟩ :: nums QM q fM (upB (n : Int) Y.b) :: snds C1 (n + p) f1 (X.s ++ Y.s) :: ⟨22, 1, .slice (some ⟨g_4, 0, none⟩) 2 2, 2, [.slice A n c, .slice P p e]⟩ :: cbox g2 none 0 0 none 0 0 :: cbox g1 P p e Q q f :: cbox g0 A n c B m d :: []) w_4_5_13_14_15 from V_4_5_13_14.out.join (show Hp _ [nums C2 (m + q) f2 (X.b ++ upB (n : Int) Y.b)] _ by unfold nums; rw [ints_cat]; simpa using hpD))
                  have hbD := hpD.below
                  try go_wp2_with fail
                  refine hK.out _ _ (hHeld.go hbD) (fun hHeld => ?_)
                  clear hK K
                  try simp only [Act.put, sA, sZ, sS]
                  refine tk 16 ?_ rfl ?_ ?_; rotate_left; focus (intro w hSw; clear hSw; go_simp; try (with_reducible rfl))
                  try simp only [Act.put, sA, sZ, sS]
                  refine wpAnyH_ready (rs := [17]) (by kernel_rfl) (by simp) ?_
                  refine AllReadyH.cons (List.getElem?_toArray.trans rfl) (fun K hK => ?_) AllReadyH.nil
                  obtain ⟨w_4_5_13_14_15_17, hw_4_5_13_14_15_17⟩ : ∃ z, z = w_4_5_13_14_15.alloc (.cells #[.slice none 0 0, .slice none 0 0] 25) := ⟨_, rfl⟩
                  obtain ⟨g_4_5_13_14_15_17, hg_4_5_13_14_15_17⟩ : ∃ z, z = w_4_5_13_14_15.heap.size := ⟨_, rfl⟩
                  have V_4_5_13_14_15_17 := Lib.hid (show Hp w (cbox g_4_5_13_14_15_17 none 0 0 none 0 0 :: nums C2 (m + q) f2 (X.b ++ upB (n : Int) Y.b) :: ⟨23, 1, .slice (some ⟨g_4_5_13_14, 0, none⟩) 2 2, 2, [.slice B m d, .slice QM q fM]⟩ :: nums QM q fM (upB (n : Int) Y.b) :: snds C1 (n + p) f1 (X.s ++ Y.s) :: ⟨22, 1, .slice (some ⟨g_4, 0, none⟩) 2 2, 2, [.slice A n c, .slice P p e]⟩ :: cbox g2 none 0 0 none 0 0 :: cbox g1 P p e Q q f :: cbox g0 A n c B m d :: []) w_4_5_13_14_15_17 by rw [hw_4_5_13_14_15_17, hg_4_5_13_14_15_17]; exact V_4_5_13_14_15.out.cbox_new none 0 0 none 0 0)
                  have B_4_5_13_14_15_17 := Lib.hid (show Below w_4_5_13_14_15.heap.size w_4_5_13_14_15 w_4_5_13_14_15_17 by rw [hw_4_5_13_14_15_17]; exact bnew _ _)
                  have HW_4_5_13_14_15_17 := Lib.hid hw_4_5_13_14_15_17
                  have HG_4_5_13_14_15_17 := Lib.hid hg_4_5_13_14_15_17
                  clear hw_4_5_13_14_15_17 hg_4_5_13_14_15_17
                  go_simp
                  try rw [← HW_4_5_13_14_15_17.out]
                  try rw [← HG_4_5_13_14_15_17.out]
                  refine hK.out _ _ (hHeld.go B_4_5_13_14_15_17.out) (fun hHeld => ?_)
                  clear hK K
                  try simp only [Act.put, sA, sZ, sS]
                  refine wpAnyH_ready (rs := [18]) (by kernel_rfl) (by simp) ?_
                  refine AllReadyH.cons (List.getElem?_toArray.trans rfl) (fun K hK => ?_) AllReadyH.nil
                  obtain ⟨⟨s0, s1, s2⟩, s3, s4⟩ := V_4_5_13_14_15_17.out.cbox_st (i := 0) rfl
                  have VX := Lib.hid (V_4_5_13_14_15_17.out.cbox_set (i := 0) rfl C1 (n + p) f1 C2 (m + q) f2)
                  go_simp
                  refine hK.out _ _ (List.forall_mem_cons.2 ⟨⟨(VX.out.cbox_at (i := 8) rfl).1, (VX.out.cbox_at (i := 8) rfl).2.2⟩, List.forall_mem_cons.2 ⟨⟨(VX.out.cbox_at (i := 8) rfl).2.1, (VX.out.cbox_at (i := 8) rfl).2.2⟩, List.forall_mem_cons.2 ⟨⟨(VX.out.cbox_at (i := 7) rfl).1, (VX.out.cbox_at (i := 7) rfl).2.2⟩, List.forall_mem_cons.2 ⟨⟨(VX.out.cbox_at (i := 7) rfl).2.1, (VX.out.cbox_at (i := 7) rfl).2.2⟩, fun _ h => by simp at h⟩⟩⟩⟩) (fun hHeld => ?_)
                  clear hK K
                  try simp only [Act.put, sA, sZ, sS]
                  refine wpAnyH_done (by kernel_rfl) ?_ _
                  clear hHeld
                  go_wp2_with fail
                  go_meet
                  exact ⟨_, _, _, _, _, rfl, VX.out.pick [0, 4, 1, 6, 7, 8] (by decide) rfl⟩
                refine AllReadyH.cons (List.getElem?_toArray.trans rfl) (fun K hK => ?_) ?_
                · obtain ⟨w_4_5_13_14_17, hw_4_5_13_14_17⟩ : ∃ z, z = w_4_5_13_14.alloc (.cells #[.slice none 0 0, .slice none 0 0] 25) := ⟨_, rfl⟩
                  obtain ⟨g_4_5_13_14_17, hg_4_5_13_14_17⟩ : ∃ z, z = w_4_5_13_14.heap.size := ⟨_, rfl⟩
                  have V_4_5_13_14_17 := Lib.hid (show Hp w (cbox g_4_5_13_14_17 none 0 0 none 0 0 :: ⟨23, 1, .slice (some ⟨g_4_5_13_14, 0, none⟩) 2 2, 2, [.slice B m d, .slice QM q fM]⟩ :: nums QM q fM (upB (n : Int) Y.b) :: snds C1 (n + p) f1 (X.s ++ Y.s) :: ⟨22, 1, .slice (some ⟨g_4, 0, none⟩) 2 2, 2, [.slice A n c, .slice P p e]⟩ :: cbox g2 none 0 0 none 0 0 :: cbox g1 P p e Q q f :: cbox g0 A n c B m d :: []) w_4_5_13_14_17 by rw [hw_4_5_13_14_17, hg_4_5_13_14_17]; exact V_4_5_13_14.out.cbox_new none 0 0 none 0 0)
                  have B_4_5_13_14_17 := Lib.hid (show Below w_4_5_13_14.heap.size w_4_5_13_14 w_4_5_13_14_17 by rw [hw_4_5_13_14_17]; exact bnew _ _)
                  have HW_4_5_13_14_17 := Lib.hid hw_4_5_13_14_17
                  have HG_4_5_13_14_17 := Lib.hid hg_4_5_13_14_17
                  clear hw_4_5_13_14_17 hg_4_5_13_14_17
                  go_simp
                  try rw [← HW_4_5_13_14_17.out]
                  try rw [← HG_4_5_13_14_17.out]
                  refine hK.out _ _ (hHeld.go B_4_5_13_14_17.out) (fun hHeld => ?_)
                  clear hK K
                  try simp only [Act.put, sA, sZ, sS]
                  refine wpAnyH_ready (rs := [15]) (by kernel_rfl) (by simp) ?_
                  refine AllReadyH.cons (List.getElem?_toArray.trans rfl) (fun K hK => ?_) AllReadyH.nil
                  go_simp
                  refine (concat_int [(B, m, d), (QM, q, fM)] [ints X.b, ints (upB (n : Int) Y.b)] 2 2 _ _ rfl (by decide) (by rw [sumV2]; omega) (rws2 (V_4_5_13_14_17.out.cells (i := 1) (A := some ⟨g_4_5_13_14, 0, none⟩) (c := 2) rfl rfl) (by rw [ints_len, HX.out.lb, Nat.mul_one]) (by unfold upB; rw [ints_len, List.length_map, HY.out.lb, Nat.mul_one]) (HX.out.cb.below V_4_5_13_14_17.out.below) (V_4_5_13_14_17.out.cells (i := 2) (A := QM) (c := fM) rfl rfl) (ints_one' _) (ints_one' _))).mono ?_
                  rintro r w_4_5_13_14_17_15 ⟨C2, f2, rfl, hpD⟩
                  rw [sumV2] at hpD ⊢
                  have V_4_5_13_14_17_15 := Lib.hid (show Hp w (nums C2 (m + q) f2 (X.b ++ upB (n : Int) Y.b) :: cbox g_4_5_13_14_17 none 0 0 none 0 0 :: ⟨23, 1, .slice (some ⟨g_4_5_13_14, 0, none⟩) 2 2, 2, [.slice B m d, .slice QM q fM]⟩ :: nums QM q fM (upB (n : Int) Y.b) :: snds C1 (n + p) f1 (X.s ++ Y.s) :: ⟨22, 1, .slice (some ⟨g_4, 0, none⟩) 2 2, 2, [.slice A n c, .slice P p e]⟩ :: cbox g2 none 0 0 none 0 0 :: cbox g1 P p e Q q f :: cbox g0 A n c B m d :: []) w_4_5_13_14_17_15 from V_4_5_13_14_17.out.join (show Hp _ [nums C2 (m + q) f2 (X.b ++ upB (n : Int) Y.b)] _ by unfold nums; rw [ints_cat]; simpa using hpD))
                  have hbD := hpD.below
                  try go_wp2_with fail
                  refine hK.out _ _ (hHeld.go hbD) (fun hHeld => ?_)
                  clear hK K
                  try simp only [Act.put, sA, sZ, sS]
                  refine tk 16 ?_ rfl ?_ ?_; rotate_left; focus (intro w hSw; clear hSw; go_simp; try (with_reducible rfl))
                  try simp only [Act.put, sA, sZ, sS]
                  refine wpAnyH_ready (rs := [18]) (by kernel_rfl) (by simp) ?_
                  refine AllReadyH.cons (List.getElem?_toArray.trans rfl) (fun K hK => ?_) AllReadyH.nil
                  obtain ⟨⟨s0, s1, s2⟩, s3, s4⟩ := V_4_5_13_14_17_15.out.cbox_st (i := 1) rfl
                  have VX := Lib.hid (V_4_5_13_14_17_15.out.cbox_set (i := 1) rfl C1 (n + p) f1 C2 (m + q) f2)
                  go_simp
                  refine hK.out _ _ (List.forall_mem_cons.2 ⟨⟨(VX.out.cbox_at (i := 8) rfl).1, (VX.out.cbox_at (i := 8) rfl).2.2⟩, List.forall_mem_cons.2 ⟨⟨(VX.out.cbox_at (i := 8) rfl).2.1, (VX.out.cbox_at (i := 8) rfl).2.2⟩, List.forall_mem_cons.2 ⟨⟨(VX.out.cbox_at (i := 7) rfl).1, (VX.out.cbox_at (i := 7) rfl).2.2⟩, List.forall_mem_cons.2 ⟨⟨(VX.out.cbox_at (i := 7) rfl).2.1, (VX.out.cbox_at (i := 7) rfl).2.2⟩, fun _ h => by simp at h⟩⟩⟩⟩) (fun hHeld => ?_)
                  clear hK K
                  try simp only [Act.put, sA, sZ, sS]
                  refine wpAnyH_done (by kernel_rfl) ?_ _
                  clear hHeld
                  go_wp2_with fail
                  go_meet
                  exact ⟨_, _, _, _, _, rfl, VX.out.pick [1, 4, 0, 6, 7, 8] (by decide) rfl⟩
                exact AllReadyH.nil
              refine AllReadyH.cons (List.getElem?_toArray.trans rfl) (fun K hK => ?_) ?_
              · obtain ⟨w_4_5_13_17, hw_4_5_13_17⟩ : ∃ z, z = w_4_5_13.alloc (.cells #[.slice none 0 0, .slice none 0 0] 25) := ⟨_, rfl⟩
                obtain ⟨g_4_5_13_17, hg_4_5_13_17⟩ : ∃ z, z = w_4_5_13.heap.size := ⟨_, rfl⟩
                have V_4_5_13_17 := Lib.hid (show Hp w (cbox g_4_5_13_17 none 0 0 none 0 0 :: nums QM q fM (upB (n : Int) Y.b) :: snds C1 (n + p) f1 (X.s ++ Y.s) :: ⟨22, 1, .slice (some ⟨g_4, 0, none⟩) 2 2, 2, [.slice A n c, .slice P p e]⟩ :: cbox g2 none 0 0 none 0 0 :: cbox g1 P p e Q q f :: cbox g0 A n c B m d :: []) w_4_5_13_17 by rw [hw_4_5_13_17, hg_4_5_13_17]; exact V_4_5_13.out.cbox_new none 0 0 none 0 0)
                have B_4_5_13_17 := Lib.hid (show Below w_4_5_13.heap.size w_4_5_13 w_4_5_13_17 by rw [hw_4_5_13_17]; exact bnew _ _)
                have HW_4_5_13_17 := Lib.hid hw_4_5_13_17
                have HG_4_5_13_17 := Lib.hid hg_4_5_13_17
                clear hw_4_5_13_17 hg_4_5_13_17
                go_simp
                try rw [← HW_4_5_13_17.out]
                try rw [← HG_4_5_13_17.out]
                refine hK.out _ _ (hHeld.go B_4_5_13_17.out) (fun hHeld => ?_)
                clear hK K
                try simp only [Act.put, sA, sZ, sS]
                refine wpAnyH_ready (rs := [14]) (by kernel_rfl) (by simp) ?_
                refine AllReadyH.cons (List.getElem?_toArray.trans rfl) (fun K hK => ?_) AllReadyH.nil
                obtain ⟨w_4_5_13_17_14, hw_4_5_13_17_14⟩ : ∃ z, z = w_4_5_13_17.alloc (.cells #[.slice B m d, .slice QM q fM] 23) := ⟨_, rfl⟩
                obtain ⟨g_4_5_13_17_14, hg_4_5_13_17_14⟩ : ∃ z, z = w_4_5_13_17.heap.size := ⟨_, rfl⟩
                have V_4_5_13_17_14 := Lib.hid (show Hp w (⟨23, 1, .slice (some ⟨g_4_5_13_17_14, 0, none⟩) 2 2, 2, [.slice B m d, .slice QM q fM]⟩ :: cbox g_4_5_13_17 none 0 0 none 0 0 :: nums QM q fM (upB (n : Int) Y.b) :: snds C1 (n + p) f1 (X.s ++ Y.s) :: ⟨22, 1, .slice (some ⟨g_4, 0, none⟩) 2 2, 2, [.slice A n c, .slice P p e]⟩ :: cbox g2 none 0 0 none 0 0 :: cbox g1 P p e Q q f :: cbox g0 A n c B m d :: []) w_4_5_13_17_14 by rw [hw_4_5_13_17_14, hg_4_5_13_17_14]; exact V_4_5_13_17.out.lit 23 1 2 [.slice B m d, .slice QM q fM] rfl (by decide))
                have B_4_5_13_17_14 := Lib.hid (show Below w_4_5_13_17.heap.size w_4_5_13_17 w_4_5_13_17_14 by rw [hw_4_5_13_17_14]; exact bnew _ _)
                have HW_4_5_13_17_14 := Lib.hid hw_4_5_13_17_14
                have HG_4_5_13_17_14 := Lib.hid hg_4_5_13_17_14
                clear hw_4_5_13_17_14 hg_4_5_13_17_14
                go_simp
                try rw [← HW_4_5_13_17_14.out]
                try rw [← HG_4_5_13_17_14.out]
                refine hK.out _ _ (hHeld.go B_4_5_13_17_14.out) (fun hHeld => ?_)
                clear hK K
                try simp only [Act.put, sA, sZ, sS]
                refine wpAnyH_ready (rs := [15]) (by kernel_rfl) (by simp) ?_
                refine AllReadyH.cons (List.getElem?_toArray.trans rfl) (fun K hK => ?_) AllReadyH.nil
                go_simp
                refine (concat_int [(B, m, d), (QM, q, fM)] [ints X.b, ints (upB (n : Int) Y.b)] 2 2 _ _ rfl (by decide) (by rw [sumV2]; omega) (rws2 (V_4_5_13_17_14.out.cells (i := 0) (A := some ⟨g_4_5_13_17_14, 0, none⟩) (c := 2) rfl rfl) (by rw [ints_len, HX.out.lb, Nat.mul_one]) (by unfold upB; rw [ints_len, List.length_map, HY.out.lb, Nat.mul_one]) (HX.out.cb.below V_4_5_13_17_14.out.below) (V_4_5_13_17_14.out.cells (i := 2) (A := QM) (c := fM) rfl rfl) (ints_one' _) (ints_one' _))).mono ?_
                rintro r w_4_5_13_17_14_15 ⟨C2, f2, rfl, hpD⟩
                rw [sumV2] at hpD ⊢
                have V_4_5_13_17_14_15 := Lib.hid (show Hp w (nums C2 (m + q) f2 (X.b ++ upB (n : Int) Y.b) :: ⟨23, 1, .slice (some ⟨g_4_5_13_17_14, 0, none⟩) 2 2, 2, [.slice B m d, .slice QM q fM]⟩ :: cbox g_4_5_13_17 none 0 0 none 0 0 :: nums QM q fM (upB (n : Int) Y.b) :: snds C1 (n + p) f1 (X.s ++ Y.s) :: ⟨22, 1, .slice (some ⟨g_4, 0, none⟩) 2 2, 2, [.slice A n c, .slice P p e]⟩ :: cbox g2 none 0 0 none 0 0 :: cbox g1 P p e Q q f :: cbox g0 A n c B m d :: []) w_4_5_13_17_14_15 from V_4_5_13_17_14.out.join (show Hp _ [nums C2 (m + q) f2 (X.b ++ upB (n : Int) Y.b)] _ by unfold nums; rw [ints_cat]; simpa using hpD))
                have hbD := hpD.below
                try go_wp2_with fail
                refine hK.out _ _ (hHeld.go hbD) (fun hHeld => ?_)
                clear hK K
                try simp only [Act.put, sA, sZ, sS]
                refine tk 16 ?_ rfl ?_ ?_; rotate_left; focus (intro w hSw; clear hSw; go_simp; try (with_reducible rfl))
                try simp only [Act.put, sA, sZ, sS]
                refine wpAnyH_ready (rs := [18]) (by kernel_rfl) (by simp) ?_
                refine AllReadyH.cons (List.getElem?_toArray.trans rfl) (fun K hK => ?_) AllReadyH.nil
                obtain ⟨⟨s0, s1, s2⟩, s3, s4⟩ := V_4_5_13_17_14_15.out.cbox_st (i := 2) rfl
                have VX := Lib.hid (V_4_5_13_17_14_15.out.cbox_set (i := 2) rfl C1 (n + p) f1 C2 (m + q) f2)
                go_simp
                refine hK.out _ _ (List.forall_mem_cons.2 ⟨⟨(VX.out.cbox_at (i := 8) rfl).1, (VX.out.cbox_at (i := 8) rfl).2.2⟩, List.forall_mem_cons.2 ⟨⟨(VX.out.cbox_at (i := 8) rfl).2.1, (VX.out.cbox_at (i := 8) rfl).2.2⟩, List.forall_mem_cons.2 ⟨⟨(VX.out.cbox_at (i := 7) rfl).1, (VX.out.cbox_at (i := 7) rfl).2.2⟩, List.forall_mem_cons.2 ⟨⟨(VX.out.cbox_at (i := 7) rfl).2.1, (VX.out.cbox_at (i := 7) rfl).2.2⟩, fun _ h => by simp at h⟩⟩⟩⟩) (fun hHeld => ?_)
                clear hK K
                try simp only [Act.put, sA, sZ, sS]
                refine wpAnyH_done (by kernel_rfl) ?_ _
                clear hHeld
                go_wp2_with fail
                go_meet
                exact ⟨_, _, _, _, _, rfl, VX.out.pick [2, 4, 0, 6, 7, 8] (by decide) rfl⟩
              exact AllReadyH.nil
            refine AllReadyH.cons (List.getElem?_toArray.trans rfl) (fun K hK => ?_) ?_
            · obtain ⟨w_4_5_17, hw_4_5_17⟩ : ∃ z, z = w_4_5.alloc (.cells #[.slice none 0 0, .slice none 0 0] 25) := ⟨_, rfl⟩
              obtain ⟨g_4_5_17, hg_4_5_17⟩ : ∃ z, z = w_4_5.heap.size := ⟨_, rfl⟩
              have V_4_5_17 := Lib.hid (show Hp w (cbox g_4_5_17 none 0 0 none 0 0 :: snds C1 (n + p) f1 (X.s ++ Y.s) :: ⟨22, 1, .slice (some ⟨g_4, 0, none⟩) 2 2, 2, [.slice A n c, .slice P p e]⟩ :: cbox g2 none 0 0 none 0 0 :: cbox g1 P p e Q q f :: cbox g0 A n c B m d :: []) w_4_5_17 by rw [hw_4_5_17, hg_4_5_17]; exact V_4_5.out.cbox_new none 0 0 none 0 0)
              have B_4_5_17 := Lib.hid (show Below w_4_5.heap.size w_4_5 w_4_5_17 by rw [hw_4_5_17]; exact bnew _ _)
              have HW_4_5_17 := Lib.hid hw_4_5_17
              have HG_4_5_17 := Lib.hid hg_4_5_17
              clear hw_4_5_17 hg_4_5_17
              go_simp
              try rw [← HW_4_5_17.out]
              try rw [← HG_4_5_17.out]
              refine hK.out _ _ (hHeld.go B_4_5_17.out) (fun hHeld => ?_)
              clear hK K
              try simp only [Act.put, sA, sZ, sS]
              refine wpAnyH_ready (rs := [13]) (by kernel_rfl) (by simp) ?_
              refine AllReadyH.cons (List.getElem?_toArray.trans rfl) (fun K hK => ?_) AllReadyH.nil
              go_simp
              refine (moved_any Y.b q f Q (n : Int) _ HY.out.lb (by omega) (by omega) HBY.out (HY.out.cb.below V_4_5_17.out.below)).mono ?_
              rintro r w_4_5_17_13 ⟨QM, fM, rfl, hpM⟩
              rw [HY.out.lb] at hpM ⊢
              have V_4_5_17_13 := Lib.hid (show Hp w (nums QM q fM (upB (n : Int) Y.b) :: cbox g_4_5_17 none 0 0 none 0 0 :: snds C1 (n + p) f1 (X.s ++ Y.s) :: ⟨22, 1, .slice (some ⟨g_4, 0, none⟩) 2 2, 2, [.slice A n c, .slice P p e]⟩ :: cbox g2 none 0 0 none 0 0 :: cbox g1 P p e Q q f :: cbox g0 A n c B m d :: []) w_4_5_17_13 from V_4_5_17.out.join hpM)
              have hbM := hpM.below
              try go_wp2_with fail
              refine hK.out _ _ (hHeld.go hbM) (fun hHeld => ?_)
              clear hK K
              try simp only [Act.put, sA, sZ, sS]
              refine wpAnyH_ready (rs := [14]) (by kernel_rfl) (by simp) ?_
              refine AllReadyH.cons (List.getElem?_toArray.trans rfl) (fun K hK => ?_) AllReadyH.nil
              obtain ⟨w_4_5_17_13_14, hw_4_5_17_13_14⟩ : ∃ z, z = w_4_5_17_13.alloc (.cells #[.slice B m d, .slice QM q fM] 23) := ⟨_, rfl⟩
              obtain ⟨g_4_5_17_13_14, hg_4_5_17_13_14⟩ : ∃ z, z = w_4_5_17_13.heap.size := ⟨_, rfl⟩
              have V_4_5_17_13_14 := Lib.hid (show Hp w (⟨23, 1, .slice (some ⟨g_4_5_17_13_14, 0, none⟩) 2 2, 2, [.slice B m d, .slice QM q fM]⟩ :: nums QM q fM (upB (n : Int) Y.b) :: cbox g_4_5_17 none 0 0 none 0 0 :: snds C1 (n + p) f1 (X.s ++ Y.s) :: ⟨22, 1, .slice (some ⟨g_4, 0, none⟩) 2 2, 2, [.slice A n c, .slice P p e]⟩ :: cbox g2 none 0 0 none 0 0 :: cbox g1 P p e Q q f :: cbox g0 A n c B m d :: []) w_4_5_17_13_14 by rw [hw_4_5_17_13_14, hg_4_5_17_13_14]; exact V_4_5_17_13.out.lit 23 1 2 [.slice B m d, .slice QM q fM] rfl (by decide))
              have B_4_5_17_13_14 := Lib.hid (show Below w_4_5_17_13.heap.size w_4_5_17_13 w_4_5_17_13_14 by rw [hw_4_5_17_13_14]; exact bnew _ _)
              have HW_4_5_17_13_14 := Lib.hid hw_4_5_17_13_14
              have HG_4_5_17_13_14 := Lib.hid hg_4_5_17_13_14
              clear hw_4_5_17_13_14 hg_4_5_17_13_14
              go_simp
              try rw [← HW_4_5_17_13_14.out]
              try rw [← HG_4_5_17_13_14.out]
              refine hK.out _ _ (hHeld.go B_4_5_17_13_14.out) (fun hHeld => ?_)
              clear hK K
              try simp only [Act.put, sA, sZ, sS]
              refine wpAnyH_ready (rs := [15]) (by kernel_rfl) (by simp) ?_
              refine AllReadyH.cons (List.getElem?_toArray.trans rfl) (fun K hK => ?_) AllReadyH.nil
              go_simp
              refine (concat_int [(B, m, d), (QM, q, fM)] [ints X.b, ints (upB (n : Int) Y.b)] 2 2 _ _ rfl (by decide) (by rw [sumV2]; omega) (rws2 (V_4_5_17_13_14.out.cells (i := 0) (A := some ⟨g_4_5_17_13_14, 0, none⟩) (c := 2) rfl rfl) (by rw [ints_len, HX.out.lb, Nat.mul_one]) (by unfold upB; rw [ints_len, List.length_map, HY.out.lb, Nat.mul_one]) (HX.out.cb.below V_4_5_17_13_14.out.below) (V_4_5_17_13_14.out.cells (i := 1) (A := QM) (c := fM) rfl rfl) (ints_one' _) (ints_one' _))).mono ?_
              rintro r w_4_5_17_13_14_15 ⟨C2, f2, rfl, hpD⟩
              rw [sumV2] at hpD ⊢
              have V_4_5_17_13_14_15 := Lib.hid (show Hp w (nums C2 (m + q) f2 (X.b ++ upB (n : Int) Y.b) :: ⟨23, 1, .slice (some ⟨g_4_5_17_13_14, 0, none⟩) 2 2, 2, [.slice B m d, .slice QM q fM]⟩ :: nums QM q fM (upB (n : Int) Y.b) :: cbox g_4_5_17 none 0 0 none 0 0 :: snds C1 (n + p) f1 (X.s ++ Y.s) :: ⟨22, 1, .slice (some ⟨g_4, 0, none⟩) 2 2, 2, [.slice A n c, .slice P p e]⟩ :: cbox g2 none 0 0 none 0 0 :: cbox g1 P p e Q q f :: cbox g0 A n c B m d :: []) w_4_5_17_13_14_15 from V_4_5_17_13_14.out.join (show Hp _ [nums C2 (m + q) f2 (X.b ++ upB (n : Int) Y.b)] _ by unfold nums; rw [ints_cat]; simpa using hpD))
              have hbD := hpD.below
              try go_wp2_with fail
              refine hK.out _ _ (hHeld.go hbD) (fun hHeld => ?_)
              clear hK K
              try simp only [Act.put, sA, sZ, sS]
              refine tk 16 ?_ rfl ?_ ?_; rotate_left; focus (intro w hSw; clear hSw; go_simp; try (with_reducible rfl))
              try simp only [Act.put, sA, sZ, sS]
              refine wpAnyH_ready (rs := [18]) (by kernel_rfl) (by simp) ?_
              refine AllReadyH.cons (List.getElem?_toArray.trans rfl) (fun K hK => ?_) AllReadyH.nil
              obtain ⟨⟨s0, s1, s2⟩, s3, s4⟩ := V_4_5_17_13_14_15.out.cbox_st (i := 3) rfl
              have VX := Lib.hid (V_4_5_17_13_14_15.out.cbox_set (i := 3) rfl C1 (n + p) f1 C2 (m + q) f2)
              go_simp
              refine hK.out _ _ (List.forall_mem_cons.2 ⟨⟨(VX.out.cbox_at (i := 8) rfl).1, (VX.out.cbox_at (i := 8) rfl).2.2⟩, List.forall_mem_cons.2 ⟨⟨(VX.out.cbox_at (i := 8) rfl).2.1, (VX.out.cbox_at (i := 8) rfl).2.2⟩, List.forall_mem_cons.2 ⟨⟨(VX.out.cbox_at (i := 7) rfl).1, (VX.out.cbox_at (i := 7) rfl).2.2⟩, List.forall_mem_cons.2 ⟨⟨(VX.out.cbox_at (i := 7) rfl).2.1, (VX.out.cbox_at (i := 7) rfl).2.2⟩, fun _ h => by simp at h⟩⟩⟩⟩) (fun hHeld => ?_)
              clear hK K
              try simp only [Act.put, sA, sZ, sS]
              refine wpAnyH_done (by kernel_rfl) ?_ _
              clear hHeld
              go_wp2_with fail
              go_meet
              exact ⟨_, _, _, _, _, rfl, VX.out.pick [3, 4, 0, 6, 7, 8] (by decide) rfl⟩
            exact AllReadyH.nil
          refine AllReadyH.cons (List.getElem?_toArray.trans rfl) (fun K hK => ?_) ?_
          · obtain ⟨w_4_17, hw_4_17⟩ : ∃ z, z = w_4.alloc (.cells #[.slice none 0 0, .slice none 0 0] 25) := ⟨_, rfl⟩
            obtain ⟨g_4_17, hg_4_17⟩ : ∃ z, z = w_4.heap.size := ⟨_, rfl⟩
            have V_4_17 := Lib.hid (show Hp w (cbox g_4_17 none 0 0 none 0 0 :: ⟨22, 1, .slice (some ⟨g_4, 0, none⟩) 2 2, 2, [.slice A n c, .slice P p e]⟩ :: cbox g2 none 0 0 none 0 0 :: cbox g1 P p e Q q f :: cbox g0 A n c B m d :: []) w_4_17 by rw [hw_4_17, hg_4_17]; exact V_4.out.cbox_new none 0 0 none 0 0)
            have B_4_17 := Lib.hid (show Below w_4.heap.size w_4 w_4_17 by rw [hw_4_17]; exact bnew _ _)
            have HW_4_17 := Lib.hid hw_4_17
            have HG_4_17 := Lib.hid hg_4_17
            clear hw_4_17 hg_4_17
            go_simp
            try rw [← HW_4_17.out]
            try rw [← HG_4_17.out]
            refine hK.out _ _ (hHeld.go B_4_17.out) (fun hHeld => ?_)
            clear hK K
            try simp only [Act.put, sA, sZ, sS]
            refine wpAnyH_ready (rs := [5]) (by kernel_rfl) (by simp) ?_
            refine AllReadyH.cons (List.getElem?_toArray.trans rfl) (fun K hK => ?_) AllReadyH.nil
            go_simp
            refine (concat_snd [(A, n, c), (P, p, e)] [sndsC X.s, sndsC Y.s] 2 2 _ _ rfl (by decide) (by rw [sumV2]; omega) (rws2 (V_4_17.out.cells (i := 1) (A := some ⟨g_4, 0, none⟩) (c := 2) rfl rfl) (by rw [sndsC_len, HX.out.ls]) (by rw [sndsC_len, HY.out.ls]) (HX.out.cs.below V_4_17.out.below) (HY.out.cs.below V_4_17.out.below) (sndsC_one _) (sndsC_one _))).mono ?_
            rintro r w_4_17_5 ⟨C1, f1, rfl, hpC⟩
            rw [sumV2] at hpC ⊢
            have V_4_17_5 := Lib.hid (show Hp w (snds C1 (n + p) f1 (X.s ++ Y.s) :: cbox g_4_17 none 0 0 none 0 0 :: ⟨22, 1, .slice (some ⟨g_4, 0, none⟩) 2 2, 2, [.slice A n c, .slice P p e]⟩ :: cbox g2 none 0 0 none 0 0 :: cbox g1 P p e Q q f :: cbox g0 A n c B m d :: []) w_4_17_5 from V_4_17.out.join (show Hp _ [snds C1 (n + p) f1 (X.s ++ Y.s)] _ by unfold snds; rw [sndsC_cat]; simpa using hpC))
            have hbC := hpC.below
            try go_wp2_with fail
            refine hK.out _ _ (hHeld.go hbC) (fun hHeld => ?_)
            clear hK K
            try simp only [Act.put, sA, sZ, sS]
            refine wpAnyH_ready (rs := [13]) (by kernel_rfl) (by simp) ?_
            refine AllReadyH.cons (List.getElem?_toArray.trans rfl) (fun K hK => ?_) AllReadyH.nil
            go_simp
            refine (moved_any Y.b q f Q (n : Int) _ HY.out.lb (by omega) (by omega) HBY.out (HY.out.cb.below V_4_17_5.out.below)).mono ?_
            rintro r w_4_17_5_13 ⟨QM, fM, rfl, hpM⟩
            rw [HY.out.lb] at hpM ⊢
            have V_4_17_5_13 := Lib.hid (show Hp w (nums QM q fM (upB (n : Int) Y.b) :: snds C1 (n + p) f1 (X.s ++ Y.s) :: cbox g_4_17 none 0 0 none 0 0 :: ⟨22, 1, .slice (some ⟨g_4, 0, none⟩) 2 2, 2, [.slice A n c, .slice P p e]⟩ :: cbox g2 none 0 0 none 0 0 :: cbox g1 P p e Q q f :: cbox g0 A n c B m d :: []) w_4_17_5_13 from V_4_17_5.out.join hpM)
            have hbM := hpM.below
            try go_wp2_with fail
            refine hK.out _ _ (hHeld.go hbM) (fun hHeld => ?_)
            clear hK K
            try simp only [Act.put, sA, sZ, sS]
            refine wpAnyH_ready (rs := [14]) (by kernel_rfl) (by simp) ?_
            refine AllReadyH.cons (List.getElem?_toArray.trans rfl) (fun K hK => ?_) AllReadyH.nil
            obtain ⟨w_4_17_5_13_14, hw_4_17_5_13_14⟩ : ∃ z, z = w_4_17_5_13.alloc (.cells #[.slice B m d, .slice QM q fM] 23) := ⟨_, rfl⟩
            obtain ⟨g_4_17_5_13_14, hg_4_17_5_13_14⟩ : ∃ z, z = w_4_17_5_13.heap.size := ⟨_, rfl⟩
            have V_4_17_5_13_14 := Lib.hid (show Hp w (⟨23, 1, .slice (some ⟨g_4_17_5_13_14, 0, none⟩) 2 2, 2, [.slice B m d, .slice QM q fM]⟩ :: nums QM q fM (upB (n : Int) Y.b) :: snds C1 (n + p) f1 (X.s ++ Y.s) :: cbox g_4_17 none 0 0 none 0 0 :: ⟨22, 1, .slice (some ⟨g_4, 0, none⟩) 2 2, 2, [.slice A n c, .slice P p e]⟩ :: cbox g2 none 0 0 none 0 0 :: cbox g1 P p e Q q f :: cbox g0 A n c B m d :: []) w_4_17_5_13_14 by rw [hw_4_17_5_13_14, hg_4_17_5_13_14]; exact V_4_17_5_13.out.lit 23 1 2 [.slice B m d, .slice QM q fM] rfl (by decide))
            have B_4_17_5_13_14 := Lib.hid (show Below w_4_17_5_13.heap.size w_4_17_5_13 w_4_17_5_13_14 by rw [hw_4_17_5_13_14]; exact bnew _ _)
            have HW_4_17_5_13_14 := Lib.hid hw_4_17_5_13_14
            have HG_4_17_5_13_14 := Lib.hid hg_4_17_5_13_14
            clear hw_4_17_5_13_14 hg_4_17_5_13_14
            go_simp
            try rw [← HW_4_17_5_13_14.out]
            try rw [← HG_4_17_5_13_14.out]
            refine hK.out _ _ (hHeld.go B_4_17_5_13_14.out) (fun hHeld => ?_)
            clear hK K
            try simp only [Act.put, sA, sZ, sS]
            refine wpAnyH_ready (rs := [15]) (by kernel_rfl) (by simp) ?_
            refine AllReadyH.cons (List.getElem?_toArray.trans rfl) (fun K hK => ?_) AllReadyH.nil
            go_simp
            refine (concat_int [(B, m, d), (QM, q, fM)] [ints X.b, ints (upB (n : Int) Y.b)] 2 2 _ _ rfl (by decide) (by rw [sumV2]; omega) (rws2 (V_4_17_5_13_14.out.cells (i := 0) (A := some ⟨g_4_17_5_13_14, 0, none⟩) (c := 2) rfl rfl) (by rw [ints_len, HX.out.lb, Nat.mul_one]) (by unfold upB; rw [ints_len, List.length_map, HY.out.lb, Nat.mul_one]) (HX.out.cb.below V_4_17_5_13_14.out.below) (V_4_17_5_13_14.out.cells (i := 1) (A := QM) (c := fM) rfl rfl) (ints_one' _) (ints_one' _))).mono ?_
            rintro r w_4_17_5_13_14_15 ⟨C2, f2, rfl, hpD⟩
            rw [sumV2] at hpD ⊢
            have V_4_17_5_13_14_15 := Lib.hid (show Hp w (nums C2 (m + q) f2 (X.b ++ upB (n : Int) Y.b) :: ⟨23, 1, .slice (some ⟨g_4_17_5_13_14, 0, none⟩) 2 2, 2, [.slice B m d, .slice QM q fM]⟩ :: nums QM q fM (upB (n : Int) Y.b) :: snds C1 (n + p) f1 (X.s ++ Y.s) :: cbox g_4_17 none 0 0 none 0 0 :: ⟨22, 1, .slice (some ⟨g_4, 0, none⟩) 2 2, 2, [.slice A n c, .slice P p e]⟩ :: cbox g2 none 0 0 none 0 0 :: cbox g1 P p e Q q f :: cbox g0 A n c B m d :: []) w_4_17_5_13_14_15 from V_4_17_5_13_14.out.join (show Hp _ [nums C2 (m + q) f2 (X.b ++ upB (n : Int) Y.b)] _ by unfold nums; rw [ints_cat]; simpa using hpD))
            have hbD := hpD.below
            try go_wp2_with fail
            refine hK.out _ _ (hHeld.go hbD) (fun hHeld => ?_)
            clear hK K
            try simp only [Act.put, sA, sZ, sS]
            refine tk 16 ?_ rfl ?_ ?_; rotate_left; focus (intro w hSw; clear hSw; go_simp; try (with_reducible rfl))
            try simp only [Act.put, sA, sZ, sS]
            refine wpAnyH_ready (rs := [18]) (by kernel_rfl) (by simp) ?_
            refine AllReadyH.cons (List.getElem?_toArray.trans rfl) (fun K hK => ?_) AllReadyH.nil
            obtain ⟨⟨s0, s1, s2⟩, s3, s4⟩ := V_4_17_5_13_14_15.out.cbox_st (i := 4) rfl
            have VX := Lib.hid (V_4_17_5_13_14_15.out.cbox_set (i := 4) rfl C1 (n + p) f1 C2 (m + q) f2)
            go_simp
            refine hK.out _ _ (List.forall_mem_cons.2 ⟨⟨(VX.out.cbox_at (i := 8) rfl).1, (VX.out.cbox_at (i := 8) rfl).2.2⟩, List.forall_mem_cons.2 ⟨⟨(VX.out.cbox_at (i := 8) rfl).2.1, (VX.out.cbox_at (i := 8) rfl).2.2⟩, List.forall_mem_cons.2 ⟨⟨(VX.out.cbox_at (i := 7) rfl).1, (VX.out.cbox_at (i := 7) rfl).2.2⟩, List.forall_mem_cons.2 ⟨⟨(VX.out.cbox_at (i := 7) rfl).2.1, (VX.out.cbox_at (i := 7) rfl).2.2⟩, fun _ h => by simp at h⟩⟩⟩⟩) (fun hHeld => ?_)
            clear hK K
            try simp only [Act.put, sA, sZ, sS]
            refine wpAnyH_done (by kernel_rfl) ?_ _
            clear hHeld
            go_wp2_with fail
            go_meet
            exact ⟨_, _, _, _, _, rfl, VX.out.pick [4, 3, 0, 6, 7, 8] (by decide) rfl⟩
          exact AllReadyH.nil
        refine AllReadyH.cons (List.getElem?_toArray.trans rfl) (fun K hK => ?_) ?_
        · obtain ⟨w_17, hw_17⟩ : ∃ z, z = wf.alloc (.cells #[.slice none 0 0, .slice none 0 0] 25) := ⟨_, rfl⟩
          obtain ⟨g_17, hg_17⟩ : ∃ z, z = wf.heap.size := ⟨_, rfl⟩
          have V_17 := Lib.hid (show Hp w (cbox g_17 none 0 0 none 0 0 :: cbox g2 none 0 0 none 0 0 :: cbox g1 P p e Q q f :: cbox g0 A n c B m d :: []) w_17 by rw [hw_17, hg_17]; exact Vwf.out.cbox_new none 0 0 none 0 0)
          have B_17 := Lib.hid (show Below wf.heap.size wf w_17 by rw [hw_17]; exact bnew _ _)
          have HW_17 := Lib.hid hw_17
          have HG_17 := Lib.hid hg_17
          clear hw_17 hg_17
          go_simp
          try rw [← HW_17.out]
          try rw [← HG_17.out]
          refine hK.out _ _ (hHeld.go B_17.out) (fun hHeld => ?_)
          clear hK K
          try simp only [Act.put, sA, sZ, sS]
          refine wpAnyH_ready (rs := [4]) (by kernel_rfl) (by simp) ?_
          refine AllReadyH.cons (List.getElem?_toArray.trans rfl) (fun K hK => ?_) AllReadyH.nil
          obtain ⟨w_17_4, hw_17_4⟩ : ∃ z, z = w_17.alloc (.cells #[.slice A n c, .slice P p e] 22) := ⟨_, rfl⟩
          obtain ⟨g_17_4, hg_17_4⟩ : ∃ z, z = w_17.heap.size := ⟨_, rfl⟩
          have V_17_4 := Lib.hid (show Hp w (⟨22, 1, .slice (some ⟨g_17_4, 0, none⟩) 2 2, 2, [.slice A n c, .slice P p e]⟩ :: cbox g_17 none 0 0 none 0 0 :: cbox g2 none 0 0 none 0 0 :: cbox g1 P p e Q q f :: cbox g0 A n c B m d :: []) w_17_4 by rw [hw_17_4, hg_17_4]; exact V_17.out.lit 22 1 2 [.slice A n c, .slice P p e] rfl (by decide))
          have B_17_4 := Lib.hid (show Below w_17.heap.size w_17 w_17_4 by rw [hw_17_4]; exact bnew _ _)
          have HW_17_4 := Lib.hid hw_17_4
          have HG_17_4 := Lib.hid hg_17_4
          clear hw_17_4 hg_17_4
          go_simp
          try rw [← HW_17_4.out]
          try rw [← HG_17_4.out]
          refine hK.out _ _ (hHeld.go B_17_4.out) (fun hHeld => ?_)
          clear hK K
          try simp only [Act.put, sA, sZ, sS]
          refine wpAnyH_ready (rs := [5]) (by kernel_rfl) (by simp) ?_
          refine AllReadyH.cons (List.getElem?_toArray.trans rfl) (fun K hK => ?_) AllReadyH.nil
          go_simp
          refine (concat_snd [(A, n, c), (P, p, e)] [sndsC X.s, sndsC Y.s] 2 2 _ _ rfl (by decide) (by rw [sumV2]; omega) (rws2 (V_17_4.out.cells (i := 0) (A := some ⟨g_17_4, 0, none⟩) (c := 2) rfl rfl) (by rw [sndsC_len, HX.out.ls]) (by rw [sndsC_len, HY.out.ls]) (HX.out.cs.below V_17_4.out.below) (HY.out.cs.below V_17_4.out.below) (sndsC_one _) (sndsC_one _))).mono ?_
          rintro r w_17_4_5 ⟨C1, f1, rfl, hpC⟩
          rw [sumV2] at hpC ⊢
          have V_17_4_5 := Lib.hid (show Hp w (snds C1 (n + p) f1 (X.s ++ Y.s) :: ⟨22, 1, .slice (some ⟨g_17_4, 0, none⟩) 2 2, 2, [.slice A n c, .slice P p e]⟩ :: cbox g_17 none 0 0 none 0 0 :: cbox g2 none 0 0 none 0 0 :: cbox g1 P p e Q q f :: cbox g0 A n c B m d :: []) w_17_4_5 from V_17_4.out.join (show Hp _ [snds C1 (n + p) f1 (X.s ++ Y.s)] _ by unfold snds; rw [sndsC_cat]; simpa using hpC))
          have hbC := hpC.below
          try go_wp2_with fail
          refine hK.out _ _ (hHeld.go hbC) (fun hHeld => ?_)
          clear hK K
          try simp only [Act.put, sA, sZ, sS]
          refine wpAnyH_ready (rs := [13]) (by kernel_rfl) (by simp) ?_
          refine AllReadyH.cons (List.getElem?_toArray.trans rfl) (fun K hK => ?_) AllReadyH.nil
          go_simp
          refine (moved_any Y.b q f Q (n : Int) _ HY.out.lb (by omega) (by omega) HBY.out (HY.out.cb.below V_17_4_5.out.below)).mono ?_
          rintro r w_17_4_5_13 ⟨QM, fM, rfl, hpM⟩
          rw [HY.out.lb] at hpM ⊢
          have V_17_4_5_13 := Lib.hid (show Hp w (nums QM q fM (upB (n : Int) Y.b) :: snds C1 (n + p) f1 (X.s ++ Y.s) :: ⟨22, 1, .slice (some ⟨g_17_4, 0, none⟩) 2 2, 2, [.slice A n c, .slice P p e]⟩ :: cbox g_17 none 0 0 none 0 0 :: cbox g2 none 0 0 none 0 0 :: cbox g1 P p e Q q f :: cbox g0 A n c B m d :: []) w_17_4_5_13 from V_17_4_5.out.join hpM)
          have hbM := hpM.below
          try go_wp2_with fail
          refine hK.out _ _ (hHeld.go hbM) (fun hHeld => ?_)
          clear hK K
          try simp only [Act.put, sA, sZ, sS]
          refine wpAnyH_ready (rs := [14]) (by kernel_rfl) (by simp) ?_
          refine AllReadyH.cons (List.getElem?_toArray.trans rfl) (fun K hK => ?_) AllReadyH.nil
          obtain ⟨w_17_4_5_13_14, hw_17_4_5_13_14⟩ : ∃ z, z = w_17_4_5_13.alloc (.cells #[.slice B m d, .slice QM q fM] 23) := ⟨_, rfl⟩
          obtain ⟨g_17_4_5_13_14, hg_17_4_5_13_14⟩ : ∃ z, z = w_17_4_5_13.heap.size := ⟨_, rfl⟩
          have V_17_4_5_13_14 := Lib.hid (show Hp w (⟨23, 1, .slice (some ⟨g_17_4_5_13_14, 0, none⟩) 2 2, 2, [.slice B m d, .slice QM q fM]⟩ :: nums QM q fM (upB (n : Int) Y.b) :: snds C1 (n + p) f1 (X.s ++ Y.s) :: ⟨22, 1, .slice (some ⟨g_17_4, 0, none⟩) 2 2, 2, [.slice A n c, .slice P p e]⟩ :: cbox g_17 none 0 0 none 0 0 :: cbox g2 none 0 0 none 0 0 :: cbox g1 P p e Q q f :: cbox g0 A n c B m d :: []) w_17_4_5_13_14 by rw [hw_17_4_5_13_14, hg_17_4_5_13_14]; exact V_17_4_5_13.out.lit 23 1 2 [.slice B m d, .slice QM q fM] rfl (by decide))
          have B_17_4_5_13_14 := Lib.hid (show Below w_17_4_5_13.heap.size w_17_4_5_13 w_17_4_5_13_14 by rw [hw_17_4_5_13_14]; exact bnew _ _)
          have HW_17_4_5_13_14 := Lib.hid hw_17_4_5_13_14
          have HG_17_4_5_13_14 := Lib.hid hg_17_4_5_13_14
          clear hw_17_4_5_13_14 hg_17_4_5_13_14
          go_simp
          try rw [← HW_17_4_5_13_14.out]
          try rw [← HG_17_4_5_13_14.out]
          refine hK.out _ _ (hHeld.go B_17_4_5_13_14.out) (fun hHeld => ?_)
          clear hK K
          try simp only [Act.put, sA, sZ, sS]
          refine wpAnyH_ready (rs := [15]) (by kernel_rfl) (by simp) ?_
          refine AllReadyH.cons (List.getElem?_toArray.trans rfl) (fun K hK => ?_) AllReadyH.nil
          go_simp
          refine (concat_int [(B, m, d), (QM, q, fM)] [ints X.b, ints (upB (n : Int) Y.b)] 2 2 _ _ rfl (by decide) (by rw [sumV2]; omega) (rws2 (V_17_4_5_13_14.out.cells (i := 0) (A := some ⟨g_17_4_5_13_14, 0, none⟩) (c := 2) rfl rfl) (by rw [ints_len, HX.out.lb, Nat.mul_one]) (by unfold upB; rw [ints_len, List.length_map, HY.out.lb, Nat.mul_one]) (HX.out.cb.below V_17_4_5_13_14.out.below) (V_17_4_5_13_14.out.cells (i := 1) (A := QM) (c := fM) rfl rfl) (ints_one' _) (ints_one' _))).mono ?_
          rintro r w_17_4_5_13_14_15 ⟨C2, f2, rfl, hpD⟩
          rw [sumV2] at hpD ⊢
          have V_17_4_5_13_14_15 := Lib.hid (show Hp w (nums C2 (m + q) f2 (X.b ++ upB (n : Int) Y.b) :: ⟨23, 1, .slice (some ⟨g_17_4_5_13_14, 0, none⟩) 2 2, 2, [.slice B m d, .slice QM q fM]⟩ :: nums QM q fM (upB (n : Int) Y.b) :: snds C1 (n + p) f1 (X.s ++ Y.s) :: ⟨22, 1, .slice (some ⟨g_17_4, 0, none⟩) 2 2, 2, [.slice A n c, .slice P p e]⟩ :: cbox g_17 none 0 0 none 0 0 :: cbox g2 none 0 0 none 0 0 :: cbox g1 P p e Q q f :: cbox g0 A n c B m d :: []) w_17_4_5_13_14_15 from V_17_4_5_13_14.out.join (show Hp _ [nums C2 (m + q) f2 (X.b ++ upB (n : Int) Y.b)] _ by unfold nums; rw [ints_cat]; simpa using hpD))
          have hbD := hpD.below
          try go_wp2_with fail
          refine hK.out _ _ (hHeld.go hbD) (fun hHeld => ?_)
          clear hK K
          try simp only [Act.put, sA, sZ, sS]
          refine tk 16 ?_ rfl ?_ ?_; rotate_left; focus (intro w hSw; clear hSw; go_simp; try (with_reducible rfl))
          try simp only [Act.put, sA, sZ, sS]
          refine wpAnyH_ready (rs := [18]) (by kernel_rfl) (by simp) ?_
          refine AllReadyH.cons (List.getElem?_toArray.trans rfl) (fun K hK => ?_) AllReadyH.nil
          obtain ⟨⟨s0, s1, s2⟩, s3, s4⟩ := V_17_4_5_13_14_15.out.cbox_st (i := 5) rfl
          have VX := Lib.hid (V_17_4_5_13_14_15.out.cbox_set (i := 5) rfl C1 (n + p) f1 C2 (m + q) f2)
          go_simp
          refine hK.out _ _ (List.forall_mem_cons.2 ⟨⟨(VX.out.cbox_at (i := 8) rfl).1, (VX.out.cbox_at (i := 8) rfl).2.2⟩, List.forall_mem_cons.2 ⟨⟨(VX.out.cbox_at (i := 8) rfl).2.1, (VX.out.cbox_at (i := 8) rfl).2.2⟩, List.forall_mem_cons.2 ⟨⟨(VX.out.cbox_at (i := 7) rfl).1, (VX.out.cbox_at (i := 7) rfl).2.2⟩, List.forall_mem_cons.2 ⟨⟨(VX.out.cbox_at (i := 7) rfl).2.1, (VX.out.cbox_at (i := 7) rfl).2.2⟩, fun _ h => by simp at h⟩⟩⟩⟩) (fun hHeld => ?_)
          clear hK K
          try simp only [Act.put, sA, sZ, sS]
          refine wpAnyH_done (by kernel_rfl) ?_ _
          clear hHeld
          go_wp2_with fail
          go_meet
          exact ⟨_, _, _, _, _, rfl, VX.out.pick [5, 3, 0, 6, 7, 8] (by decide) rfl⟩
        exact AllReadyH.nil
      case rest =>
        obtain ⟨g, C1, f1, C2, f2, rfl, hV⟩ := hcut
        have V4 := Lib.hid hV
        clear hV V3 V2
        obtain ⟨b0, b1, bg⟩ := V4.out.cbox_at (i := 0) rfl
        go_wp2_with fail
        refine (toolarge_any C1 (n + p) f1 C2 (m + q) f2 _).mono ?_
        rintro r w4 ⟨rfl, hb4⟩
        have V5 := Lib.hid (V4.out.go hb4)
        clear hb4 b0 b1 bg
        obtain ⟨b0, b1, bg⟩ := V5.out.cbox_at (i := 0) rfl
        obtain ⟨⟨s0, s1, s2⟩, s3, s4⟩ := V5.out.cbox_st (i := 3) rfl
        by_cases hbig : 12 < n + p ∨ 12 < m + q
        · rw [show bigB (n + p) (m + q) = true by unfold bigB; simpa using hbig]
          have HE := Lib.hid (show jnR X Y = (⟨[], []⟩, 3) by rw [HR.out, if_pos hbig])
          have V6 := Lib.hid (V5.out.cbox_set (i := 3) rfl none 0 0 none 0 0)
          obtain ⟨u0, u1, ug⟩ := V6.out.cbox_at (i := 3) rfl
          clear hbig
          go_wp2_with fail
          refine bodyPost_ret (v := .tuple #[.agg #[.slice none 0 0, .slice none 0 0], .int .i64 3]) (by simp [results, Try.results24, go_sem, u0, u1]) rfl ?_
          exact ⟨none, 0, 0, none, 0, 0, by rw [HE.out], by rw [HE.out]; exact cin_none _, by rw [HE.out]; exact ((V6.out.nil_row (nums none 0 0 []) rfl rfl rfl).nil_row (snds none 0 0 []) rfl rfl rfl).pick [0, 1] (by decide) rfl⟩
        · rw [show bigB (n + p) (m + q) = false by unfold bigB; simpa using hbig]
          have HE := Lib.hid (show jnR X Y = (jnC X Y, 0) by rw [HR.out, if_neg hbig])
          have V6 := Lib.hid (V5.out.cbox_set (i := 3) rfl C1 (n + p) f1 C2 (m + q) f2)
          obtain ⟨u0, u1, ug⟩ := V6.out.cbox_at (i := 3) rfl
          clear hbig
          go_wp2_with fail
          refine bodyPost_ret (v := .tuple #[.agg #[.slice C1 (n + p) f1, .slice C2 (m + q) f2], .int .i64 0]) (by simp [results, Try.results24, go_sem, u0, u1]) rfl ?_
          refine ⟨C1, n + p, f1, C2, m + q, f2, by rw [HE.out], ?_, by rw [HE.out]; show Hp w [snds C1 (n + p) f1 (X.s ++ Y.s), nums C2 (m + q) f2 (X.b ++ upB (X.s.length : Int) Y.b)] _; rw [HX.out.ls]; exact V6.out.pick [1, 2] (by decide) rfl⟩
          rw [HE.out]
          refine ⟨by show (X.s ++ Y.s).length = n + p; rw [List.length_append, HX.out.ls, HY.out.ls], by show (X.b ++ upB _ Y.b).length = m + q; unfold upB; rw [List.length_append, List.length_map, HX.out.lb, HY.out.lb], by omega, by omega, fun x hx => ?_, V6.out.cells (i := 1) (A := C1) (c := f1) rfl rfl, ?_⟩
          · rcases List.mem_append.1 hx with hx | hx
            · exact HX.out.ht x hx
            · exact HY.out.ht x hx
          · show CellsIn _ C2 (ints (X.b ++ upB (X.s.length : Int) Y.b))
            rw [HX.out.ls]
            exact V6.out.cells (i := 2) (A := C2) (c := f2) rfl rfl
    · have HE := Lib.hid (show jnR X Y = (⟨[], []⟩, u) by unfold jnR; rw [if_neg (by simp [HV.out]), HU.out, if_pos h1])
      have hne : (u != 0) = true := bne_yes h1
      obtain ⟨⟨s0, s1, s2⟩, s3, s4⟩ := V3.out.cbox_st (i := 0) rfl
      have V6 := Lib.hid (V3.out.cbox_set (i := 0) rfl none 0 0 none 0 0)
      obtain ⟨u0, u1, ug⟩ := V6.out.cbox_at (i := 0) rfl
      clear h1
      go_wp2_with fail
      refine bodyPost_ret (v := .tuple #[.agg #[.slice none 0 0, .slice none 0 0], .int .i64 u]) (by simp [results, Try.results24, go_sem, u0, u1]) rfl ?_
      exact ⟨none, 0, 0, none, 0, 0, by rw [HE.out], by rw [HE.out]; exact cin_none _, by rw [HE.out]; exact ((V6.out.nil_row (nums none 0 0 []) rfl rfl rfl).nil_row (snds none 0 0 []) rfl rfl rfl).pick [0, 1] (by decide) rfl⟩
  · have HE := Lib.hid (show jnR X Y = (⟨[], []⟩, v) by unfold jnR; rw [HV.out, if_pos h0])
    have hne : (v != 0) = true := bne_yes h0
    obtain ⟨⟨s0, s1, s2⟩, s3, s4⟩ := V2.out.cbox_st (i := 0) rfl
    have V6 := Lib.hid (V2.out.cbox_set (i := 0) rfl none 0 0 none 0 0)
    obtain ⟨u0, u1, ug⟩ := V6.out.cbox_at (i := 0) rfl
    clear h0
    go_wp2_with fail
    refine bodyPost_ret (v := .tuple #[.agg #[.slice none 0 0, .slice none 0 0], .int .i64 v]) (by simp [results, Try.results24, go_sem, u0, u1]) rfl ?_
    exact ⟨none, 0, 0, none, 0, 0, by rw [HE.out], by rw [HE.out]; exact cin_none _, by rw [HE.out]; exact ((V6.out.nil_row (nums none 0 0 []) rfl rfl rfl).nil_row (snds none 0 0 []) rfl rfl rfl).pick [0, 1] (by decide) rfl⟩
end Go.Proofs.Ythcdbhancfpldaa
